import PyProof.Rows.All
import Wide.All
import OpenK.AllK
import Wide.FinOn
import HandS.ForMost
import HandS.ForExc
import HandS.Walk
import HandS.Deep
import HandS.Zip
import HandS.IsInst
import HandS.Wide
import HandS.TupMul
import HandS.TupAny
import HandS.TupLe
import HandS.Conv
import HandS.ExcField
import KE.KeyNested
import HandS.Style
import KE.GoesEnum
import KE.GoesEnumKw
import PyProof.WalksMore
import KE.KDictKeyed
import HandS.Dict
import HandS.Iter
import KE.KDictDisplayH
import KE.LtSeq
import KE.LtData
import PyProof.ConsumeWalk
import KE.SortData
import KE.KDictSum
import KE.KDictCopyH
import HandS.Rev
import HandS.RevRange
import HandS.DictComp
import HandS.Flow
import KE.KSortTup
import HandS.Flt
import KE.KDictPairs
import PySem.Challenge.RW_movedfolders_k05_what_comes_about_withou
set_option Elab.async false
set_option linter.all false
set_option maxRecDepth 100000
set_option maxHeartbeats 4000000
namespace DL
open PySem PySem.Spec PyProof.Rows L2

abbrev D := PyData
/-! equality and shape of data, told so that the kernel runs them quickly -/
def natsEq : List Nat → List Nat → Bool
  | [], [] => true
  | a :: r, b :: t => match Nat.beq a b with
    | true => natsEq r t
    | false => false
  | _, _ => false
theorem natsEq_eq : ∀ a b : List Nat, natsEq a b = decide (a = b)
  | [], [] => rfl
  | [], _ :: _ => rfl
  | _ :: _, [] => rfl
  | a :: r, b :: t => by
    unfold natsEq
    cases e : Nat.beq a b with
    | true =>
      have q : a = b := Nat.eq_of_beq_eq_true e
      subst q
      show natsEq r t = _
      rw [natsEq_eq r t]
      simp
    | false =>
      have q : a ≠ b := Nat.ne_of_beq_eq_false e
      simp [q]
def strEq : Str → Str → Bool
  | ⟨⟨a⟩⟩, ⟨⟨b⟩⟩ => natsEq a b
theorem strEq_eq (a b : Str) : strEq a b = (a == b) := by
  obtain ⟨⟨a⟩⟩ := a
  obtain ⟨⟨b⟩⟩ := b
  show natsEq a b = _
  rw [natsEq_eq]
  by_cases h : a = b
  · subst h
    simp
  · have q : (⟨⟨a⟩⟩ : Str) ≠ ⟨⟨b⟩⟩ := fun z => h (by injection z with z; injection z)
    have w : ((⟨⟨a⟩⟩ : Str) == ⟨⟨b⟩⟩) = false := by
      cases e : ((⟨⟨a⟩⟩ : Str) == ⟨⟨b⟩⟩) with
      | false => rfl
      | true => exact absurd (eq_of_beq e) q
    rw [w]
    simp [h]
def intEq : Int → Int → Bool
  | .ofNat a, .ofNat b => Nat.beq a b
  | .negSucc a, .negSucc b => Nat.beq a b
  | _, _ => false
theorem intEq_eq (a b : Int) : intEq a b = (a == b) := by
  cases a with
  | ofNat a =>
    cases b with
    | ofNat b =>
      show Nat.beq a b = _
      cases e : Nat.beq a b with
      | true => rw [Nat.eq_of_beq_eq_true e]; simp
      | false => have := Nat.ne_of_beq_eq_false e; simp; omega
    | negSucc b => rfl
  | negSucc a =>
    cases b with
    | ofNat b => rfl
    | negSucc b =>
      show Nat.beq a b = _
      cases e : Nat.beq a b with
      | true => rw [Nat.eq_of_beq_eq_true e]; simp
      | false => have := Nat.ne_of_beq_eq_false e; simp; omega
def eqL (f : D → D → Bool) : List D → List D → Bool
  | [], [] => true
  | x :: r, y :: t => match f x y with
    | true => eqL f r t
    | false => false
  | _, _ => false
theorem eqL_eq {f : D → D → Bool} (h : ∀ x y, f x y = PyData.eqv x y) : ∀ a b : List D, eqL f a b = PyData.eqvAll a b
  | [], [] => rfl
  | [], _ :: _ => rfl
  | _ :: _, [] => rfl
  | a :: r, b :: t => by
    unfold eqL
    rw [h a b]
    simp only [PyData.eqvAll]
    cases PyData.eqv a b with
    | true => exact (eqL_eq h r t).trans (Bool.true_and _).symm
    | false => rfl
def eqF : Nat → D → D → Bool
  | 0, x, y => PyData.eqv x y
  | n + 1, x, y => match x with
    | .tuple xs => (match y with
      | .tuple ys => eqL (eqF n) xs ys
      | y => PyData.eqv (.tuple xs) y)
    | .int a => (match y with
      | .int b => intEq a b
      | y => PyData.eqv (.int a) y)
    | .str a => (match y with
      | .str b => strEq a b
      | y => PyData.eqv (.str a) y)
    | x => PyData.eqv x y
theorem eqF_eq : ∀ (n : Nat) (x y : D), eqF n x y = PyData.eqv x y
  | 0, _, _ => rfl
  | n + 1, .tuple xs, y => by
    cases y with
    | tuple ys =>
      show eqL (eqF n) xs ys = _
      rw [eqL_eq (eqF_eq n)]
      simp only [PyData.eqv]
    | _ => rfl
  | n + 1, .int a, y => by
    cases y with
    | int b =>
      show intEq a b = _
      rw [intEq_eq]
      simp only [PyData.eqv]
    | _ => rfl
  | n + 1, .str a, y => by
    cases y with
    | str b =>
      show strEq a b = _
      rw [strEq_eq]
      simp only [PyData.eqv]
    | _ => rfl
  | n + 1, .none, _ => rfl
  | n + 1, .bool _, _ => rfl
  | n + 1, .list _, _ => rfl
  | n + 1, .dict _, _ => rfl
/-- a value of the layer: data, the number of a mutable cell, the script -/
inductive W where
  | d (x : D) | c (n : Nat) | sc (ns : List Int) | fd (kvs : List (D × D)) | rg (lo hi : Int)
/-- a mutable object: given up, a list -/
inductive Cell where
  | dead | lst (xs : List D) | dct (kvs : List (D × D)) | dcr (kvs : List (D × Nat))
abbrev CS := List Cell
/-- an exception: its class's number, its one field -/
structure Exn where
  cls : Nat
  arg : D
inductive R (a : Type) where
  | ok (x : a) (s : CS) | exc (e : Exn) (s : CS) | bad
abbrev En := List (Option W)
abbrev fE := En → CS → R W
def R.bind {a b : Type} (r : R a) (k : a → CS → R b) : R b := match r with
  | .ok x s => k x s
  | .exc e s => .exc e s
  | .bad => .bad

/-- the written part, by which the script may be read; the world, by which texts are hashed -/
class KFrag where
  K : PySem.W.Frag
  w : World
/-- a frame over the written part -/
class HK [KFrag] (X : Cx) : Prop where
  eq : X.K = KFrag.K
section
variable [KFrag]
/-! ### lists and tuples that no one changes -/
/-- a tuple of the written part -/
def KTp (a : Addr) (xs : List V) : Prop := ∃ (o : Obj) (its : Array Value) (n : Nat), KFrag.K.lookup a = some o ∧ o.cls = .type "tuple" ∧ o.data = .seq its n ∧ its.size ≤ sizeLine ∧ Vals xs its.toList
def FL (H : Hp) (A : Addr → Prop) (a : Addr) (xs : List V) : Prop := H a = some (.lst xs) ∧ ¬ A a
def FT (H : Hp) (A : Addr → Prop) (a : Addr) (xs : List V) : Prop := (H a = some (.tup xs) ∧ ¬ A a) ∨ KTp a xs
section
variable {K : PySem.W.Frag} {H H' : Hp} {A A' : Addr → Prop} {a : Addr} {xs : List V}
theorem FL.sq (h : FL H A a xs) : SqL K H a xs := .of h.1
theorem FT.sq {X : Cx} [e : HK X] (h : FT H A a xs) : SqT X.K H a xs := h.elim (fun h => .of h.1) fun h => .inr (by rw [e.eq]; exact h)
theorem FT.kp {H H' : Hp} {A A' : Addr → Prop} (k : ∀ b o, H b = some o → ¬ A b → H' b = some o) (k2 : ∀ b o, H b = some o → ¬ A b → ¬ A' b) (h : FT H A a xs) : FT H' A' a xs := h.imp (fun h => ⟨k _ _ h.1 h.2, k2 _ _ h.1 h.2⟩) id
end
mutual
inductive Fz (H : Hp) (A : Addr → Prop) : V → D → Prop
  | non : Fz H A .non .none
  | bl (b : Bool) : Fz H A (.bl b) (.bool b)
  | int (i : Int) : Fz H A (.int i) (.int i)
  | str (x : Str) : Fz H A (.str x) (.str x)
  | lst {a : Addr} {xs : List V} {ds : List D} : FL H A a xs → Fzs H A xs ds → Fz H A (.ref a) (.list ds)
  | tup {a : Addr} {xs : List V} {ds : List D} : FT H A a xs → Fzs H A xs ds → Fz H A (.ref a) (.tuple ds)
inductive Fzs (H : Hp) (A : Addr → Prop) : List V → List D → Prop
  | nil : Fzs H A [] []
  | cons {v : V} {vs : List V} {d : D} {ds : List D} : Fz H A v d → Fzs H A vs ds → Fzs H A (v :: vs) (d :: ds)
end
section
variable {K : PySem.W.Frag} {H H' : Hp} {A A' : Addr → Prop}
mutual
theorem Fz.dp {X : Cx} [HK X] : ∀ {v : V} {d : D}, Fz H A v d → Dp X.K H v d
  | _, _, .non => .non
  | _, _, .bl b => .bl b
  | _, _, .int i => .int i
  | _, _, .str x => .str x
  | _, _, .lst h t => .lst h.sq (Fzs.dp t)
  | _, _, .tup h t => .tup h.sq (Fzs.dp t)
theorem Fzs.dp {X : Cx} [HK X] : ∀ {v : List V} {d : List D}, Fzs H A v d → DpAll X.K H v d
  | _, _, .nil => .nil
  | _, _, .cons h t => .cons (Fz.dp h) (Fzs.dp t)
end
/-- what keeps the objects that are no cells, and makes cells of none of them -/
structure Kp (H H' : Hp) (A A' : Addr → Prop) : Prop where
  keep : ∀ a o, H a = some o → ¬ A a → H' a = some o
  new : ∀ a o, H a = some o → ¬ A a → ¬ A' a
mutual
theorem Fz.kp (k : Kp H H' A A') : ∀ {v : V} {d : D}, Fz H A v d → Fz H' A' v d
  | _, _, .non => .non
  | _, _, .bl b => .bl b
  | _, _, .int i => .int i
  | _, _, .str x => .str x
  | _, _, .lst h t => .lst ⟨k.keep _ _ h.1 h.2, k.new _ _ h.1 h.2⟩ (Fzs.kp k t)
  | _, _, .tup h t => .tup (h.kp k.keep k.new) (Fzs.kp k t)
theorem Fzs.kp (k : Kp H H' A A') : ∀ {v : List V} {d : List D}, Fzs H A v d → Fzs H' A' v d
  | _, _, .nil => .nil
  | _, _, .cons h t => .cons (Fz.kp k h) (Fzs.kp k t)
end
theorem Fz.mono (k : ∀ a, A' a → A a) {v : V} {d : D} (h : Fz H A v d) : Fz H A' v d := h.kp ⟨fun _ _ e _ => e, fun a _ _ n z => n (k a z)⟩
theorem Fzs.mono (k : ∀ a, A' a → A a) {v : List V} {d : List D} (h : Fzs H A v d) : Fzs H A' v d := h.kp ⟨fun _ _ e _ => e, fun a _ _ n z => n (k a z)⟩
theorem Fz.same (k : Same H H') {v : V} {d : D} (h : Fz H A v d) : Fz H' A v d := h.kp ⟨fun a o e _ => k a o e, fun _ _ _ n => n⟩
theorem Fzs.same (k : Same H H') {v : List V} {d : List D} (h : Fzs H A v d) : Fzs H' A v d := h.kp ⟨fun a o e _ => k a o e, fun _ _ _ n => n⟩
theorem Fzs.len : ∀ {v : List V} {d : List D}, Fzs H A v d → v.length = d.length
  | _, _, .nil => rfl
  | _, _, .cons _ t => by rw [List.length_cons, List.length_cons, Fzs.len t]
theorem Fzs.get : ∀ {v : List V} {d : List D} {i : Nat} {x : D}, Fzs H A v d → d[i]? = some x → ∃ y, v[i]? = some y ∧ Fz H A y x
  | _, _, _, _, .nil, e => by simp at e
  | _, _, 0, _, .cons h _, e => by simp at e; subst e; exact ⟨_, rfl, h⟩
  | _, _, i + 1, x, .cons _ t, e => by
    obtain ⟨y, h1, h2⟩ := Fzs.get (i := i) (x := x) t (by simpa using e)
    exact ⟨y, by simpa using h1, h2⟩
theorem Fzs.getV : ∀ {v : List V} {d : List D} {i : Nat} {y : V}, Fzs H A v d → v[i]? = some y → ∃ x, d[i]? = some x ∧ Fz H A y x
  | _, _, _, _, .nil, e => by simp at e
  | _, _, 0, _, .cons h _, e => by simp at e; subst e; exact ⟨_, rfl, h⟩
  | _, _, i + 1, x, .cons _ t, e => by
    obtain ⟨y, h1, h2⟩ := Fzs.getV (i := i) (y := x) t (by simpa using e)
    exact ⟨y, by simpa using h1, h2⟩
theorem Fzs.app : ∀ {v w : List V} {d e : List D}, Fzs H A v d → Fzs H A w e → Fzs H A (v ++ w) (d ++ e)
  | _, _, _, _, .nil, h => h
  | _, _, _, _, .cons h t, s => .cons h (Fzs.app t s)
theorem Fzs.take : ∀ {v : List V} {d : List D} (n : Nat), Fzs H A v d → Fzs H A (v.take n) (d.take n)
  | _, _, 0, _ => .nil
  | _, _, _ + 1, .nil => .nil
  | _, _, n + 1, .cons h t => .cons h (Fzs.take n t)
theorem Fzs.drop : ∀ {v : List V} {d : List D} (n : Nat), Fzs H A v d → Fzs H A (v.drop n) (d.drop n)
  | _, _, 0, h => h
  | _, _, _ + 1, .nil => .nil
  | _, _, n + 1, .cons _ t => Fzs.drop n t
end


/-! ### dicts whose keys are tuples -/
mutual
/-- a key, up to == -/
def nkey : D → Option NestedKey
  | .none => some .none
  | .bool b => some (.num (if b = true then 1 else 0))
  | .int i => some (.num i)
  | .str x => some (.text x)
  | .tuple xs => (nkeys xs).map .tup
  | _ => none
def nkeys : List D → Option (List NestedKey)
  | [] => some []
  | x :: xs => match nkey x, nkeys xs with
    | some k, some ks => some (k :: ks)
    | _, _ => none
end
/-- the dict at a, its entries by keys and values -/
def DObj (w : World) (a : Addr) (es : List (NestedKey × Addr × V)) : HO := .ext fun h => (a == sysModules) = false ∧ es.length ≤ sizeLine ∧ ∃ xs : List (NestedKey × Addr × Value),
  Paired (fun (e : NestedKey × Addr × V) (x : NestedKey × Addr × Value) => e.1 = x.1 ∧ e.2.1 = x.2.1 ∧ RelV e.2.2 x.2.2) es xs ∧
  ∃ o eps ep, h.get? a = some o ∧ o.ExactDict ∧ o.data = .dict eps ep ∧ eps.toList = xs.map (fun x => (⟨x.1.hash w, .ref x.2.1, x.2.2⟩ : DictEntry)) ∧ (xs.map (·.1)).Nodup
inductive KPs (H : Hp) (A : Addr → Prop) : List (NestedKey × Addr × V) → List (D × D) → Prop
  | nil : KPs H A [] []
  | cons {k : NestedKey} {a : Addr} {v : V} {es : List (NestedKey × Addr × V)} {x y : D} {ds : List (D × D)} : nkey x = some k → k.depth ≤ 8 → Fz H A (.ref a) x → Fz H A v y → KPs H A es ds → KPs H A ((k, a, v) :: es) ((x, y) :: ds)
theorem KPs.kp {H H' : Hp} {A A' : Addr → Prop} (k : Kp H H' A A') : ∀ {es : List (NestedKey × Addr × V)} {ds : List (D × D)}, KPs H A es ds → KPs H' A' es ds
  | _, _, .nil => .nil
  | _, _, .cons a d b c t => .cons a d (b.kp k) (c.kp k) (KPs.kp k t)
/-! dicts whose keys are whole numbers; a mark stands ahead of what they hold -/
inductive IKs (H : Hp) (A : Addr → Prop) : List (Key × V) → List (D × D) → Prop
  | nil : IKs H A [] []
  | cons {i : Int} {v : V} {ks : List (Key × V)} {y : D} {ds : List (D × D)} : Fz H A v y → IKs H A ks ds → IKs H A ((.inl i, v) :: ks) ((.int i, y) :: ds)
theorem IKs.kp {H H' : Hp} {A A' : Addr → Prop} (k : Kp H H' A A') : ∀ {ks : List (Key × V)} {ds : List (D × D)}, IKs H A ks ds → IKs H' A' ks ds
  | _, _, .nil => .nil
  | _, _, .cons c t => .cons (c.kp k) (IKs.kp k t)
def mark : D × D := (.none, .none)
def unm : List (D × D) → Bool
  | (.none, _) :: _ => false
  | _ => true
theorem unm_mark {r : List (D × D)} : ¬ unm (mark :: r) = true := by simp [unm, mark]
/-! ### the cells -/
def lv (μ : List Addr) (s : CS) (a : Addr) : Prop := ∃ (n : Nat) (c : Cell), μ[n]? = some a ∧ s[n]? = some c ∧ c ≠ Cell.dead
def Av (B : Addr → Prop) (μ : List Addr) (s : CS) (a : Addr) : Prop := B a ∨ lv μ s a
/-- a dict whose values are cells -/
inductive KRs (μ : List Addr) (H : Hp) (A : Addr → Prop) : List (NestedKey × Addr × V) → List (D × Nat) → Prop
  | nil : KRs μ H A [] []
  | cons {k : NestedKey} {a b : Addr} {es : List (NestedKey × Addr × V)} {x : D} {n : Nat} {ds : List (D × Nat)} : nkey x = some k → k.depth ≤ 8 → Fz H A (.ref a) x → μ[n]? = some b → KRs μ H A es ds → KRs μ H A ((k, a, .ref b) :: es) ((x, n) :: ds)
theorem KRs.kp {μ : List Addr} {H H' : Hp} {A A' : Addr → Prop} (k : Kp H H' A A') : ∀ {es : List (NestedKey × Addr × V)} {ds : List (D × Nat)}, KRs μ H A es ds → KRs μ H' A' es ds
  | _, _, .nil => .nil
  | _, _, .cons a d b c t => .cons a d (b.kp k) c (KRs.kp k t)
theorem KRs.mu {μ μ' : List Addr} {H : Hp} {A : Addr → Prop} (k : ∀ (n : Nat) (b : Addr), μ[n]? = some b → μ'[n]? = some b) : ∀ {es : List (NestedKey × Addr × V)} {ds : List (D × Nat)}, KRs μ H A es ds → KRs μ' H A es ds
  | _, _, .nil => .nil
  | _, _, .cons a d b c t => .cons a d b (k _ _ c) (KRs.mu k t)
def CellOk (μ : List Addr) (H : Hp) (A : Addr → Prop) (a : Addr) : Cell → Prop
  | .dead => True
  | .lst ds => ∃ xs, H a = some (.lst xs) ∧ Fzs H A xs ds
  | .dct ds => (∃ es, H a = some (DObj KFrag.w a es) ∧ KPs H A es ds) ∨ ∃ ks r, ds = mark :: r ∧ H a = some (.dK ks) ∧ IKs H A ks r
  | .dcr ds => ∃ es, H a = some (DObj KFrag.w a es) ∧ KRs μ H A es ds
theorem CellOk.kp {μ : List Addr} {H H' : Hp} {A A' : Addr → Prop} {a : Addr} {c : Cell} (k : Kp H H' A A') (e : ∀ o, H a = some o → H' a = some o) (h : CellOk μ H A a c) : CellOk μ H' A' a c := by
  cases c with
  | dead => trivial
  | lst ds => obtain ⟨xs, z, f⟩ := h; exact ⟨xs, e _ z, f.kp k⟩
  | dct ds =>
    rcases h with ⟨xs, z, f⟩ | ⟨ks, r, q, z, f⟩
    · exact .inl ⟨xs, e _ z, f.kp k⟩
    · exact .inr ⟨ks, r, q, e _ z, f.kp k⟩
  | dcr ds => obtain ⟨es, z, f⟩ := h; exact ⟨es, e _ z, f.kp k⟩
theorem CellOk.mu {μ μ' : List Addr} {H : Hp} {A : Addr → Prop} {a : Addr} {c : Cell} (k : ∀ (n : Nat) (b : Addr), μ[n]? = some b → μ'[n]? = some b) (h : CellOk μ H A a c) : CellOk μ' H A a c := by
  cases c with
  | dead => trivial
  | lst ds => exact h
  | dct ds => exact h
  | dcr ds => obtain ⟨es, z, f⟩ := h; exact ⟨es, z, f.mu k⟩
structure SR (B : Addr → Prop) (μ : List Addr) (s : CS) (H : Hp) : Prop where
  len : μ.length = s.length
  inj : ∀ (n m : Nat) (a : Addr), μ[n]? = some a → μ[m]? = some a → n = m
  th : ∀ (n : Nat) (a : Addr), μ[n]? = some a → H a ≠ none
  nb : ∀ (n : Nat) (a : Addr), μ[n]? = some a → ¬ B a
  bt : ∀ a, B a → H a ≠ none
  cell : ∀ (n : Nat) (a : Addr) (c : Cell), μ[n]? = some a → s[n]? = some c → CellOk μ H (Av B μ s) a c
/-- from one state to a later one -/
structure Stp (μ : List Addr) (s : CS) (H : Hp) (μ' : List Addr) (s' : CS) (H' : Hp) : Prop where
  pre : ∃ t, μ' = μ ++ t
  keep : ∀ a o, H a = some o → ¬ lv μ s a → H' a = some o
  th : ∀ a, H a ≠ none → H' a ≠ none
  new : ∀ a, lv μ' s' a → lv μ s a ∨ H a = none
section
variable {K : PySem.W.Frag} {B : Addr → Prop} {μ μ' μ'' : List Addr} {s s' s'' : CS} {H H' H'' : Hp}
theorem Stp.refl : Stp μ s H μ s H := ⟨⟨[], by simp⟩, fun _ _ e _ => e, fun _ e => e, fun _ e => .inl e⟩
theorem Stp.trans (a : Stp μ s H μ' s' H') (b : Stp μ' s' H' μ'' s'' H'') : Stp μ s H μ'' s'' H'' where
  pre := by
    obtain ⟨t, rfl⟩ := a.pre
    obtain ⟨u, rfl⟩ := b.pre
    exact ⟨t ++ u, by simp⟩
  keep := fun x o e n => b.keep x o (a.keep x o e n) fun z => (a.new x z).elim n fun q => by rw [e] at q; cases q
  th := fun x e => b.th x (a.th x e)
  new := fun x z => (b.new x z).elim (a.new x) fun q => .inr (by
    cases h : H x with
    | none => rfl
    | some o => exact absurd q (a.th x (by rw [h]; simp)))
theorem Stp.kp (a : Stp μ s H μ' s' H') : Kp H H' (Av B μ s) (Av B μ' s') :=
  ⟨fun x o e n => a.keep x o e fun z => n (.inr z), fun x o e n z => z.elim (fun b => n (.inl b)) fun l => (a.new x l).elim (fun q => n (.inr q)) fun q => by rw [e] at q; cases q⟩
/-- the heap grows, the cells stay -/
theorem SR.same (r : SR B μ s H) (k : Same H H') : SR B μ s H' where
  len := r.len
  inj := r.inj
  th := fun n a e => by
    cases h : H a with
    | none => exact absurd h (r.th n a e)
    | some o => rw [k _ _ h]; simp
  nb := r.nb
  bt := fun a b => by
    cases h : H a with
    | none => exact absurd h (r.bt a b)
    | some o => rw [k _ _ h]; simp
  cell := fun n a c e1 e2 => by
    exact (r.cell n a c e1 e2).kp ⟨fun b o e _ => k b o e, fun _ _ _ n => n⟩ fun o e => k _ _ e
theorem Stp.same (k : Same H H') : Stp μ s H μ s H' :=
  ⟨⟨[], by simp⟩, fun a o e _ => k a o e, fun a e => by
    cases h : H a with
    | none => exact absurd h e
    | some o => rw [k _ _ h]; simp, fun _ e => .inl e⟩
end

/-! ### what stands for what -/
/-- a dict, a range, that no one changes -/
def FD (H : Hp) (A : Addr → Prop) (v : V) (ds : List (D × D)) : Prop := (∃ a o es, v = .ref a ∧ H a = some (.frz o (DObj KFrag.w a es)) ∧ ¬ A a ∧ KPs H A es ds) ∨ ∃ a o ks r, ds = mark :: r ∧ v = .ref a ∧ H a = some (.frz o (.dK ks)) ∧ ¬ A a ∧ IKs H A ks r
theorem FD.un {H : Hp} {A : Addr → Prop} {v : V} {ds : List (D × D)} (h : FD H A v ds) (u : unm ds = true) : ∃ a o es, v = .ref a ∧ H a = some (.frz o (DObj KFrag.w a es)) ∧ ¬ A a ∧ KPs H A es ds :=
  h.elim (fun h => h) fun ⟨_, _, _, _, e, _⟩ => absurd u (by rw [e]; exact unm_mark)
theorem FD.mk {H : Hp} {A : Addr → Prop} {v : V} {r : List (D × D)} (h : FD H A v (mark :: r)) : ∃ a o ks, v = .ref a ∧ H a = some (.frz o (.dK ks)) ∧ ¬ A a ∧ IKs H A ks r := by
  rcases h with ⟨_, _, _, _, _, _, k⟩ | ⟨a, o, ks, r', e, q⟩
  · cases k with
    | cons e1 _ f _ _ => cases f
  · cases e
    exact ⟨a, o, ks, q⟩
def FR (H : Hp) (A : Addr → Prop) (v : V) (lo hi : Int) : Prop := ∃ a, v = .ref a ∧ H a = some (.rng lo hi) ∧ ¬ A a
theorem FD.kp {H H' : Hp} {A A' : Addr → Prop} {v : V} {ds : List (D × D)} (k : Kp H H' A A') (h : FD H A v ds) : FD H' A' v ds :=
  h.elim (fun ⟨a, o, es, e, h1, h2, h3⟩ => .inl ⟨a, o, es, e, k.keep _ _ h1 h2, k.new _ _ h1 h2, h3.kp k⟩) fun ⟨a, o, ks, r, q, e, h1, h2, h3⟩ => .inr ⟨a, o, ks, r, q, e, k.keep _ _ h1 h2, k.new _ _ h1 h2, h3.kp k⟩
theorem FR.kp {H H' : Hp} {A A' : Addr → Prop} {v : V} {lo hi : Int} (k : Kp H H' A A') (h : FR H A v lo hi) : FR H' A' v lo hi :=
  let ⟨a, e, h1, h2⟩ := h; ⟨a, e, k.keep _ _ h1 h2, k.new _ _ h1 h2⟩
def KSc (a : Addr) (ns : List Int) : Prop := ∃ (o : Obj) (its : Array Value) (n : Nat), KFrag.K.lookup a = some o ∧ o.cls = .type "list" ∧ o.dict = none ∧ o.data = .seq its n ∧ its.size ≤ sizeLine ∧ Vals (ns.map V.int) its.toList
/-- b stands for a -/
class Rp (a : Type) (b : outParam Type) where
  rel : (Addr → Prop) → List Addr → CS → Hp → b → a → Prop
  stp : ∀ {B : Addr → Prop} {μ μ' : List Addr} {s s' : CS} {H H' : Hp} {v : b} {w : a}, Stp μ s H μ' s' H' → rel B μ s H v w → rel B μ' s' H' v w
def RW (B : Addr → Prop) (μ : List Addr) (s : CS) (H : Hp) (v : V) : W → Prop
  | .d x => Fz H (Av B μ s) v x
  | .c n => ∃ a, v = .ref a ∧ μ[n]? = some a
  | .sc ns => ∃ a, v = .ref a ∧ ((∃ o, H a = some (.frz o (.lst (ns.map V.int))) ∧ ¬ lv μ s a) ∨ KSc a ns)
  | .fd ds => FD H (Av B μ s) v ds
  | .rg lo hi => FR H (Av B μ s) v lo hi
theorem RW.stp {B : Addr → Prop} {μ μ' : List Addr} {s s' : CS} {H H' : Hp} (a : Stp μ s H μ' s' H') {v : V} {w : W} (h : RW B μ s H v w) : RW B μ' s' H' v w := by
  cases w with
  | d x => exact Fz.kp a.kp h
  | c n =>
    obtain ⟨b, e, q⟩ := h
    obtain ⟨t, rfl⟩ := a.pre
    refine ⟨b, e, ?_⟩
    rw [List.getElem?_append_left (List.getElem?_eq_some_iff.mp q).1]
    exact q
  | sc ns =>
    obtain ⟨b, e, h⟩ := h
    rcases h with ⟨o, q, n⟩ | h
    · exact ⟨b, e, .inl ⟨o, a.keep _ _ q n, fun z => (a.new b z).elim n fun y => by rw [q] at y; cases y⟩⟩
    · exact ⟨b, e, .inr h⟩
  | fd ds => exact FD.kp a.kp h
  | rg lo hi => exact FR.kp a.kp h
instance : Rp W V := ⟨RW, fun a h => RW.stp a h⟩
inductive RWs (B : Addr → Prop) (μ : List Addr) (s : CS) (H : Hp) : List V → List W → Prop
  | nil : RWs B μ s H [] []
  | cons {v : V} {w : W} {vs : List V} {ws : List W} : RW B μ s H v w → RWs B μ s H vs ws → RWs B μ s H (v :: vs) (w :: ws)
theorem RWs.stp {B : Addr → Prop} {μ μ' : List Addr} {s s' : CS} {H H' : Hp} (a : Stp μ s H μ' s' H') : ∀ {v : List V} {w : List W}, RWs B μ s H v w → RWs B μ' s' H' v w
  | _, _, .nil => .nil
  | _, _, .cons h t => .cons (h.stp a) (RWs.stp a t)
instance : Rp (List W) (List V) := ⟨RWs, fun a h => RWs.stp a h⟩
instance : Rp Bool Bool := ⟨fun _ _ _ _ b a => b = a, fun _ h => h⟩
instance : Rp (Option Int) (Option Int) := ⟨fun _ _ _ _ b a => b = a, fun _ h => h⟩
structure ER (B : Addr → Prop) (μ : List Addr) (s : CS) (H : Hp) (σ : L2.St) (ρ : En) : Prop where
  len : σ.length = ρ.length
  at_ : ∀ (i : Nat) (w : W), ρ[i]? = some (some w) → ∃ v, σ[i]? = some (some v) ∧ RW B μ s H v w
section
variable {B : Addr → Prop} {μ μ' : List Addr} {s s' : CS} {H H' : Hp} {σ : L2.St} {ρ : En}
theorem ER.stp (a : Stp μ s H μ' s' H') (h : ER B μ s H σ ρ) : ER B μ' s' H' σ ρ :=
  ⟨h.len, fun i w e => let ⟨v, e1, e2⟩ := h.at_ i w e; ⟨v, e1, e2.stp a⟩⟩
theorem ER.set (h : ER B μ s H σ ρ) {v : V} {w : W} (r : RW B μ s H v w) (i : Nat) : ER B μ s H (σ.set i (some v)) (ρ.set i (some w)) := by
  refine ⟨by rw [List.length_set, List.length_set]; exact h.len, fun j u e => ?_⟩
  by_cases hij : i = j
  · subst hij
    have hl : i < ρ.length := by
      have := (List.getElem?_eq_some_iff.mp e).1
      rwa [List.length_set] at this
    rw [List.getElem?_set_self hl] at e
    have hl' : i < σ.length := by rw [h.len]; exact hl
    cases e
    exact ⟨v, by rw [List.getElem?_set_self hl'], r⟩
  · rw [List.getElem?_set_ne hij] at e
    rw [List.getElem?_set_ne hij]
    exact h.at_ j u e
end

/-! ### what is wanted -/
abbrev TX := Nat → Addr × Str
abbrev WXc := Value → Option Addr → L2.St → Hp → Prop
def ExV (T : TX) (A : Addr → Prop) (H : Hp) (e : Exn) (c : Value) (d : Option Addr) : Prop :=
  c = .ref (T e.cls).1 ∧ ∃ dd v, d = some dd ∧ H dd = some (.xd [((T e.cls).2, v)]) ∧ Fz H A v e.arg
section
variable {a b : Type} [Rp a b]
def Fin (T : TX) (Wx : WXc) (B : Addr → Prop) (μ : List Addr) (s : CS) (H : Hp) (σ : L2.St) (Q : b → Hp → Prop) : R a → Prop
  | .ok w s' => ∀ v μ' H', Stp μ s H μ' s' H' → SR B μ' s' H' → Rp.rel B μ' s' H' v w → Q v H'
  | .exc e s' => ∀ μ' H' c d, Stp μ s H μ' s' H' → SR B μ' s' H' → ExV T (Av B μ' s') H' e c d → Wx c d σ H'
  | .bad => False
def tD (T : TX) (Wx : WXc) (f : En → CS → R a) : L2.St → Hp → (b → Hp → Prop) → Prop := fun σ H Q => ∃ B μ s ρ, SR B μ s H ∧ ER B μ s H σ ρ ∧ Fin T Wx B μ s H σ Q (f ρ s)
end
section
variable {a b c d : Type} [Rp a b] [Rp c d] {T : TX} {Wx : WXc} {B : Addr → Prop} {μ μ' : List Addr} {s s' : CS} {H H' : Hp} {σ : L2.St} {ρ : En} {Q : b → Hp → Prop} {Qc : d → Hp → Prop}
theorem Fin.stp (st : Stp μ s H μ' s' H') {r : R a} (h : Fin T Wx B μ s H σ Q r) : Fin T Wx B μ' s' H' σ Q r := by
  cases r with
  | ok w t => exact fun v m h1 b c d => h v m h1 (st.trans b) c d
  | exc e t => exact fun m h1 c d b x y => h m h1 c d (st.trans b) x y
  | bad => exact h
theorem tD_bind {f : En → CS → R a} {g : a → CS → R c} {k : b → Hp → Prop} (r : SR B μ s H) (e : ER B μ s H σ ρ) (q : Fin T Wx B μ s H σ Qc ((f ρ s).bind g))
    (h : ∀ w s1 v μ1 H1, Stp μ s H μ1 s1 H1 → SR B μ1 s1 H1 → ER B μ1 s1 H1 σ ρ → Rp.rel B μ1 s1 H1 v w → Fin T Wx B μ1 s1 H1 σ Qc (g w s1) → k v H1) : tD T Wx f σ H k := by
  refine ⟨B, μ, s, ρ, r, e, ?_⟩
  cases z : f ρ s with
  | ok w s1 =>
    rw [z] at q
    intro v μ1 H1 a b c
    exact h w s1 v μ1 H1 a b (e.stp a) c (Fin.stp a q)
  | exc x s1 =>
    rw [z] at q
    exact q
  | bad =>
    rw [z] at q
    exact q
/-- a value that is at hand, the cells as they are, the heap grown -/
theorem Fin.use {w : a} {v : b} (q : Fin T Wx B μ s H σ Q (.ok w s)) (k : Same H H') (r : SR B μ s H) (h : Rp.rel B μ s H' v w) : Q v H' := q v μ H' (Stp.same k) (r.same k) h
theorem Fin.here {w : a} {v : b} (q : Fin T Wx B μ s H σ Q (.ok w s)) (r : SR B μ s H) (h : Rp.rel B μ s H v w) : Q v H := q v μ H Stp.refl r h
end
end
end DL
namespace DL
open PySem PySem.Spec PyProof.Rows L2
section
variable [KFrag]

/-! ### expressions -/
theorem PE_imp {X : Cx} {e : Expr} {t t' : TE} (h : PE X e t) (k : ∀ σ H Q, t' σ H Q → t σ H Q) : PE X e t' := ⟨fun pins s σ H Q I z => h.run pins s σ H Q I (k _ _ _ z)⟩
theorem PT_imp {X : Cx} {e : Expr} {t t' : TT} (h : PT X e t) (k : ∀ σ H Q, t' σ H Q → t σ H Q) : PT X e t' := ⟨fun pins s σ H Q I z => h.run pins s σ H Q I (k _ _ _ z)⟩
theorem PW_imp {X : Cx} {e : Expr} {t t' : TT} (h : PW X e t) (k : ∀ σ H Q, t' σ H Q → t σ H Q) : PW X e t' := ⟨fun w pins s σ H Q I z => h.run w pins s σ H Q I (k _ _ _ z)⟩
theorem PA_imp {X : Cx} {e : List Expr} {t t' : TA} (h : PA X e t) (k : ∀ σ H Q, t' σ H Q → t σ H Q) : PA X e t' := ⟨fun pos pins s σ H Q I z => h.run pos pins s σ H Q I (k _ _ _ z)⟩
theorem PS_imp {X : Cx} {e : Stmt} {t t' : TS} (h : PS X e t) (k : ∀ D σ H, t' D σ H → t D σ H) : PS X e t' := ⟨fun pins s σ H D I z => h.run pins s σ H D I (k _ _ _ z)⟩
theorem PSs_imp {X : Cx} {e : List Stmt} {t t' : TS} (h : PSs X e t) (k : ∀ D σ H, t' D σ H → t D σ H) : PSs X e t' := ⟨fun pins s σ H D I z => h.run pins s σ H D I (k _ _ _ z)⟩

abbrev DE (X : Cx) (T : TX) (Wx : WXc) (e : Expr) (f : En → CS → R W) : Prop := PE X e (tD T Wx f)
abbrev DA (X : Cx) (T : TX) (Wx : WXc) (e : List Expr) (f : En → CS → R (List W)) : Prop := PA X e (tD T Wx f)
abbrev DT (X : Cx) (T : TX) (Wx : WXc) (e : Expr) (f : En → CS → R Bool) : Prop := PT X e (tD T Wx f)
abbrev DW (X : Cx) (T : TX) (Wx : WXc) (e : Expr) (f : En → CS → R Bool) : Prop := PW X e (tD T Wx f)

section
variable {X : Cx} [HK X] {T : TX} {Wx : WXc}

def fVar (i : Nat) (ρ : En) (s : CS) : R W := match ρ[i]? with
  | some (some w) => .ok w s
  | _ => .bad
def fC (x : D) (_ : En) (s : CS) : R W := .ok (.d x) s
theorem de_var {i : Nat} {e : Expr} (h : PE X e (tVar i)) : DE X T Wx e (fVar i) := PE_imp h fun σ H Q ⟨B, μ, s, ρ, r, e, q⟩ => by
  unfold fVar at q
  cases z : ρ[i]? with
  | none => rw [z] at q; exact q.elim
  | some o =>
    cases o with
    | none => rw [z] at q; exact q.elim
    | some w =>
      rw [z] at q
      obtain ⟨v, h1, h2⟩ := e.at_ i w z
      exact ⟨v, h1, Fin.here q r h2⟩
theorem de_const {e : Expr} {v : V} {x : D} (h : PE X e (tC v)) (k : ∀ (H : Hp) A, Fz H A v x) : DE X T Wx e (fC x) := PE_imp h fun σ H Q ⟨B, μ, s, ρ, r, _, q⟩ =>
  Fin.here (a := W) (w := .d x) q r (k _ _)
theorem de_int {i j pos} : DE X T Wx (.Constant (.int i) j pos) (fC (.int i)) := de_const pe_int fun _ _ => .int i
theorem de_bool {i j pos} : DE X T Wx (.Constant (.bool i) j pos) (fC (.bool i)) := de_const pe_bl fun _ _ => .bl i
theorem de_none {j pos} : DE X T Wx (.Constant .none j pos) (fC .none) := de_const pe_non fun _ _ => .non
theorem de_str {x j pos} : DE X T Wx (.Constant (.str x) j pos) (fC (.str x)) := de_const pe_str fun _ _ => .str x
/-- a module's int -/
theorem de_gint {x : Str} {i : Int} {t : Tok} {pos : Pos} (hg : Gl X x) (hm : X.mg x = some (.int i t)) (hd : (x == ("__debug__" : Str)) = false := by decide) : DE X T Wx (.Name x pos) (fC (.int i)) :=
  de_const (v := .int i) (pe_glob hg hm (show ∃ t', Value.int i t = Value.int i t' from ⟨t, rfl⟩) hd) fun _ _ => .int i

/-! arguments -/
def fNil (_ : En) (s : CS) : R (List W) := .ok [] s
def fCons (f : En → CS → R W) (g : En → CS → R (List W)) (ρ : En) (s : CS) : R (List W) := (f ρ s).bind fun w s => (g ρ s).bind fun ws s => .ok (w :: ws) s
theorem da_nil : DA X T Wx [] fNil := PA_imp pa_nil fun σ H Q ⟨B, μ, s, ρ, r, _, q⟩ => Fin.here (a := List W) (w := []) q r RWs.nil
theorem da_cons {e : Expr} {es : List Expr} {f : En → CS → R W} {g : En → CS → R (List W)} (h : DE X T Wx e f) (k : DA X T Wx es g) (hs : starEach (e :: es) X.env = (false, eval e X.env) :: starEach es X.env := by rfl) : DA X T Wx (e :: es) (fCons f g) :=
  PA_imp (pa_cons h k hs) fun σ H Q ⟨B, μ, s, ρ, r, e, q⟩ =>
    tD_bind r e q fun w s1 v μ1 H1 st1 r1 e1 rel1 q1 => tD_bind r1 e1 q1 fun ws s2 vs μ2 H2 st2 r2 e2 rel2 q2 =>
      Fin.here (a := List W) q2 r2 (RWs.cons (Rp.stp (a := W) (b := V) st2 rel1) rel2)

/-! values by values -/
def allD : List W → Option (List D)
  | [] => some []
  | .d x :: r => (allD r).map (x :: ·)
  | _ :: _ => none
def lift1 (g : D → Option D) (w : W) (s : CS) : R W := match w with
  | .d x => match g x with
    | some z => .ok (.d z) s
    | none => .bad
  | _ => .bad
def lift2 (g : D → D → Option D) (w u : W) (s : CS) : R W := match w, u with
  | .d x, .d y => match g x y with
    | some z => .ok (.d z) s
    | none => .bad
  | _, _ => .bad
def liftN (g : List D → Option D) (ws : List W) (s : CS) : R W := match allD ws with
  | some xs => match g xs with
    | some z => .ok (.d z) s
    | none => .bad
  | none => .bad
def Bt (H : Hp) (A : Addr → Prop) : Prop := ∀ a, A a → H a ≠ none
theorem SR.bt' {B : Addr → Prop} {μ : List Addr} {s : CS} {H : Hp} (r : SR B μ s H) : Bt H (Av B μ s) := fun a h => h.elim (r.bt a) fun ⟨n, _, e, _⟩ => r.th n a e
/-- an operation of two values, as a function of data -/
def rD (g : D → D → Option D) : R2 := fun x y H Q => ∃ A dx dy z, Bt H A ∧ Fz H A x dx ∧ Fz H A y dy ∧ g dx dy = some z ∧ ∀ v H', Same H H' → Fz H' A v z → Q v H'
def rD1 (g : D → Option D) : V → Hp → VK → Prop := fun x H Q => ∃ A dx z, Bt H A ∧ Fz H A x dx ∧ g dx = some z ∧ ∀ v H', Same H H' → Fz H' A v z → Q v H'
def rDs (g : List D → Option D) : List V → Hp → VK → Prop := fun xs H Q => ∃ A ds z, Bt H A ∧ Fzs H A xs ds ∧ g ds = some z ∧ ∀ v H', Same H H' → Fz H' A v z → Q v H'
def f2 (g : D → D → Option D) (fa fb : En → CS → R W) (ρ : En) (s : CS) : R W := (fa ρ s).bind fun x s => (fb ρ s).bind fun y s => lift2 g x y s
def f1 (g : D → Option D) (fa : En → CS → R W) (ρ : En) (s : CS) : R W := (fa ρ s).bind fun x s => lift1 g x s
def fN (g : List D → Option D) (fs : En → CS → R (List W)) (ρ : En) (s : CS) : R W := (fs ρ s).bind fun xs s => liftN g xs s
section
variable {B : Addr → Prop} {μ : List Addr} {s : CS} {H : Hp} {σ : L2.St} {Q : VK}
theorem lift2_use {g : D → D → Option D} {w u : W} {x y : V} (r : SR B μ s H) (hw : RW B μ s H x w) (hu : RW B μ s H y u) (q : Fin T Wx B μ s H σ Q (lift2 g w u s)) : rD g x y H Q := by
  cases w with
  | c n => exact q.elim
  | sc n => exact q.elim
  | fd n => exact q.elim
  | rg n m => exact q.elim
  | d dx =>
    cases u with
    | c n => exact q.elim
    | sc n => exact q.elim
    | fd n => exact q.elim
    | rg n m => exact q.elim
    | d dy =>
      unfold lift2 at q
      cases e : g dx dy with
      | none => simp only [e] at q; exact q.elim
      | some z =>
        simp only [e] at q
        exact ⟨Av B μ s, dx, dy, z, r.bt', hw, hu, e, fun v H' k f => Fin.use (a := W) (w := .d z) q k r f⟩
theorem lift1_use {g : D → Option D} {w : W} {x : V} (r : SR B μ s H) (hw : RW B μ s H x w) (q : Fin T Wx B μ s H σ Q (lift1 g w s)) : rD1 g x H Q := by
  cases w with
  | c n => exact q.elim
  | sc n => exact q.elim
  | fd n => exact q.elim
  | rg n m => exact q.elim
  | d dx =>
    unfold lift1 at q
    cases e : g dx with
    | none => simp only [e] at q; exact q.elim
    | some z =>
      simp only [e] at q
      exact ⟨Av B μ s, dx, z, r.bt', hw, e, fun v H' k f => Fin.use (a := W) (w := .d z) q k r f⟩
theorem allD_fz : ∀ {ws : List W} {xs : List V} {ds : List D}, allD ws = some ds → RWs B μ s H xs ws → Fzs H (Av B μ s) xs ds
  | _, _, _, e, .nil => by cases e; exact .nil
  | w :: ws, _, ds, e, .cons h t => by
    cases w with
    | c n => cases e
    | sc n => cases e
    | fd n => cases e
    | rg n m => cases e
    | d x =>
      unfold allD at e
      cases z : allD ws with
      | none => rw [z] at e; cases e
      | some l =>
        rw [z] at e
        cases e
        exact .cons h (allD_fz z t)
theorem liftN_use {g : List D → Option D} {ws : List W} {xs : List V} (r : SR B μ s H) (hw : RWs B μ s H xs ws) (q : Fin T Wx B μ s H σ Q (liftN g ws s)) : rDs g xs H Q := by
  unfold liftN at q
  cases e : allD ws with
  | none => simp only [e] at q; exact q.elim
  | some ds =>
    simp only [e] at q
    cases e2 : g ds with
    | none => simp only [e2] at q; exact q.elim
    | some z =>
      simp only [e2] at q
      exact ⟨Av B μ s, ds, z, r.bt', allD_fz e hw, e2, fun v H' k f => Fin.use (a := W) (w := .d z) q k r f⟩
end
abbrev DOp (X : Cx) (f : Value → Value → Sem Value) (g : D → D → Option D) : Prop := OpR X f (rD g)
section
variable {a b c : Expr} {fa fb fc : En → CS → R W} {pos : Pos} {g g' : D → D → Option D}
/-- the reading of a two-place operation -/
theorem t2_use {fa fb : En → CS → R W} {σ : L2.St} {H : Hp} {Q : VK} (h : tD T Wx (f2 g fa fb) σ H Q) : tOp (rD g) (tD T Wx fa) (tD T Wx fb) σ H Q := by
  obtain ⟨B, μ, s, ρ, r, e, q⟩ := h
  exact tD_bind r e q fun w s1 v μ1 H1 st1 r1 e1 rel1 q1 => tD_bind r1 e1 q1 fun u s2 x μ2 H2 st2 r2 e2 rel2 q2 => lift2_use r2 (Rp.stp (a := W) (b := V) st2 rel1) rel2 q2
theorem de_op {op : Operator} (ho : DOp X (binaryOp op) g) (ha : DE X T Wx a fa) (hb : DE X T Wx b fb) : DE X T Wx (.BinOp a op b pos) (f2 g fa fb) := PE_imp (pe_op ho ha hb) fun _ _ _ => t2_use
theorem de_cmp {op : CmpOp} (ho : DOp X (compareOp op) g) (ha : DE X T Wx a fa) (hb : DE X T Wx b fb) (hm : behindInMarks op b = false := by first | exact nomark _ | rfl) : DE X T Wx (.Compare a [op] [b] pos) (f2 g fa fb) :=
  PE_imp (pe_cmpR ho ha hb hm) fun _ _ _ => t2_use
theorem de_ix (ho : IxR X (rD g)) (ha : DE X T Wx a fa) (hb : DE X T Wx b fb) (hs : PlainIx b := by exact fun _ _ => rfl) : DE X T Wx (.Subscript a b pos) (f2 g fa fb) := PE_imp (pe_ix ho ha hb hs) fun _ _ _ => t2_use
/-- a value whose truth is asked: bools alone -/
def toB : W → CS → R Bool
  | .d (.bool b), s => .ok b s
  | _, _ => .bad
def fB (f : En → CS → R W) (ρ : En) (s : CS) : R Bool := (f ρ s).bind toB
theorem tB_use {f : En → CS → R W} {σ : L2.St} {H : Hp} {Q : Bool → Hp → Prop} (h : tD T Wx (fB f) σ H Q) : tB (tD T Wx f) σ H Q := by
  obtain ⟨B, μ, s, ρ, r, e, q⟩ := h
  refine tD_bind r e q fun w s1 v μ1 H1 st1 r1 e1 rel1 q1 => ?_
  cases w with
  | c n => exact q1.elim
  | sc n => exact q1.elim
  | fd n => exact q1.elim
  | rg n m => exact q1.elim
  | d x =>
    have rel1 : Fz H1 (Av B μ1 s1) v x := rel1
    cases x with
    | bool b =>
      cases rel1
      exact ⟨b, rfl, Fin.here (a := Bool) q1 r1 rfl⟩
    | _ => exact q1.elim
theorem dt_cmp {op : CmpOp} (ho : DOp X (compareOp op) g) (ha : DE X T Wx a fa) (hb : DE X T Wx b fb) (hm : behindInMarks op b = false := by first | exact nomark _ | rfl) : DT X T Wx (.Compare a [op] [b] pos) (fB (f2 g fa fb)) :=
  PT_imp (pt_cmp ⟨fun pins s σ H Q I h => binT ha hb I (t2_use h) fun v u s2 x y H2 I2 rx ry q => ho pins s2 σ H2 x y v u Q I2 rx ry q⟩ hm) fun _ _ _ => tB_use
theorem dt_val {e : Expr} {f : En → CS → R W} (h : DE X T Wx e f) (he : ∀ whole, isTrue e X.env whole = (do let v ← whole; standAt e.pos; holding [v] (truthy v)) := by intro _; rfl) : DT X T Wx e (fB f) :=
  PT_imp (pt_val h he) fun _ _ _ => tB_use
/-! and, or, not -/
def fNot (f : En → CS → R Bool) (ρ : En) (s : CS) : R Bool := (f ρ s).bind fun b s => .ok (!b) s
def fAnd (f g : En → CS → R Bool) (ρ : En) (s : CS) : R Bool := (f ρ s).bind fun b s => if b = true then g ρ s else .ok false s
def fOr (f g : En → CS → R Bool) (ρ : En) (s : CS) : R Bool := (f ρ s).bind fun b s => if b = true then .ok true s else g ρ s
theorem dt_not {f : En → CS → R Bool} (h : DT X T Wx a f) : DT X T Wx (.UnaryOp .Not a pos) (fNot f) := PT_imp (pt_not h) fun σ H Q ⟨B, μ, s, ρ, r, e, q⟩ =>
  tD_bind r e q fun w s1 v μ1 H1 st1 r1 e1 rel1 q1 => by
    cases rel1
    exact Fin.here (a := Bool) q1 r1 rfl
theorem dw_and1 {f : En → CS → R Bool} (h : DT X T Wx a f) : DW X T Wx (.BoolOp .And [a] pos) f := pw_and1 h
theorem dw_or1 {f : En → CS → R Bool} (h : DT X T Wx a f) : DW X T Wx (.BoolOp .Or [a] pos) f := pw_or1 h
theorem dw_and {rest : List Expr} {f g : En → CS → R Bool} (h : DT X T Wx a f) (k : DW X T Wx (.BoolOp .And (b :: rest) pos) g) : DW X T Wx (.BoolOp .And (a :: b :: rest) pos) (fAnd f g) := PW_imp (pw_and h k) fun σ H Q ⟨B, μ, s, ρ, r, e, q⟩ =>
  tD_bind r e q fun w s1 v μ1 H1 st1 r1 e1 rel1 q1 => by
    cases rel1
    cases w with
    | true => exact ⟨B, μ1, s1, ρ, r1, e1, q1⟩
    | false => exact Fin.here (a := Bool) q1 r1 rfl
theorem dw_or {rest : List Expr} {f g : En → CS → R Bool} (h : DT X T Wx a f) (k : DW X T Wx (.BoolOp .Or (b :: rest) pos) g) : DW X T Wx (.BoolOp .Or (a :: b :: rest) pos) (fOr f g) := PW_imp (pw_or h k) fun σ H Q ⟨B, μ, s, ρ, r, e, q⟩ =>
  tD_bind r e q fun w s1 v μ1 H1 st1 r1 e1 rel1 q1 => by
    cases rel1
    cases w with
    | false => exact ⟨B, μ1, s1, ρ, r1, e1, q1⟩
    | true => exact Fin.here (a := Bool) q1 r1 rfl
theorem dt_w {e : Expr} {f : En → CS → R Bool} (h : DW X T Wx e f) : DT X T Wx e f := h.pt
/-! .. as values: bools alone -/
def fAndV (f g : En → CS → R W) (ρ : En) (s : CS) : R W := (fB f ρ s).bind fun b s => if b = true then g ρ s else .ok (.d (.bool false)) s
def fOrV (f g : En → CS → R W) (ρ : En) (s : CS) : R W := (fB f ρ s).bind fun b s => if b = true then .ok (.d (.bool true)) s else g ρ s
def fNotV (f : En → CS → R W) (ρ : En) (s : CS) : R W := (fB f ρ s).bind fun b s => .ok (.d (.bool (!b))) s
theorem de_one {op} {f : En → CS → R W} (h : DE X T Wx a f) : DE X T Wx (.BoolOp op [a] pos) f := pe_one h
theorem tBV {f : En → CS → R W} {k : Bool → CS → R W} {σ : L2.St} {H : Hp} {Q : VK} {B : Addr → Prop} {μ : List Addr} {s : CS} {ρ : En} {kk : V → Hp → Prop} (r : SR B μ s H) (e : ER B μ s H σ ρ) (q : Fin T Wx B μ s H σ Q ((fB f ρ s).bind k))
    (h : ∀ b s1 μ1 H1, SR B μ1 s1 H1 → ER B μ1 s1 H1 σ ρ → Fin T Wx B μ1 s1 H1 σ Q (k b s1) → kk (.bl b) H1) : tD T Wx f σ H kk := by
  have q' : Fin T Wx B μ s H σ Q ((f ρ s).bind fun w s => (toB w s).bind k) := by
    unfold fB at q
    cases z : f ρ s with
    | ok w s1 => rw [z] at q; exact q
    | exc x s1 => rw [z] at q; exact q
    | bad => rw [z] at q; exact q
  refine tD_bind r e q' fun w s1 v μ1 H1 st1 r1 e1 rel1 q1 => ?_
  cases w with
  | c n => exact q1.elim
  | sc n => exact q1.elim
  | fd n => exact q1.elim
  | rg n m => exact q1.elim
  | d x =>
    have rel1 : Fz H1 (Av B μ1 s1) v x := rel1
    cases x with
    | bool b =>
      cases rel1
      exact h b s1 μ1 H1 r1 e1 q1
    | _ => exact q1.elim
theorem de_and {rest : List Expr} {f g : En → CS → R W} (h : DE X T Wx a f) (k : DE X T Wx (.BoolOp .And (b :: rest) pos) g) : DE X T Wx (.BoolOp .And (a :: b :: rest) pos) (fAndV f g) := PE_imp (pe_and h k) fun σ H Q ⟨B, μ, s, ρ, r, e, q⟩ =>
  tBV r e q fun b s1 μ1 H1 r1 e1 q1 => ⟨b, rfl, by
    cases b with
    | true => exact ⟨B, μ1, s1, ρ, r1, e1, q1⟩
    | false => exact Fin.here (a := W) q1 r1 (Fz.bl false)⟩
theorem de_or {rest : List Expr} {f g : En → CS → R W} (h : DE X T Wx a f) (k : DE X T Wx (.BoolOp .Or (b :: rest) pos) g) : DE X T Wx (.BoolOp .Or (a :: b :: rest) pos) (fOrV f g) := PE_imp (pe_or h k) fun σ H Q ⟨B, μ, s, ρ, r, e, q⟩ =>
  tBV r e q fun b s1 μ1 H1 r1 e1 q1 => ⟨b, rfl, by
    cases b with
    | false => exact ⟨B, μ1, s1, ρ, r1, e1, q1⟩
    | true => exact Fin.here (a := W) q1 r1 (Fz.bl true)⟩
theorem de_not {f : En → CS → R W} (h : DE X T Wx a f) : DE X T Wx (.UnaryOp .Not a pos) (fNotV f) := PE_imp (pe_not h) fun σ H Q ⟨B, μ, s, ρ, r, e, q⟩ =>
  tBV r e q fun b s1 μ1 H1 r1 e1 q1 => ⟨b, rfl, Fin.here (a := W) q1 r1 (Fz.bl _)⟩
/-! a if t else b -/
def fIf (t : En → CS → R Bool) (f g : En → CS → R W) (ρ : En) (s : CS) : R W := (t ρ s).bind fun b s => if b = true then f ρ s else g ρ s
theorem de_if {t : En → CS → R Bool} {f g : En → CS → R W} (ht : DT X T Wx c t) (hf : DE X T Wx a f) (hg : DE X T Wx b g) : DE X T Wx (.IfExp c a b pos) (fIf t f g) := PE_imp (pe_ifExp ht hf hg) fun σ H Q ⟨B, μ, s, ρ, r, e, q⟩ =>
  tD_bind r e q fun w s1 v μ1 H1 st1 r1 e1 rel1 q1 => by
    cases rel1
    cases w with
    | true => exact ⟨B, μ1, s1, ρ, r1, e1, q1⟩
    | false => exact ⟨B, μ1, s1, ρ, r1, e1, q1⟩
/-! a chain of two -/
def fChain (g g' : D → D → Option D) (fa fb fc : En → CS → R W) (ρ : En) (s : CS) : R W :=
  (fa ρ s).bind fun x s => (fb ρ s).bind fun y s => (lift2 g x y s).bind fun z s => (toB z s).bind fun k s => if k = true then (fc ρ s).bind fun z s => lift2 g' y z s else .ok (.d (.bool false)) s
theorem Fin.imp {Q Q' : VK} {B : Addr → Prop} {μ : List Addr} {s : CS} {H : Hp} {σ : L2.St} {r : R W} (k : ∀ v H', Q v H' → Q' v H') (q : Fin T Wx B μ s H σ Q r) : Fin T Wx B μ s H σ Q' r := by
  cases r with
  | ok w s1 => exact fun v μ1 H1 st r rel => k _ _ (q v μ1 H1 st r rel)
  | exc x s1 => exact q
  | bad => exact q
theorem Fin_split {f : R W} {k : W → CS → R W} {B : Addr → Prop} {μ : List Addr} {s : CS} {H : Hp} {σ : L2.St} {Q : VK} (q : Fin T Wx B μ s H σ Q (f.bind k)) :
    Fin T Wx B μ s H σ (fun v H1 => ∃ w s1 μ1, Stp μ s H μ1 s1 H1 ∧ SR B μ1 s1 H1 ∧ RW B μ1 s1 H1 v w ∧ Fin T Wx B μ1 s1 H1 σ Q (k w s1)) f := by
  cases f with
  | ok w s1 => exact fun v μ1 H1 st r rel => ⟨w, s1, μ1, st, r, rel, Fin.stp st q⟩
  | exc x s1 => exact q
  | bad => exact q
theorem Fin_splitB {f : R W} {k : W → CS → R Bool} {B : Addr → Prop} {μ : List Addr} {s : CS} {H : Hp} {σ : L2.St} {Q : Bool → Hp → Prop} (q : Fin T Wx B μ s H σ Q (f.bind k)) :
    Fin T Wx B μ s H σ (fun v H1 => ∃ w s1 μ1, Stp μ s H μ1 s1 H1 ∧ SR B μ1 s1 H1 ∧ RW B μ1 s1 H1 v w ∧ Fin T Wx B μ1 s1 H1 σ Q (k w s1)) f := by
  cases f with
  | ok w s1 => exact fun v μ1 H1 st r rel => ⟨w, s1, μ1, st, r, rel, Fin.stp st q⟩
  | exc x s1 => exact q
  | bad => exact q
theorem tChain_use {fa fb fc : En → CS → R W} {σ : L2.St} {H : Hp} {Q : VK} (h : tD T Wx (fChain g g' fa fb fc) σ H Q) : tChain (rD g) (rD g') (tD T Wx fa) (tD T Wx fb) (tD T Wx fc) σ H Q := by
  obtain ⟨B, μ, s, ρ, r, e, q⟩ := h
  refine tD_bind r e q fun w s1 v μ1 H1 st1 r1 e1 rel1 q1 => tD_bind r1 e1 q1 fun u s2 x μ2 H2 st2 r2 e2 rel2 q2 => ?_
  have q3 := Fin_split q2
  refine lift2_use (T := T) (Wx := Wx) (σ := σ) r2 (Rp.stp (a := W) (b := V) st2 rel1) rel2 (Fin.imp (fun vz H3 z => ?_) q3)
  obtain ⟨w4, s4, μ4, st4, r4, rel4, q4⟩ := z
  cases w4 with
  | c n => exact q4.elim
  | sc n => exact q4.elim
  | fd n => exact q4.elim
  | rg n m => exact q4.elim
  | d dz =>
    have rel4 : Fz H3 (Av B μ4 s4) vz dz := rel4
    cases dz with
    | bool k =>
      cases rel4
      refine ⟨k, rfl, ?_⟩
      cases k with
      | false => exact Fin.here (a := W) q4 r4 (Fz.bl false)
      | true =>
        exact tD_bind r4 (e2.stp st4) q4 fun w5 s5 v5 μ5 H5 st5 r5 e5 rel5 q5 => lift2_use r5 (Rp.stp (a := W) (b := V) (st4.trans st5) rel2) rel5 q5
    | _ => exact q4.elim
theorem de_chain {op op' : CmpOp} (ho : DOp X (compareOp op) g) (ho' : DOp X (compareOp op') g') (ha : DE X T Wx a fa) (hb : DE X T Wx b fb) (hc : DE X T Wx c fc) (hm : lastMarks [op, op'] [b, c] = false := by with_unfolding_all rfl) :
    DE X T Wx (.Compare a [op, op'] [b, c] pos) (fChain g g' fa fb fc) := PE_imp (pe_chain ho ho' ha hb hc hm) fun _ _ _ => tChain_use
theorem dt_chain {op op' : CmpOp} (ho : DOp X (compareOp op) g) (ho' : DOp X (compareOp op') g') (ha : DE X T Wx a fa) (hb : DE X T Wx b fb) (hc : DE X T Wx c fc) (hm : lastMarks [op, op'] [b, c] = false := by with_unfolding_all rfl) :
    DT X T Wx (.Compare a [op, op'] [b, c] pos) (fB (fChain g g' fa fb fc)) := PT_imp (pt_chain ho ho' ha hb hc hm) fun σ H Q h => by
  obtain ⟨B, μ, s, ρ, r, e, q⟩ := h
  refine tChain_use ⟨B, μ, s, ρ, r, e, Fin.imp (fun vz H3 z => ?_) (Fin_splitB q)⟩
  obtain ⟨w4, s4, μ4, st4, r4, rel4, q4⟩ := z
  cases w4 with
  | c n => exact q4.elim
  | sc n => exact q4.elim
  | fd n => exact q4.elim
  | rg n m => exact q4.elim
  | d dz =>
    have rel4 : Fz H3 (Av B μ4 s4) vz dz := rel4
    cases dz with
    | bool k =>
      cases rel4
      exact ⟨k, rfl, Fin.here (a := Bool) q4 r4 rfl⟩
    | _ => exact q4.elim
end
end
end
end DL
namespace DL
open PySem PySem.Spec PyProof.Rows L2
section
variable [KFrag]

theorem same_upd {H : Hp} {p : Addr} {o : HO} (h : H p = none) : Same H (upd H p o) := fun b x e => by
  rw [upd_ne (ne_of_none e h)]
  exact e
theorem Fz.newT {H : Hp} {A : Addr → Prop} {p : Addr} {xs : List V} {ds : List D} (bt : Bt H A) (h : H p = none) (f : Fzs H A xs ds) : Fz (upd H p (.tup xs)) A (.ref p) (.tuple ds) :=
  .tup (.inl ⟨upd_same, fun z => bt p z h⟩) (f.same (same_upd h))
theorem Fz.newL {H : Hp} {A : Addr → Prop} {p : Addr} {xs : List V} {ds : List D} (bt : Bt H A) (h : H p = none) (f : Fzs H A xs ds) : Fz (upd H p (.lst xs)) A (.ref p) (.list ds) :=
  .lst ⟨upd_same, fun z => bt p z h⟩ (f.same (same_upd h))

def line : Nat := 16777216
theorem line_eq : sizeLine = line := sizeLine_eq
def tupD (ds : List D) : Option D := if ds.length ≤ line then some (.tuple ds) else none
def lstD (ds : List D) : Option D := if ds.length ≤ line then some (.list ds) else none
section
variable {X : Cx} [HK X] {T : TX} {Wx : WXc} {es : List Expr} {fs : En → CS → R (List W)} {pos : Pos}
theorem de_tup {k} (h : DA X T Wx es fs) : DE X T Wx (.Tuple es k pos) (fN tupD fs) := PE_imp (pe_tup h) fun σ H Q ⟨B, μ, s, ρ, r, e, q⟩ =>
  tD_bind r e q fun w s1 v μ1 H1 st1 r1 e1 rel1 q1 => by
    obtain ⟨A, ds, z, bt, fz, e, q⟩ := liftN_use r1 rel1 q1
    unfold tupD at e
    split at e
    · rename_i hl
      cases e
      exact ⟨by rw [fz.len, line_eq]; exact hl, fun p hp => q _ _ (same_upd hp) (Fz.newT bt hp fz)⟩
    · cases e
theorem de_lst (h : DA X T Wx es fs) : DE X T Wx (.List es pos) (fN lstD fs) := PE_imp (pe_lst h) fun σ H Q ⟨B, μ, s, ρ, r, e, q⟩ =>
  tD_bind r e q fun w s1 v μ1 H1 st1 r1 e1 rel1 q1 => by
    obtain ⟨A, ds, z, bt, fz, e, q⟩ := liftN_use r1 rel1 q1
    unfold lstD at e
    split at e
    · rename_i hl
      cases e
      exact ⟨by rw [fz.len, line_eq]; exact hl, fun p hp => q _ _ (same_upd hp) (Fz.newL bt hp fz)⟩
    · cases e
end

/-! ### arithmetic -/
def addD : D → D → Option D
  | .int i, .int j => some (.int (i + j))
  | .tuple xs, .tuple ys => if xs.length + ys.length ≤ line then some (.tuple (xs ++ ys)) else none
  | .list xs, .list ys => if xs.length + ys.length ≤ line then some (.list (xs ++ ys)) else none
  | _, _ => none
def subD : D → D → Option D
  | .int i, .int j => some (.int (i - j))
  | _, _ => none
def modD : D → D → Option D
  | .int i, .int j => if 0 < j then some (.int (i % j)) else none
  | _, _ => none
def fdivD : D → D → Option D
  | .int i, .int j => if 0 < j ∧ j < 1073741824 then some (.int (i / j)) else none
  | _, _ => none
def negD : D → Option D
  | .int i => some (.int (-i))
  | _ => none
section
variable {X : Cx} [HK X]
theorem dop_add : DOp X (binaryOp .Add) addD := by
  intro pins s σ H x y v u Q I rx ry h
  obtain ⟨A, dx, dy, z, bt, fx, fy, e, q⟩ := h
  cases fx with
  | int i =>
    cases fy with
    | int j => cases e; exact op_add pins s σ H _ _ v u Q I rx ry ⟨i, j, rfl, rfl, q _ _ (Same.refl _) (.int _)⟩
    | _ => cases e
  | @tup a xs ds h1 f1 =>
    cases fy with
    | @tup b ys es h2 f2 =>
      simp only [addD] at e
      split at e
      · rename_i hl
        cases e
        have l1 := f1.len
        have l2 := f2.len
        refine op_catA pins s σ H _ _ v u Q I rx ry ⟨a, b, xs, ys, rfl, rfl, h1.sq, h2.sq, by rw [l1, l2, line_eq]; exact hl, fun e0 => ?_, fun _ e0 => ?_, fun _ _ p hp => q _ _ (same_upd hp) (Fz.newT bt hp (f1.app f2))⟩
        · subst e0
          cases f1
          exact q _ _ (Same.refl _) (.tup h2 f2)
        · subst e0
          cases f2
          rw [List.append_nil] at q
          exact q _ _ (Same.refl _) (.tup h1 f1)
      · cases e
    | _ => cases e
  | @lst a xs ds h1 f1 =>
    cases fy with
    | @lst b ys es h2 f2 =>
      simp only [addD] at e
      split at e
      · rename_i hl
        cases e
        exact op_cat pins s σ H _ _ v u Q I rx ry ⟨a, b, xs, ys, rfl, rfl, h1.1, h2.1, by rw [f1.len, f2.len, line_eq]; exact hl, fun p hp => q _ _ (same_upd hp) (Fz.newL bt hp (f1.app f2))⟩
      · cases e
    | _ => cases e
  | _ => cases fy <;> cases e
theorem dop_sub : DOp X (binaryOp .Sub) subD := by
  intro pins s σ H x y v u Q I rx ry h
  obtain ⟨A, dx, dy, z, bt, fx, fy, e, q⟩ := h
  cases fx with
  | int i =>
    cases fy with
    | int j => cases e; exact op_sub pins s σ H _ _ v u Q I rx ry ⟨i, j, rfl, rfl, q _ _ (Same.refl _) (.int _)⟩
    | _ => cases e
  | _ => cases fy <;> cases e
theorem dop_mod : DOp X (binaryOp .Mod) modD := by
  intro pins s σ H x y v u Q I rx ry h
  obtain ⟨A, dx, dy, z, bt, fx, fy, e, q⟩ := h
  cases fx with
  | int i =>
    cases fy with
    | int j =>
      simp only [modD] at e
      split at e
      · rename_i hl
        cases e
        exact op_mod pins s σ H _ _ v u Q I rx ry ⟨i, j, rfl, rfl, hl, q _ _ (Same.refl _) (.int _)⟩
      · cases e
    | _ => cases e
  | _ => cases fy <;> cases e
theorem dop_fdiv : DOp X (binaryOp .FloorDiv) fdivD := by
  intro pins s σ H x y v u Q I rx ry h
  obtain ⟨A, dx, dy, z, bt, fx, fy, e, q⟩ := h
  cases fx with
  | int i =>
    cases fy with
    | int j =>
      simp only [fdivD] at e
      split at e
      · rename_i hl
        cases e
        exact op_fdiv pins s σ H _ _ v u Q I rx ry ⟨i, j, rfl, rfl, hl, q _ _ (Same.refl _) (.int _)⟩
      · cases e
    | _ => cases e
  | _ => cases fy <;> cases e
theorem de_neg {T : TX} {Wx : WXc} {a : Expr} {f : En → CS → R W} {pos : Pos} (h : DE X T Wx a f) : DE X T Wx (.UnaryOp .USub a pos) (f1 negD f) := PE_imp (pe_un un_neg h) fun σ H Q ⟨B, μ, s, ρ, r, e, q⟩ =>
  tD_bind r e q fun w s1 v μ1 H1 st1 r1 e1 rel1 q1 => by
    obtain ⟨A, dx, z, bt, fx, e, q⟩ := lift1_use r1 rel1 q1
    cases fx with
    | int i => cases e; exact ⟨i, rfl, q _ _ (Same.refl _) (.int _)⟩
    | _ => cases e

/-! ### comparisons -/
def eqD (d e : D) : Option D := if SeqAt.shaped d = true ∧ SeqAt.shaped e = true then some (.bool (eqF 8 d e)) else none
def neD (d e : D) : Option D := if SeqAt.shaped d = true ∧ SeqAt.shaped e = true then some (.bool (!eqF 8 d e)) else none
def cmpD (p : Int → Int → Bool) : D → D → Option D
  | .int i, .int j => some (.bool (p i j))
  | _, _ => none
def ltD : D → D → Option D := cmpD fun i j => decide (i < j)
def leD : D → D → Option D := cmpD fun i j => decide (i ≤ j)
def gtD : D → D → Option D := cmpD fun i j => decide (j < i)
def geD : D → D → Option D := cmpD fun i j => decide (j ≤ i)
theorem dop_eq (hu : X.A.units + 64 < cLine) : DOp X (compareOp .Eq) eqD := by
  intro pins s σ H x y v u Q I rx ry h
  obtain ⟨A, dx, dy, z, bt, fx, fy, e, q⟩ := h
  unfold eqD at e
  rw [eqF_eq] at e
  split at e
  · rename_i hs
    cases e
    exact op_eqD hu pins s σ H _ _ v u Q I rx ry ⟨dx, dy, fx.dp, fy.dp, hs.1, hs.2, q _ _ (Same.refl _) (.bl _)⟩
  · cases e
theorem dop_ne (hu : X.A.units + 64 < cLine) : DOp X (compareOp .NotEq) neD := by
  intro pins s σ H x y v u Q I rx ry h
  obtain ⟨A, dx, dy, z, bt, fx, fy, e, q⟩ := h
  unfold neD at e
  rw [eqF_eq] at e
  split at e
  · rename_i hs
    cases e
    exact op_neD hu pins s σ H _ _ v u Q I rx ry ⟨dx, dy, fx.dp, fy.dp, hs.1, hs.2, q _ _ (Same.refl _) (.bl _)⟩
  · cases e
theorem dop_cmp {op : CmpOp} {p : Int → Int → Bool} (h : OpR X (compareOp op) (rI0 fun i j => .bl (p i j))) : DOp X (compareOp op) (cmpD p) := by
  intro pins s σ H x y v u Q I rx ry h
  obtain ⟨A, dx, dy, z, bt, fx, fy, e, q⟩ := h
  cases fx with
  | int i =>
    cases fy with
    | int j => cases e; exact h pins s σ H _ _ v u Q I rx ry ⟨i, j, rfl, rfl, q _ _ (Same.refl _) (.bl _)⟩
    | _ => cases e
  | _ => cases fy <;> cases e
theorem dop_lt : DOp X (compareOp .Lt) ltD := dop_cmp op_lt
theorem dop_le : DOp X (compareOp .LtE) leD := dop_cmp op_le
theorem dop_gt : DOp X (compareOp .Gt) gtD := dop_cmp op_gt
theorem dop_ge : DOp X (compareOp .GtE) geD := dop_cmp op_ge

/-! ### items -/
def ixD : D → D → Option D
  | .tuple xs, .int i => atI xs i
  | .list xs, .int i => atI xs i
  | _, _ => none
theorem Fzs_atI {H : Hp} {A : Addr → Prop} {xs : List V} {ds : List D} {i : Int} {d : D} (f : Fzs H A xs ds) (e : atI ds i = some d) : ∃ v, atI xs i = some v ∧ Fz H A v d := by
  unfold atI at e ⊢
  rw [f.len]
  cases z : ixN ds.length i with
  | none => rw [z] at e; cases e
  | some j =>
    rw [z] at e
    exact f.get e
theorem dix : IxR X (rD ixD) := by
  intro value slice pins s σ H x y v u Q I rx ry h hs
  obtain ⟨A, dx, dy, z, bt, fx, fy, e, q⟩ := h
  cases fx with
  | @tup a xs ds h1 f1 =>
    cases fy with
    | int j =>
      obtain ⟨v', h3, h4⟩ := Fzs_atI f1 e
      exact ix_tup value slice pins s σ H _ _ v u Q I rx ry ⟨a, xs, j, v', rfl, rfl, h1.sq, h3, q _ _ (Same.refl _) h4⟩ hs
    | _ => cases e
  | @lst a xs ds h1 f1 =>
    cases fy with
    | int j =>
      obtain ⟨v', h3, h4⟩ := Fzs_atI f1 e
      exact ix_list value slice pins s σ H _ _ v u Q I rx ry ⟨a, xs, j, v', rfl, rfl, h1.sq, h3, q _ _ (Same.refl _) h4⟩ hs
    | _ => cases e
  | _ => cases fy <;> cases e
end

/-! ### slices -/
def cutD (xs : List D) (lo hi : Option Int) : List D := (xs.drop (HT.sIx xs.length 0 lo)).take (HT.sIx xs.length xs.length hi - HT.sIx xs.length 0 lo)
def slD (x : D) (lo hi : Option Int) : Option D := match x with
  | .tuple xs => some (.tuple (cutD xs lo hi))
  | .list xs => some (.list (cutD xs lo hi))
  | _ => none
abbrev fO := En → CS → R (Option Int)
def fO0 (_ : En) (s : CS) : R (Option Int) := .ok none s
def toO : W → CS → R (Option Int)
  | .d (.int i), s => .ok (some i) s
  | _, _ => .bad
def fO1 (f : En → CS → R W) (ρ : En) (s : CS) : R (Option Int) := (f ρ s).bind toO
def liftS (w : W) (lo hi : Option Int) (s : CS) : R W := match w with
  | .d x => match slD x lo hi with
    | some z => .ok (.d z) s
    | none => .bad
  | .sc ns => .ok (.d (.list (cutD (ns.map .int) lo hi))) s
  | _ => .bad
def fSl (f : En → CS → R W) (lo hi : fO) (ρ : En) (s : CS) : R W := (f ρ s).bind fun x s => (lo ρ s).bind fun l s => (hi ρ s).bind fun h s => liftS x l h s
theorem Fzs.ints {H : Hp} {A : Addr → Prop} : ∀ (ns : List Int), Fzs H A (ns.map V.int) (ns.map .int)
  | [] => .nil
  | n :: r => .cons (.int n) (Fzs.ints r)
theorem Fzs.cut {H : Hp} {A : Addr → Prop} {xs : List V} {ds : List D} (f : Fzs H A xs ds) (lo hi : Option Int) : Fzs H A (cutV xs lo hi) (cutD ds lo hi) := by
  unfold cutV cutD
  rw [f.len]
  exact (f.drop _).take _
theorem cutD_all {ds : List D} {lo hi : Option Int} (h1 : HT.sIx ds.length 0 lo = 0) (h2 : HT.sIx ds.length ds.length hi = ds.length) : cutD ds lo hi = ds := by
  unfold cutD
  rw [h1, h2, List.drop_zero, Nat.sub_zero, List.take_length]
section
variable {X : Cx} [HK X] {T : TX} {Wx : WXc} {e : Expr} {f : En → CS → R W} {lo hi : Option Expr} {gl gh : fO} {pos p2 : Pos}
abbrev DO (X : Cx) (T : TX) (Wx : WXc) (e : Option Expr) (f : fO) : Prop := PO X e (tD T Wx f)
theorem do_none : DO X T Wx none fO0 := ⟨fun pins s σ H Q I h => by
  obtain ⟨B, μ, t, ρ, r, e, q⟩ := h
  exact (po_none (X := X)).run pins s σ H Q I (Fin.here (a := Option Int) (w := none) q r rfl)⟩
theorem do_some (h : DE X T Wx e f) : DO X T Wx (some e) (fO1 f) := ⟨fun pins s σ H Q I z => by
  refine (po_some h).run pins s σ H Q I ?_
  obtain ⟨B, μ, t, ρ, r, e, q⟩ := z
  refine tD_bind r e q fun w s1 v μ1 H1 st1 r1 e1 rel1 q1 => ?_
  cases w with
  | c n => exact q1.elim
  | sc n => exact q1.elim
  | fd n => exact q1.elim
  | rg n m => exact q1.elim
  | d x =>
    have rel1 : Fz H1 (Av B μ1 s1) v x := rel1
    cases x with
    | int i =>
      cases rel1
      exact ⟨i, rfl, Fin.here (a := Option Int) q1 r1 rfl⟩
    | _ => exact q1.elim⟩
theorem de_slice (hK : X.K = KFrag.K) (h : DE X T Wx e f) (hl : DO X T Wx lo gl) (hu : DO X T Wx hi gh) : DE X T Wx (.Subscript e (.Slice lo hi none p2) pos) (fSl f gl gh) :=
  PE_imp (pe_slice (sl_tupA.or sl_list) h hl hu) fun σ H Q ⟨B, μ, s, ρ, r, e, q⟩ =>
  tD_bind r e q fun w s1 v μ1 H1 st1 r1 e1 rel1 q1 => tD_bind r1 e1 q1 fun l s2 vl μ2 H2 st2 r2 e2 rel2 q2 => tD_bind r2 e2 q2 fun u s3 vu μ3 H3 st3 r3 e3 rel3 q3 => by
    cases rel2
    cases rel3
    have rel := RW.stp (st2.trans st3) rel1
    cases w with
    | c n => exact q3.elim
    | fd n => exact q3.elim
    | rg n m => exact q3.elim
    | sc ns =>
      obtain ⟨a, ev, hs⟩ := rel
      subst ev
      have hs : SqL X.K H3 a (ns.map V.int) := hs.elim (fun ⟨o, ea, _⟩ => .inl (.inr ⟨o, ea⟩)) fun h => .inr (by rw [hK]; exact h)
      refine .inr ⟨a, ns.map V.int, rfl, hs, fun p hp => ?_⟩
      exact Fin.use (a := W) q3 (same_upd hp) r3 (Fz.newL r3.bt' hp ((Fzs.ints ns).cut _ _))
    | d x =>
      have rel : Fz H3 (Av B μ3 s3) v x := rel
      cases rel with
      | @tup a xs ds h1 f1 =>
        refine .inl ⟨a, xs, rfl, h1.sq, fun z => ?_, fun _ p hp => ?_⟩
        · have e : cutD ds l u = ds := cutD_all (by rw [← f1.len]; exact z.1) (by rw [← f1.len]; exact z.2)
          refine Fin.here (a := W) q3 r3 ?_
          show Fz H3 _ _ (.tuple (cutD ds l u))
          rw [e]
          exact .tup h1 f1
        · exact Fin.use (a := W) q3 (same_upd hp) r3 (Fz.newT r3.bt' hp (f1.cut _ _))
      | @lst a xs ds h1 f1 =>
        exact .inr ⟨a, xs, rfl, h1.sq, fun p hp => Fin.use (a := W) q3 (same_upd hp) r3 (Fz.newL r3.bt' hp (f1.cut _ _))⟩
      | _ => exact q3.elim

/-! ### calls of built-ins -/
variable {es : List Expr} {fs : En → CS → R (List W)} {x : Str} {p : Pos}
abbrev DCall (X : Cx) (f : Value) (g : List D → Option D) : Prop := CallR X f (rDs g)
theorem tN_use {g : List D → Option D} {σ : L2.St} {H : Hp} {Q : VK} (h : tD T Wx (fN g fs) σ H Q) : tCB (rDs g) (tD T Wx fs) σ H Q := by
  obtain ⟨B, μ, s, ρ, r, e, q⟩ := h
  exact tD_bind r e q fun w s1 v μ1 H1 st1 r1 e1 rel1 q1 => liftN_use r1 rel1 q1
theorem de_callB {id : String} {g : List D → Option D} (hc : DCall X (.builtin id) g) (hg : Gl X x) (hm : X.mg x = none) (hv : bootBuiltins x = some (.builtin id)) (ha : DA X T Wx (e :: es) fs) (hn : x ≠ "__name__" := by decide) (hdb : (x == ("__debug__" : Str)) = false := by decide)
    (he : starEach (e :: es) X.env = (false, eval e X.env) :: starEach es X.env := by rfl) (hpl : (backTo pos (starEach es X.env)).any (·.1) = false := by rfl) : DE X T Wx (.Call (.Name x p) (e :: es) [] pos) (fN g fs) :=
  PE_imp (pe_callB hc hg hm hv ha hn hdb he hpl) fun _ _ _ => tN_use
theorem de_callTy {id : String} {g : List D → Option D} (hc : DCall X (.type id) g) (hg : Gl X x) (hm : X.mg x = none) (hv : bootBuiltins x = some (.type id)) (ha : DA X T Wx (e :: es) fs) (hn : x ≠ "__name__" := by decide) (hdb : (x == ("__debug__" : Str)) = false := by decide)
    (he : starEach (e :: es) X.env = (false, eval e X.env) :: starEach es X.env := by rfl) (hpl : (backTo pos (starEach es X.env)).any (·.1) = false := by rfl) : DE X T Wx (.Call (.Name x p) (e :: es) [] pos) (fN g fs) :=
  PE_imp (pe_callTy hc hg hm hv ha hn hdb he hpl) fun _ _ _ => tN_use

def lenD : List D → Option D
  | [.tuple xs] => some (.int xs.length)
  | [.list xs] => some (.int xs.length)
  | _ => none
def max2D : List D → Option D
  | [.int i, .int j] => some (.int (if j > i then j else i))
  | _ => none
def min2D : List D → Option D
  | [.int i, .int j] => some (.int (if j < i then j else i))
  | _ => none
def absD : List D → Option D
  | [.int i] => some (.int (if i < 0 then -i else i))
  | _ => none
def intD : List D → Option D
  | [.int i] => some (.int i)
  | [.bool k] => some (.int (if k then 1 else 0))
  | _ => none
def tupleD : List D → Option D
  | [.list xs] => some (.tuple xs)
  | [.tuple xs] => some (.tuple xs)
  | _ => none
def listD : List D → Option D
  | [.list xs] => some (.list xs)
  | [.tuple xs] => some (.list xs)
  | _ => none
def boolsD : List D → Option (List Bool)
  | [] => some []
  | .bool b :: r => (boolsD r).map (b :: ·)
  | _ :: _ => none
def allBD : List D → Option D
  | [.list xs] => (boolsD xs).map fun bs => .bool (bs.all id)
  | _ => none
theorem bools_fz {H : Hp} {A : Addr → Prop} : ∀ {xs : List V} {ds : List D} {bs : List Bool}, Fzs H A xs ds → boolsD ds = some bs → xs = bs.map V.bl
  | _, _, _, .nil, e => by cases e; rfl
  | _, d :: ds, bs, .cons h t, e => by
    cases d with
    | bool b =>
      cases h
      unfold boolsD at e
      cases z : boolsD ds with
      | none => rw [z] at e; cases e
      | some l =>
        rw [z] at e
        cases e
        rw [bools_fz t z]
        rfl
    | _ => cases e
theorem dc_len : DCall X (.builtin "len") lenD := by
  intro pins s σ H xs us Q I r h
  obtain ⟨A, ds, z, bt, fz, e, q⟩ := h
  cases fz with
  | nil => cases e
  | cons h1 t =>
    cases t with
    | cons _ _ => cases h1 <;> cases e
    | nil =>
      cases h1 with
      | @tup a ys ds h1 f1 => cases e; exact call_len_seq pins s σ H _ us Q I r ⟨a, ys, rfl, .inr h1.sq, by rw [f1.len]; exact q _ _ (Same.refl _) (.int _)⟩
      | @lst a ys ds h1 f1 => cases e; exact call_len_seq pins s σ H _ us Q I r ⟨a, ys, rfl, .inl h1.sq, by rw [f1.len]; exact q _ _ (Same.refl _) (.int _)⟩
      | _ => cases e
theorem dc_max2 (hc : X.calm = true) : DCall X (.builtin "max") max2D := by
  intro pins s σ H xs us Q I r h
  obtain ⟨A, ds, z, bt, fz, e, q⟩ := h
  cases fz with
  | nil => cases e
  | cons h1 t =>
    cases t with
    | nil => cases h1 <;> cases e
    | cons h2 t =>
      cases t with
      | cons _ _ => cases h1 <;> cases h2 <;> cases e
      | nil =>
        cases h1 with
        | int i =>
          cases h2 with
          | int j => cases e; exact call_max2 hc pins s σ H _ us Q I r ⟨i, j, rfl, q _ _ (Same.refl _) (.int _)⟩
          | _ => cases e
        | _ => cases h2 <;> cases e
theorem dc_min2 (hc : X.calm = true) : DCall X (.builtin "min") min2D := by
  intro pins s σ H xs us Q I r h
  obtain ⟨A, ds, z, bt, fz, e, q⟩ := h
  cases fz with
  | nil => cases e
  | cons h1 t =>
    cases t with
    | nil => cases h1 <;> cases e
    | cons h2 t =>
      cases t with
      | cons _ _ => cases h1 <;> cases h2 <;> cases e
      | nil =>
        cases h1 with
        | int i =>
          cases h2 with
          | int j => cases e; exact call_min2 hc pins s σ H _ us Q I r ⟨i, j, rfl, q _ _ (Same.refl _) (.int _)⟩
          | _ => cases e
        | _ => cases h2 <;> cases e
theorem dc_abs : DCall X (.builtin "abs") absD := by
  intro pins s σ H xs us Q I r h
  obtain ⟨A, ds, z, bt, fz, e, q⟩ := h
  cases fz with
  | nil => cases e
  | cons h1 t =>
    cases t with
    | cons _ _ => cases h1 <;> cases e
    | nil =>
      cases h1 with
      | int i => cases e; exact call_abs pins s σ H _ us Q I r ⟨i, rfl, q _ _ (Same.refl _) (.int _)⟩
      | _ => cases e
theorem dc_int : DCall X (.type "int") intD := by
  intro pins s σ H xs us Q I r h
  obtain ⟨A, ds, z, bt, fz, e, q⟩ := h
  cases fz with
  | nil => cases e
  | cons h1 t =>
    cases t with
    | cons _ _ => cases h1 <;> cases e
    | nil =>
      cases h1 with
      | int i => cases e; exact call_int1 pins s σ H _ us Q I r (.inl ⟨i, rfl, q _ _ (Same.refl _) (.int _)⟩)
      | bl i => cases e; exact call_int1 pins s σ H _ us Q I r (.inr ⟨i, rfl, q _ _ (Same.refl _) (.int _)⟩)
      | _ => cases e
theorem dc_tuple : DCall X (.type "tuple") tupleD := by
  intro pins s σ H xs us Q I r h
  obtain ⟨A, ds, z, bt, fz, e, q⟩ := h
  cases fz with
  | nil => cases e
  | cons h1 t =>
    cases t with
    | cons _ _ => cases h1 <;> cases e
    | nil =>
      cases h1 with
      | @tup a ys ds h1 f1 => cases e; exact call_tuple_of pins s σ H _ us Q I r ⟨a, ys, rfl, .inr ⟨h1.sq, q _ _ (Same.refl _) (.tup h1 f1)⟩⟩
      | @lst a ys ds h1 f1 => cases e; exact call_tuple_of pins s σ H _ us Q I r ⟨a, ys, rfl, .inl ⟨h1.sq, fun l hl => q _ _ (same_upd hl) (Fz.newT bt hl f1)⟩⟩
      | _ => cases e
theorem dc_list : DCall X (.type "list") listD := by
  intro pins s σ H xs us Q I r h
  obtain ⟨A, ds, z, bt, fz, e, q⟩ := h
  cases fz with
  | nil => cases e
  | cons h1 t =>
    cases t with
    | cons _ _ => cases h1 <;> cases e
    | nil =>
      cases h1 with
      | @tup a ys ds h1 f1 => cases e; exact call_list_of pins s σ H _ us Q I r ⟨a, ys, rfl, .inr h1.sq, fun l hl => q _ _ (same_upd hl) (Fz.newL bt hl f1)⟩
      | @lst a ys ds h1 f1 => cases e; exact call_list_of pins s σ H _ us Q I r ⟨a, ys, rfl, .inl h1.sq, fun l hl => q _ _ (same_upd hl) (Fz.newL bt hl f1)⟩
      | _ => cases e
theorem dc_all (hc : X.calm = true) : DCall X (.builtin "all") allBD := by
  intro pins s σ H xs us Q I r h
  obtain ⟨A, ds, z, bt, fz, e, q⟩ := h
  cases fz with
  | nil => cases e
  | cons h1 t =>
    cases t with
    | cons _ _ => cases h1 <;> cases e
    | nil =>
      cases h1 with
      | @lst a ys ds h1 f1 =>
        simp only [allBD] at e
        cases zb : boolsD ds with
        | none => rw [zb] at e; cases e
        | some bs =>
          rw [zb] at e
          cases e
          refine cr_all hc pins s σ H _ us Q I r ⟨a, bs, rfl, ?_, q _ _ (Same.refl _) (.bl _)⟩
          rw [← bools_fz f1 zb]
          exact h1.sq
      | _ => cases e
/-! isinstance(x, T), T a built-in type -/
def tyN : D → String
  | .none => "NoneType" | .bool _ => "bool" | .int _ => "int" | .str _ => "str" | .list _ => "list" | .tuple _ => "tuple" | .dict _ => "dict"
/-- the table of a class among the types of data -/
structure IsiT (c : String) (g : D → Bool) : Prop where
  at_ : ∀ d, (∀ k, d ≠ .dict k) → kitB (tyN d) c = some (g d)
def isiD (g : D → Bool) (d : D) : Option D := some (.bool (g d))
theorem Fz.ty {X : Cx} [hX : HK X] {H : Hp} {A : Addr → Prop} {v : V} {d : D} (f : Fz H A v d) : TyX X.K H v (.type (tyN d)) := by
  cases f with
  | non => exact .base .non
  | bl b => exact .base (.bl b)
  | int i => exact .base (.int i)
  | str x => exact .base (.str x)
  | lst h _ => exact .base (.lst h.1)
  | tup h _ =>
    rcases h with h | ⟨o, its, n, h, c, _⟩
    · exact .base (.tup h.1)
    · exact .kTuple (o := o) (by rw [hX.eq]; exact h) c
theorem Fz.noD {H : Hp} {A : Addr → Prop} {v : V} {d : D} (f : Fz H A v d) : ∀ k, d ≠ .dict k := by
  cases f <;> (intro k z; cases z)
theorem de_isi {c : String} {cx : Str} {g : D → Bool} {pc : Pos} (t : IsiT c g) (hg : Gl X "isinstance") (hm : X.mg "isinstance" = none) (hgc : Gl X cx) (hmc : X.mg cx = none) (hvc : bootBuiltins cx = some (.type c)) (ha : DE X T Wx e f) (hnc : cx ≠ "__name__" := by decide) (hdc : (cx == ("__debug__" : Str)) = false := by decide)
    (hs1 : starEach [e, .Name cx pc] X.env = (false, eval e X.env) :: starEach [.Name cx pc] X.env := by rfl) (hs2 : starEach [.Name cx pc] X.env = (false, eval (.Name cx pc) X.env) :: starEach [] X.env := by rfl) (hpl : (backTo pos (starEach [.Name cx pc] X.env)).any (·.1) = false := by rfl) :
    DE X T Wx (.Call (.Name "isinstance" p) [e, .Name cx pc] [] pos) (f1 (isiD g) f) :=
  PE_imp (pe_callB call_isi hg hm PyProof.Rows.boot_isinstance (pa_cons ha (pa_cons (pe_bltn hgc hmc hvc (v := .ty c) rfl hnc hdc) pa_nil hs2) hs1) (he := hs1) (hpl := hpl)) fun σ H Q ⟨B, μ, s, ρ, r, e, q⟩ =>
  tD_bind r e q fun w s1 v μ1 H1 st1 r1 e1 rel1 q1 => by
    obtain ⟨A, dx, z, bt, fx, e, q⟩ := lift1_use r1 rel1 q1
    cases e
    exact ⟨v, .ty c, .type (tyN dx), .type c, g dx, rfl, .ty c, fx.ty, kit_ty (t.at_ dx fx.noD), q _ _ (Same.refl _) (.bl _)⟩
def isInt : D → Bool
  | .int _ => true | .bool _ => true | _ => false
def isBool : D → Bool
  | .bool _ => true | _ => false
def isTuple : D → Bool
  | .tuple _ => true | _ => false
def isList : D → Bool
  | .list _ => true | _ => false
def isStr : D → Bool
  | .str _ => true | _ => false
theorem isi_int : IsiT "int" isInt := ⟨fun d h => match d with
  | .none => (show kitB "NoneType" "int" = some false by decide +kernel)
  | .bool _ => (show kitB "bool" "int" = some true by decide +kernel)
  | .int _ => (show kitB "int" "int" = some true by decide +kernel)
  | .str _ => (show kitB "str" "int" = some false by decide +kernel)
  | .list _ => (show kitB "list" "int" = some false by decide +kernel)
  | .tuple _ => (show kitB "tuple" "int" = some false by decide +kernel)
  | .dict k => absurd rfl (h k)⟩
theorem isi_bool : IsiT "bool" isBool := ⟨fun d h => match d with
  | .none => (show kitB "NoneType" "bool" = some false by decide +kernel)
  | .bool _ => (show kitB "bool" "bool" = some true by decide +kernel)
  | .int _ => (show kitB "int" "bool" = some false by decide +kernel)
  | .str _ => (show kitB "str" "bool" = some false by decide +kernel)
  | .list _ => (show kitB "list" "bool" = some false by decide +kernel)
  | .tuple _ => (show kitB "tuple" "bool" = some false by decide +kernel)
  | .dict k => absurd rfl (h k)⟩
theorem isi_tuple : IsiT "tuple" isTuple := ⟨fun d h => match d with
  | .none => (show kitB "NoneType" "tuple" = some false by decide +kernel)
  | .bool _ => (show kitB "bool" "tuple" = some false by decide +kernel)
  | .int _ => (show kitB "int" "tuple" = some false by decide +kernel)
  | .str _ => (show kitB "str" "tuple" = some false by decide +kernel)
  | .list _ => (show kitB "list" "tuple" = some false by decide +kernel)
  | .tuple _ => (show kitB "tuple" "tuple" = some true by decide +kernel)
  | .dict k => absurd rfl (h k)⟩
theorem isi_list : IsiT "list" isList := ⟨fun d h => match d with
  | .none => (show kitB "NoneType" "list" = some false by decide +kernel)
  | .bool _ => (show kitB "bool" "list" = some false by decide +kernel)
  | .int _ => (show kitB "int" "list" = some false by decide +kernel)
  | .str _ => (show kitB "str" "list" = some false by decide +kernel)
  | .list _ => (show kitB "list" "list" = some true by decide +kernel)
  | .tuple _ => (show kitB "tuple" "list" = some false by decide +kernel)
  | .dict k => absurd rfl (h k)⟩
theorem isi_str : IsiT "str" isStr := ⟨fun d h => match d with
  | .none => (show kitB "NoneType" "str" = some false by decide +kernel)
  | .bool _ => (show kitB "bool" "str" = some false by decide +kernel)
  | .int _ => (show kitB "int" "str" = some false by decide +kernel)
  | .str _ => (show kitB "str" "str" = some true by decide +kernel)
  | .list _ => (show kitB "list" "str" = some false by decide +kernel)
  | .tuple _ => (show kitB "tuple" "str" = some false by decide +kernel)
  | .dict k => absurd rfl (h k)⟩
end
end
end DL
namespace DL
open PySem PySem.Spec PyProof.Rows L2
section
variable [KFrag]

/-! ### targets -/
def tG (is : List Nat) (h : W → En → Option En) : TG := fun v σ H Q => ∃ B μ s ρ w ρ', SR B μ s H ∧ ER B μ s H σ ρ ∧ RW B μ s H v w ∧ h w ρ = some ρ' ∧ ∀ σ', ER B μ s H σ' ρ' → σ'.length = σ.length → (∀ i, i ∉ is → σ'[i]? = σ[i]?) → Q σ' H
def tGs (is : List Nat) (h : List D → En → Option En) : TGs := fun vs σ H Q => ∃ B μ s ρ ds ρ', SR B μ s H ∧ ER B μ s H σ ρ ∧ Fzs H (Av B μ s) vs ds ∧ h ds ρ = some ρ' ∧ ∀ σ', ER B μ s H σ' ρ' → σ'.length = σ.length → (∀ i, i ∉ is → σ'[i]? = σ[i]?) → Q σ' H
abbrev DG (X : Cx) (e : Expr) (is : List Nat) (h : W → En → Option En) : Prop := PG X e (tG is h)
abbrev DGs (X : Cx) (e : List Expr) (is : List Nat) (h : List D → En → Option En) : Prop := PGs X e (tGs is h)
theorem PG_imp {X : Cx} {e : Expr} {t t' : TG} (h : PG X e t) (k : ∀ v σ H Q, t' v σ H Q → t v σ H Q) : PG X e t' := ⟨fun pins s σ H v u Q I r z => h.run pins s σ H v u Q I r (k _ _ _ _ z)⟩
theorem PGs_imp {X : Cx} {e : List Expr} {t t' : TGs} (h : PGs X e t) (k : ∀ v σ H Q, t' v σ H Q → t v σ H Q) : PGs X e t' := ⟨fun pins s σ H v u Q I r z => h.run pins s σ H v u Q I r (k _ _ _ _ z)⟩
def hN (i : Nat) (w : W) (ρ : En) : Option En := some (ρ.set i (some w))
def hsN (ds : List D) (ρ : En) : Option En := match ds with
  | [] => some ρ
  | _ => none
def hsC (h : W → En → Option En) (k : List D → En → Option En) (ds : List D) (ρ : En) : Option En := match ds with
  | [] => none
  | x :: r => match h (.d x) ρ with
    | some ρ1 => k r ρ1
    | none => none
def hT (n : Nat) (k : List D → En → Option En) (w : W) (ρ : En) : Option En := match w with
  | .d (.tuple ds) => if ds.length = n then k ds ρ else none
  | _ => none
section
variable {X : Cx} [HK X]
theorem dg_name {i : Nat} {x : Str} {pos : Pos} (h : PG X (.Name x pos) (gName i)) : DG X (.Name x pos) [i] (hN i) := PG_imp h fun v σ H Q ⟨B, μ, s, ρ, w, ρ', r, e, rel, z, q⟩ => by
  cases z
  refine q _ (e.set rel i) (by rw [List.length_set]) fun j hj => ?_
  rw [List.getElem?_set_ne (fun z => hj (by rw [z]; exact List.mem_singleton_self _))]
theorem dgs_nil : DGs X [] [] hsN := PGs_imp pgs_nil fun v σ H Q ⟨B, μ, s, ρ, ds, ρ', r, e, f, z, q⟩ => by
  cases f with
  | nil => cases z; exact ⟨rfl, q σ e rfl fun _ _ => rfl⟩
  | cons _ _ => cases z
theorem dgs_cons {e : Expr} {es : List Expr} {is js : List Nat} {h : W → En → Option En} {k : List D → En → Option En} (h1 : DG X e is h) (h2 : DGs X es js k)
    (ho : PGs X (e :: es) (gCons (tG is h) (tGs js k))) : DGs X (e :: es) (is ++ js) (hsC h k) := PGs_imp ho fun v σ H Q ⟨B, μ, s, ρ, ds, ρ', r, e, f, z, q⟩ => by
  cases f with
  | nil => cases z
  | @cons v vs d ds f1 f2 =>
    unfold hsC at z
    cases y : h (.d d) ρ with
    | none => simp only [y] at z; cases z
    | some ρ1 =>
      simp only [y] at z
      refine ⟨v, vs, rfl, B, μ, s, ρ, .d d, ρ1, r, e, f1, y, fun σ1 e1 l1 a1 => ?_⟩
      exact ⟨B, μ, s, ρ1, ds, ρ', r, e1, f2, z, fun σ2 e2 l2 a2 => q σ2 e2 (l2.trans l1) fun i hi => (a2 i fun m => hi (List.mem_append_right _ m)).trans (a1 i fun m => hi (List.mem_append_left _ m))⟩
theorem dg_tup {es : List Expr} {k : Nat} {pos : Pos} {n : Nat} {is : List Nat} {h : List D → En → Option En} (ho : PG X (.Tuple es k pos) (gTup X.K n (tGs is h))) : DG X (.Tuple es k pos) is (hT n h) := PG_imp ho fun v σ H Q ⟨B, μ, s, ρ, w, ρ', r, e, rel, z, q⟩ => by
  unfold hT at z
  split at z
  · rename_i ds
    split at z
    · rename_i hl
      have rel : Fz H (Av B μ s) v (.tuple ds) := rel
      cases rel with
      | @tup a xs _ h1 f1 => exact ⟨a, xs, rfl, h1.sq, f1.len.trans hl, B, μ, s, ρ, ds, ρ', r, e, f1, z, q⟩
    · cases z
  · cases z
end

/-! ### what is walked -/
/-- an iterator that stands for a list of data -/
structure ItR (B : Addr → Prop) (μ : List Addr) (s : CS) (H : Hp) (J : It) (ds : List D) : Prop where
  ex : ∃ G Y, Walk J ds.length G Y ∧ (∀ H' A', Kp H H' (Av B μ s) A' → Bt H' A' → G H') ∧
    ∀ i H' A' v H'', Kp H H' (Av B μ s) A' → Bt H' A' → i < ds.length → Y i H' v H'' → Same H' H'' ∧ ∃ d, ds[i]? = some d ∧ Fz H'' A' v d
theorem Kp.trans {H H' H'' : Hp} {A A' A'' : Addr → Prop} (a : Kp H H' A A') (b : Kp H' H'' A' A'') : Kp H H'' A A'' :=
  ⟨fun x o e n => b.keep x o (a.keep x o e n) (a.new x o e n), fun x o e n => b.new x o (a.keep x o e n) (a.new x o e n)⟩
theorem ItR.stp {B : Addr → Prop} {μ μ' : List Addr} {s s' : CS} {H H' : Hp} {J : It} {ds : List D} (a : Stp μ s H μ' s' H') (h : ItR B μ s H J ds) : ItR B μ' s' H' J ds := by
  obtain ⟨G, Y, w, g, y⟩ := h.ex
  exact ⟨G, Y, w, fun h A k bt => g h A (a.kp.trans k) bt, fun i h A v h2 k bt => y i h A v h2 (a.kp.trans k) bt⟩
instance : Rp (List D) It := ⟨ItR, fun a h => h.stp a⟩
abbrev DI (X : Cx) (T : TX) (Wx : WXc) (tg iter : Expr) (f : En → CS → R (List D)) : Prop := PI X tg iter (tD T Wx f)
theorem PI_imp {X : Cx} {tg e : Expr} {t t' : TI} (h : PI X tg e t) (k : ∀ σ H Q, t' σ H Q → t σ H Q) : PI X tg e t' := ⟨fun pins s σ H Q I z => h.run pins s σ H Q I (k _ _ _ z)⟩
theorem itr_list {K : PySem.W.Frag} {B : Addr → Prop} {μ : List Addr} {s : CS} {H : Hp} {a : Addr} {xs : List V} {ds : List D} (h : FL H (Av B μ s) a xs) (f : Fzs H (Av B μ s) xs ds) : ItR B μ s H (Itl K a) ds := by
  refine ⟨fun H => SqL K H a xs, YAt xs, ?_, fun H' A' k bt => ?_, fun i H' A' v H'' k bt hi y => ?_⟩
  · rw [← f.len]; exact walk_list
  · exact .of (k.keep _ _ h.1 h.2)
  · obtain ⟨rfl, e⟩ := y
    obtain ⟨d, e1, e2⟩ := (f.kp k).getV e
    exact ⟨Same.refl _, d, e1, e2⟩
theorem itr_tup {X : Cx} [HK X] {B : Addr → Prop} {μ : List Addr} {s : CS} {H : Hp} {a : Addr} {xs : List V} {ds : List D} (h : FT H (Av B μ s) a xs) (f : Fzs H (Av B μ s) xs ds) : ItR B μ s H (Itt X.K a) ds := by
  refine ⟨fun H => SqT X.K H a xs, YAt xs, ?_, fun H' A' k bt => ?_, fun i H' A' v H'' k bt hi y => ?_⟩
  · rw [← f.len]; exact walk_tup
  · exact (h.kp k.keep k.new).sq
  · obtain ⟨rfl, e⟩ := y
    obtain ⟨d, e1, e2⟩ := (f.kp k).getV e
    exact ⟨Same.refl _, d, e1, e2⟩
def rngD (lo : Int) (n : Nat) : List D := (List.range n).map fun i => .int (lo + (i : Nat))
theorem itr_rng {B : Addr → Prop} {μ : List Addr} {s : CS} {H : Hp} {lo : Int} {n : Nat} : ItR B μ s H (Itr lo n) (rngD lo n) := by
  have hl : (rngD lo n).length = n := by simp [rngD]
  refine ⟨fun _ => True, YFn fun i => .int (lo + i), by rw [hl]; exact walk_range, fun _ _ _ _ => trivial, fun i H' A' v H'' k bt hi y => ?_⟩
  obtain ⟨rfl, rfl⟩ := y
  refine ⟨Same.refl _, .int (lo + i), ?_, .int _⟩
  rw [hl] at hi
  simp [rngD, hi]
def seqD : W → CS → R (List D)
  | .d (.tuple ds), s => .ok ds s
  | .d (.list ds), s => .ok ds s
  | .sc ns, s => .ok (ns.map .int) s
  | _, _ => .bad
def listW : W → CS → R (List D)
  | .d (.list ds), s => .ok ds s
  | _, _ => .bad
def tupW : W → CS → R (List D)
  | .d (.tuple ds), s => .ok ds s
  | _, _ => .bad
def fItL (f : En → CS → R W) (ρ : En) (s : CS) : R (List D) := (f ρ s).bind listW
def fItT (f : En → CS → R W) (ρ : En) (s : CS) : R (List D) := (f ρ s).bind tupW
def fRng1 (f : En → CS → R W) (ρ : En) (s : CS) : R (List D) := (f ρ s).bind fun w s => match w with
  | .d (.int j) => if -(2 ^ 62) ≤ j ∧ j < 2 ^ 62 then .ok (rngD 0 j.toNat) s else .bad
  | _ => .bad
def fRng2 (f g : En → CS → R W) (ρ : En) (s : CS) : R (List D) := (f ρ s).bind fun w s => (g ρ s).bind fun u s => match w, u with
  | .d (.int i), .d (.int j) => if -(2 ^ 62) ≤ i ∧ i < 2 ^ 62 ∧ -(2 ^ 62) ≤ j ∧ j < 2 ^ 62 then .ok (rngD i (j - i).toNat) s else .bad
  | _, _ => .bad
section
variable {X : Cx} [HK X] {T : TX} {Wx : WXc} {tg e e2 : Expr} {f g : En → CS → R W} {p pos : Pos}
theorem di_list (h : DE X T Wx e f) : DI X T Wx tg e (fItL f) := PI_imp (pi_list h) fun σ H Q ⟨B, μ, s, ρ, r, e, q⟩ =>
  tD_bind r e q fun w s1 v μ1 H1 st1 r1 e1 rel1 q1 => by
    unfold listW at q1
    split at q1
    · rename_i ds
      have rel1 : Fz H1 (Av B μ1 s1) v (.list ds) := rel1
      cases rel1 with
      | @lst a xs _ h1 f1 => exact ⟨a, rfl, ⟨xs, h1.sq⟩, Fin.here (a := List D) q1 r1 (itr_list h1 f1)⟩
    · exact q1.elim
theorem di_tup (h : DE X T Wx e f) : DI X T Wx tg e (fItT f) := PI_imp (pi_tup h) fun σ H Q ⟨B, μ, s, ρ, r, e, q⟩ =>
  tD_bind r e q fun w s1 v μ1 H1 st1 r1 e1 rel1 q1 => by
    unfold tupW at q1
    split at q1
    · rename_i ds
      have rel1 : Fz H1 (Av B μ1 s1) v (.tuple ds) := rel1
      cases rel1 with
      | @tup a xs _ h1 f1 => exact ⟨a, rfl, ⟨xs, h1.sq⟩, Fin.here (a := List D) q1 r1 (itr_tup h1 f1)⟩
    · exact q1.elim
theorem di_rng1 (hg : Gl X "range") (hm : X.mg "range" = none) (h : DE X T Wx e f) (hs : starEach [e] X.env = [(false, eval e X.env)] := by rfl) : DI X T Wx tg (.Call (.Name "range" p) [e] [] pos) (fRng1 f) :=
  PI_imp (pi_range1 hg hm (pa_cons h pa_nil (by rw [hs] <;> rfl)) hs) fun σ H Q ⟨B, μ, s, ρ, r, e, q⟩ =>
  tD_bind r e q fun w s1 v μ1 H1 st1 r1 e1 rel1 q1 => by
    split at q1
    · rename_i j
      split at q1
      · rename_i hj
        have rel1 : Fz H1 (Av B μ1 s1) v (.int j) := rel1
        cases rel1
        exact ⟨j, rfl, hj.1, hj.2, Fin.here (a := List D) q1 r1 itr_rng⟩
      · exact q1.elim
    · exact q1.elim
theorem di_rng2 (hg : Gl X "range") (hm : X.mg "range" = none) (h : DE X T Wx e f) (k : DE X T Wx e2 g) (hs : starEach [e, e2] X.env = [(false, eval e X.env), (false, eval e2 X.env)] := by rfl) (hs2 : starEach [e2] X.env = [(false, eval e2 X.env)] := by rfl) :
    DI X T Wx tg (.Call (.Name "range" p) [e, e2] [] pos) (fRng2 f g) :=
  PI_imp (pi_range2 hg hm (pa_cons h (pa_cons k pa_nil (by rw [hs2] <;> rfl)) (by rw [hs, hs2])) hs hs2) fun σ H Q ⟨B, μ, s, ρ, r, e, q⟩ =>
  tD_bind r e q fun w s1 v μ1 H1 st1 r1 e1 rel1 q1 => tD_bind r1 e1 q1 fun u s2 v2 μ2 H2 st2 r2 e2 rel2 q2 => by
    split at q2
    · rename_i i j
      split at q2
      · rename_i hj
        have rel1 : Fz H1 (Av B μ1 s1) v (.int i) := rel1
        have rel2 : Fz H2 (Av B μ2 s2) v2 (.int j) := rel2
        cases rel1
        cases rel2
        exact ⟨i, j, rfl, hj, Fin.here (a := List D) q2 r2 itr_rng⟩
      · exact q2.elim
    · exact q2.elim
end

/-! ### statements -/
inductive RT where
  | nx (ρ : En) (s : CS) | rt (w : W) (s : CS) | bk (ρ : En) (s : CS) | ct (ρ : En) (s : CS) | exc (e : Exn) (ρ : En) (s : CS) | bad
def FinT (T : TX) (Wx : WXc) (B : Addr → Prop) (μ : List Addr) (s : CS) (H : Hp) (D : Ends) : RT → Prop
  | .nx ρ' s' => ∀ σ' μ' H', Stp μ s H μ' s' H' → SR B μ' s' H' → ER B μ' s' H' σ' ρ' → D.nx σ' H'
  | .rt w s' => ∀ v μ' H', Stp μ s H μ' s' H' → SR B μ' s' H' → RW B μ' s' H' v w → D.rt v H'
  | .bk ρ' s' => ∀ σ' μ' H', Stp μ s H μ' s' H' → SR B μ' s' H' → ER B μ' s' H' σ' ρ' → D.bk σ' H'
  | .ct ρ' s' => ∀ σ' μ' H', Stp μ s H μ' s' H' → SR B μ' s' H' → ER B μ' s' H' σ' ρ' → D.ct σ' H'
  | .exc e ρ' s' => ∀ σ' μ' H' c d, Stp μ s H μ' s' H' → SR B μ' s' H' → ER B μ' s' H' σ' ρ' → ExV T (Av B μ' s') H' e c d → Wx c d σ' H'
  | .bad => False
def tT (T : TX) (Wx : WXc) (g : En → CS → RT) : TS := fun D σ H => ∃ B μ s ρ, SR B μ s H ∧ ER B μ s H σ ρ ∧ FinT T Wx B μ s H D (g ρ s)
abbrev DS (X : Cx) (T : TX) (Wx : WXc) (e : Stmt) (g : En → CS → RT) : Prop := PS X e (tT T Wx g)
abbrev DSs (X : Cx) (T : TX) (Wx : WXc) (e : List Stmt) (g : En → CS → RT) : Prop := PSs X e (tT T Wx g)
/-- an expression's end, as a statement's -/
def R.toT {a : Type} (r : R a) (ρ : En) (k : a → CS → RT) : RT := match r with
  | .ok x s => k x s
  | .exc e s => .exc e ρ s
  | .bad => .bad
section
variable {a b : Type} [Rp a b] {T : TX} {Wx : WXc} {B : Addr → Prop} {μ μ' : List Addr} {s s' : CS} {H H' : Hp} {σ : L2.St} {ρ : En} {D : Ends}
theorem FinT.stp (st : Stp μ s H μ' s' H') {r : RT} (h : FinT T Wx B μ s H D r) : FinT T Wx B μ' s' H' D r := by
  cases r with
  | nx ρ t => exact fun v m h1 b c d => h v m h1 (st.trans b) c d
  | rt w t => exact fun v m h1 b c d => h v m h1 (st.trans b) c d
  | bk ρ t => exact fun v m h1 b c d => h v m h1 (st.trans b) c d
  | ct ρ t => exact fun v m h1 b c d => h v m h1 (st.trans b) c d
  | exc e ρ t => exact fun v m h1 c d b x y z => h v m h1 c d (st.trans b) x y z
  | bad => exact h
theorem tD_bindT {f : En → CS → R a} {g : a → CS → RT} {k : b → Hp → Prop} (r : SR B μ s H) (e : ER B μ s H σ ρ) (q : FinT T Wx B μ s H D ((f ρ s).toT ρ g))
    (h : ∀ w s1 v μ1 H1, Stp μ s H μ1 s1 H1 → SR B μ1 s1 H1 → ER B μ1 s1 H1 σ ρ → Rp.rel B μ1 s1 H1 v w → FinT T Wx B μ1 s1 H1 D (g w s1) → k v H1) : tD T Wx f σ H k := by
  refine ⟨B, μ, s, ρ, r, e, ?_⟩
  cases z : f ρ s with
  | ok w s1 =>
    rw [z] at q
    intro v μ1 H1 a b c
    exact h w s1 v μ1 H1 a b (e.stp a) c (FinT.stp a q)
  | exc x s1 =>
    rw [z] at q
    exact fun μ1 H1 c d st r1 ex => q σ μ1 H1 c d st r1 (e.stp st) ex
  | bad =>
    rw [z] at q
    exact q
end
def gSeq (g k : En → CS → RT) (ρ : En) (s : CS) : RT := match g ρ s with
  | .nx ρ1 s1 => k ρ1 s1
  | r => r
def gNx (ρ : En) (s : CS) : RT := .nx ρ s
def gRet (f : En → CS → R W) (ρ : En) (s : CS) : RT := (f ρ s).toT ρ fun w s => .rt w s
def gRetN (_ : En) (s : CS) : RT := .rt (.d .none) s
def gDrop (f : En → CS → R W) (ρ : En) (s : CS) : RT := (f ρ s).toT ρ fun _ s => .nx ρ s
def gBk (ρ : En) (s : CS) : RT := .bk ρ s
def gCt (ρ : En) (s : CS) : RT := .ct ρ s
def gIf (t : En → CS → R Bool) (g k : En → CS → RT) (ρ : En) (s : CS) : RT := (t ρ s).toT ρ fun b s => if b = true then g ρ s else k ρ s
def gAsg (h : W → En → Option En) (f : En → CS → R W) (ρ : En) (s : CS) : RT := (f ρ s).toT ρ fun w s => match h w ρ with
  | some ρ' => .nx ρ' s
  | none => .bad
section
variable {X : Cx} [HK X] {T : TX} {Wx : WXc} {st : Stmt} {sts : List Stmt} {g k : En → CS → RT} {e tg : Expr} {f : En → CS → R W} {pos : Pos}
theorem dss_nil : DSs X T Wx [] gNx := PSs_imp pss_nil fun D σ H ⟨B, μ, s, ρ, r, e, q⟩ => q σ μ H Stp.refl r e
theorem dss_cons (h1 : DS X T Wx st g) (h2 : DSs X T Wx sts k) : DSs X T Wx (st :: sts) (gSeq g k) := PSs_imp (pss_cons h1 h2) fun D σ H ⟨B, μ, s, ρ, r, e, q⟩ => by
  refine ⟨B, μ, s, ρ, r, e, ?_⟩
  unfold gSeq at q
  cases z : g ρ s with
  | nx ρ1 s1 =>
    simp only [z] at q
    exact fun σ1 μ1 H1 st1 r1 e1 => ⟨B, μ1, s1, ρ1, r1, e1, FinT.stp st1 q⟩
  | rt w s1 => simp only [z] at q; exact q
  | bk w s1 => simp only [z] at q; exact q
  | ct w s1 => simp only [z] at q; exact q
  | exc w ρ1 s1 => simp only [z] at q; exact q
  | bad => simp only [z] at q; exact q
theorem dss_one (h1 : DS X T Wx st g) : DSs X T Wx [st] g := pss_one h1
theorem ds_pass : DS X T Wx (.Pass pos) gNx := PS_imp ps_pass fun D σ H ⟨B, μ, s, ρ, r, e, q⟩ => q σ μ H Stp.refl r e
theorem ds_break : DS X T Wx (.Break pos) gBk := PS_imp ps_break fun D σ H ⟨B, μ, s, ρ, r, e, q⟩ => q σ μ H Stp.refl r e
theorem ds_cont : DS X T Wx (.Continue pos) gCt := PS_imp ps_continue fun D σ H ⟨B, μ, s, ρ, r, e, q⟩ => q σ μ H Stp.refl r e
theorem ds_ret (h : DE X T Wx e f) : DS X T Wx (.Return (some e) pos) (gRet f) := PS_imp (ps_ret h) fun D σ H ⟨B, μ, s, ρ, r, e, q⟩ =>
  tD_bindT r e q fun w s1 v μ1 H1 st1 r1 e1 rel1 q1 => q1 v μ1 H1 Stp.refl r1 rel1
theorem ds_retN : DS X T Wx (.Return none pos) gRetN := PS_imp ps_retN fun D σ H ⟨B, μ, s, ρ, r, e, q⟩ => q .non μ H Stp.refl r Fz.non
theorem ds_expr (h : DE X T Wx e f) (hs : swapsWith e none pos.line X.env = pure false := by rfl) : DS X T Wx (.Expr e pos) (gDrop f) := PS_imp (ps_expr h hs) fun D σ H ⟨B, μ, s, ρ, r, e, q⟩ =>
  tD_bindT r e q fun w s1 v μ1 H1 st1 r1 e1 rel1 q1 => q1 σ μ1 H1 Stp.refl r1 e1
theorem ds_doc {x j p} : DS X T Wx (.Expr (.Constant (.str x) j p) pos) gNx := PS_imp ps_doc fun D σ H ⟨B, μ, s, ρ, r, e, q⟩ => q σ μ H Stp.refl r e
theorem ds_if {t : En → CS → R Bool} {as bs : List Stmt} (ht : DT X T Wx e t) (h1 : DSs X T Wx as g) (h2 : DSs X T Wx bs k) : DS X T Wx (.If e as bs pos) (gIf t g k) := PS_imp (ps_if ht h1 h2) fun D σ H ⟨B, μ, s, ρ, r, e, q⟩ =>
  tD_bindT r e q fun w s1 v μ1 H1 st1 r1 e1 rel1 q1 => by
    cases rel1
    cases w with
    | true => exact ⟨B, μ1, s1, ρ, r1, e1, q1⟩
    | false => exact ⟨B, μ1, s1, ρ, r1, e1, q1⟩
theorem tAsg_use {is : List Nat} {h : W → En → Option En} {D : Ends} {σ : L2.St} {H : Hp} (q : tT T Wx (gAsg h f) D σ H) : tAsg (tD T Wx f) (tG is h) D σ H := by
  obtain ⟨B, μ, s, ρ, r, e, q⟩ := q
  refine tD_bindT r e q fun w s1 v μ1 H1 st1 r1 e1 rel1 q1 => ?_
  cases z : h w ρ with
  | none => rw [z] at q1; exact q1.elim
  | some ρ' =>
    rw [z] at q1
    exact ⟨B, μ1, s1, ρ, w, ρ', r1, e1, rel1, z, fun σ' e' _ _ => q1 σ' μ1 H1 Stp.refl r1 e'⟩
theorem ds_asg {is : List Nat} {h : W → En → Option En} (he : DE X T Wx e f) (hg : DG X tg is h) (hs : swapsWithSole [tg] e pos.line X.env = pure false := by rfl) (hw : swappedStores [tg] e X.env = pure none := by rfl) (h1 : (assignEach [tg] X.env).map (·.2) = [assign tg X.env] := by rfl) : DS X T Wx (.Assign [tg] e pos) (gAsg h f) :=
  PS_imp (ps_asg he hg hs hw h1) fun D σ H q => tAsg_use q
theorem ds_set {i : Nat} {x : Str} {pos' : Pos} (hN' : X.N.Nodup) (hi : X.N[i]? = some x) (hx : Loc X.env.scope x) (he : DE X T Wx e f) (hs : swapsWith e (some (.Name x pos')) pos.line X.env = pure false := by rfl) (hf : X.fn x = true ∨ X.env.scope.names.lookup x = some .local := by first | exact .inl rfl | exact .inr rfl | assumption) :
    DS X T Wx (.Assign [.Name x pos'] e pos) (gAsg (hN i) f) := PS_imp (ps_set hN' hi hx he hs hf) fun D σ H q => by
  obtain ⟨B, μ, s, ρ, r, e, q⟩ := q
  exact tD_bindT r e q fun w s1 v μ1 H1 st1 r1 e1 rel1 q1 => q1 _ μ1 H1 Stp.refl r1 (e1.set rel1 i)
/-! loops -/
def forL (h : W → En → Option En) (body : En → CS → RT) : List PyData → En → CS → RT
  | [], ρ, s => .nx ρ s
  | x :: r, ρ, s => match h (.d x) ρ with
    | none => .bad
    | some ρ1 => match body ρ1 s with
      | .nx ρ2 s2 => forL h body r ρ2 s2
      | .ct ρ2 s2 => forL h body r ρ2 s2
      | .bk ρ2 s2 => .nx ρ2 s2
      | z => z
def gFor (fi : En → CS → R (List PyData)) (h : W → En → Option En) (body : En → CS → RT) (ρ : En) (s : CS) : RT := (fi ρ s).toT ρ fun ds s => forL h body ds ρ s
theorem ds_for {fi : En → CS → R (List PyData)} {is : List Nat} {h : W → En → Option En} {iter : Expr} {body : List Stmt} (hp : PassesOwn (model X.prog X.w) X.A X.env X.xe) (hc : X.calm = true) (hi : DI X T Wx tg iter fi) (hg : DG X tg is h) (hb : DSs X T Wx body g)
    (hs : ∀ x, foldedSetIterable iter X.env x = pure x := by intro _; rfl) : DS X T Wx (.For tg iter body [] pos) (gFor fi h g) := PS_imp (ps_for hp hc hi hg hb hs) fun D σ H ⟨B, μ, s, ρ, r, e, q⟩ => by
  refine tD_bindT r e q fun ds s1 J μ1 H1 st1 r1 e1 rel1 q1 => ?_
  obtain ⟨G, Y, w, gg, yy⟩ := rel1.ex
  refine for_it w (fun i σ' H' => ∃ μ' s' ρ', Stp μ1 s1 H1 μ' s' H' ∧ SR B μ' s' H' ∧ ER B μ' s' H' σ' ρ' ∧ FinT T Wx B μ' s' H' D (forL h g (ds.drop i) ρ' s')) ⟨μ1, s1, ρ, Stp.refl, r1, e1, q1⟩ (fun i σ' H' hi z => ?_) (fun i x σ' H' H'' hi z y => ?_) (fun σ' H' z => ?_)
  · obtain ⟨μ', s', ρ', st, sr, er, fq⟩ := z
    exact gg H' _ st.kp sr.bt'
  · obtain ⟨μ', s', ρ', st, sr, er, fq⟩ := z
    obtain ⟨sm, d, ed, fd⟩ := yy i H' _ x H'' st.kp sr.bt' hi y
    have ec : ds.drop i = d :: ds.drop (i + 1) := by
      obtain ⟨hl, rfl⟩ := List.getElem?_eq_some_iff.mp ed
      exact List.drop_eq_getElem_cons hl
    rw [ec] at fq
    unfold forL at fq
    have sr2 := sr.same sm
    have st2 : Stp μ' s' H' μ' s' H'' := Stp.same sm
    have fq := FinT.stp st2 fq
    cases z1 : h (.d d) ρ' with
    | none => simp only [z1] at fq; exact fq.elim
    | some ρ1 =>
      simp only [z1] at fq
      refine ⟨B, μ', s', ρ', .d d, ρ1, sr2, er.stp st2, fd, z1, fun σ2 e2 _ _ => ⟨B, μ', s', ρ1, sr2, e2, ?_⟩⟩
      cases z2 : g ρ1 s' with
      | nx ρ2 s2 =>
        simp only [z2] at fq
        exact fun σ3 μ3 H3 st3 sr3 er3 => ⟨μ3, s2, ρ2, (st.trans st2).trans st3, sr3, er3, FinT.stp st3 fq⟩
      | ct ρ2 s2 =>
        simp only [z2] at fq
        exact fun σ3 μ3 H3 st3 sr3 er3 => ⟨μ3, s2, ρ2, (st.trans st2).trans st3, sr3, er3, FinT.stp st3 fq⟩
      | bk ρ2 s2 => simp only [z2] at fq; exact fq
      | rt w2 s2 => simp only [z2] at fq; exact fq
      | exc w2 ρ2 s2 => simp only [z2] at fq; exact fq
      | bad => simp only [z2] at fq; exact fq
  · obtain ⟨μ', s', ρ', st, sr, er, fq⟩ := z
    rw [List.drop_length] at fq
    exact fq σ' μ' H' Stp.refl sr er
def whileL (t : En → CS → R Bool) (body : En → CS → RT) : Nat → En → CS → RT
  | 0, _, _ => .bad
  | n + 1, ρ, s => (t ρ s).toT ρ fun b s => if b = true then (match body ρ s with
      | .nx ρ2 s2 => whileL t body n ρ2 s2
      | .ct ρ2 s2 => whileL t body n ρ2 s2
      | .bk ρ2 s2 => .nx ρ2 s2
      | z => z) else .nx ρ s
theorem ds_while {t : En → CS → R Bool} {body : List Stmt} (n : Nat) (hp : PassesOwn (model X.prog X.w) X.A X.env X.xe) (ht : DT X T Wx e t) (hb : DSs X T Wx body g) : DS X T Wx (.While e body [] pos) (whileL t g n) := PS_imp (ps_while hp ht hb) fun D σ H ⟨B, μ, s, ρ, r, e, q⟩ => by
  refine ⟨fun m σ' H' => ∃ μ' s' ρ', SR B μ' s' H' ∧ ER B μ' s' H' σ' ρ' ∧ FinT T Wx B μ' s' H' D (whileL t g m ρ' s'), ⟨n, μ, s, ρ, r, e, q⟩, ?_⟩
  rintro m σ' H' ⟨μ', s', ρ', sr, er, fq⟩
  cases m with
  | zero => exact fq.elim
  | succ m =>
    unfold whileL at fq
    refine tD_bindT sr er fq fun b s1 v μ1 H1 st1 r1 e1 rel1 q1 => ?_
    cases rel1
    cases b with
    | false => exact q1 σ' μ1 H1 Stp.refl r1 e1
    | true =>
      rw [if_pos rfl] at q1 ⊢
      refine ⟨fun σ2 H2 => ∃ μ2 s2 ρ2, SR B μ2 s2 H2 ∧ ER B μ2 s2 H2 σ2 ρ2 ∧ FinT T Wx B μ2 s2 H2 D (whileL t g m ρ2 s2), fun σ2 H2 z => ⟨m, Nat.lt_succ_self m, z⟩, B, μ1, s1, ρ', r1, e1, ?_⟩
      cases z2 : g ρ' s1 with
      | nx ρ2 s2 =>
        simp only [z2] at q1
        exact fun σ3 μ3 H3 st3 sr3 er3 => ⟨μ3, s2, ρ2, sr3, er3, FinT.stp st3 q1⟩
      | ct ρ2 s2 =>
        simp only [z2] at q1
        exact fun σ3 μ3 H3 st3 sr3 er3 => ⟨μ3, s2, ρ2, sr3, er3, FinT.stp st3 q1⟩
      | bk ρ2 s2 => simp only [z2] at q1; exact q1
      | rt w2 s2 => simp only [z2] at q1; exact q1
      | exc w2 ρ2 s2 => simp only [z2] at q1; exact q1
      | bad => simp only [z2] at q1; exact q1
end
end
end DL
namespace DL
open PySem PySem.Spec PyProof.Rows L2
section
variable [KFrag]

/-! ### comprehensions -/
def wipeE (ρ : En) : List Nat → En
  | [] => ρ
  | v :: vs => (wipeE ρ vs).set v none
theorem wipeE_len (ρ : En) : ∀ vs : List Nat, (wipeE ρ vs).length = ρ.length
  | [] => rfl
  | v :: vs => by unfold wipeE; rw [List.length_set, wipeE_len ρ vs]
theorem wipeE_some {ρ : En} {i : Nat} {x : W} : ∀ {vs : List Nat}, (wipeE ρ vs)[i]? = some (some x) → ρ[i]? = some (some x) ∧ i ∉ vs
  | [], h => ⟨h, by simp⟩
  | v :: vs, h => by
    unfold wipeE at h
    by_cases hi : v = i
    · subst hi
      by_cases hv : v < (wipeE ρ vs).length
      · rw [List.getElem?_set_self hv] at h; cases h
      · rw [List.getElem?_eq_none (by simpa using hv)] at h; cases h
    · rw [List.getElem?_set_ne hi] at h
      obtain ⟨h1, h2⟩ := wipeE_some h
      exact ⟨h1, by simp only [List.mem_cons, not_or]; exact ⟨fun e => hi e.symm, h2⟩⟩
theorem ER.wipe {B : Addr → Prop} {μ : List Addr} {s : CS} {H : Hp} {σ : L2.St} {ρ : En} (e : ER B μ s H σ ρ) (vs : List Nat) : ER B μ s H (wipe σ vs) (wipeE ρ vs) := by
  refine ⟨by rw [wipe_length, wipeE_len]; exact e.len, fun i w z => ?_⟩
  obtain ⟨z1, z2⟩ := wipeE_some z
  obtain ⟨v, e1, e2⟩ := e.at_ i w z1
  exact ⟨v, by rw [wipe_out z2]; exact e1, e2⟩
theorem wipe_at {σ : L2.St} {i : Nat} : ∀ {vs : List Nat}, i ∈ vs → i < σ.length → (wipe σ vs)[i]? = some none
  | [], h, _ => by cases h
  | v :: vs, h, hl => by
    unfold wipe
    by_cases e : v = i
    · subst e
      rw [List.getElem?_set_self (by rw [wipe_length]; exact hl)]
    · rw [List.getElem?_set_ne e]
      exact wipe_at ((List.mem_cons.mp h).elim (fun z => absurd z.symm e) fun z => z) hl
theorem wipe_eq {σ σ' : L2.St} {vs is : List Nat} (hl : σ'.length = σ.length) (ha : ∀ i, i ∉ is → σ'[i]? = σ[i]?) (hs : ∀ i ∈ is, i ∈ vs) : wipe σ' vs = wipe σ vs := by
  apply List.ext_getElem?
  intro i
  by_cases hi : i ∈ vs
  · by_cases hb : i < σ.length
    · rw [wipe_at hi hb, wipe_at hi (by rw [hl]; exact hb)]
    · rw [List.getElem?_eq_none (by rw [wipe_length]; omega), List.getElem?_eq_none (by rw [wipe_length]; omega)]
  · rw [wipe_out hi, wipe_out hi, ha i fun z => hi (hs i z)]
theorem wipe_wipe {σ : L2.St} {vs : List Nat} : wipe (wipe σ vs) vs = wipe σ vs := by
  apply List.ext_getElem?
  intro i
  by_cases hi : i ∈ vs
  · by_cases hb : i < σ.length
    · rw [wipe_at hi hb, wipe_at hi (by rw [wipe_length]; exact hb)]
    · rw [List.getElem?_eq_none (by rw [wipe_length, wipe_length]; omega), List.getElem?_eq_none (by rw [wipe_length]; omega)]
  · rw [wipe_out hi, wipe_out hi]

/-- an exception is not looked for within a comprehension -/
def R.bind0 {a b : Type} (r : R a) (k : a → CS → R b) : R b := match r with
  | .ok x s => k x s
  | _ => .bad
abbrev Wx0 : WXc := fun _ _ _ _ => False
def fYes (_ : En) (s : CS) : R Bool := .ok true s
def consR (w : W) (r : CS → R (List D)) (s : CS) : R (List D) := match w with
  | .d y => (r s).bind0 fun ys s => .ok (y :: ys) s
  | _ => .bad
def compL (h : W → En → Option En) (tt : En → CS → R Bool) (f : En → CS → R W) (ρ : En) : List D → CS → R (List D)
  | [], s => .ok [] s
  | x :: r, s => match h (.d x) ρ with
    | none => .bad
    | some ρ1 => (tt ρ1 s).bind0 fun b s => if b = true then (f ρ1 s).bind0 fun w s => consR w (fun s => compL h tt f ρ r s) s else compL h tt f ρ r s
def endL (pre : List D) (r : R (List D)) : R W := r.bind0 fun ys s => .ok (.d (.list (pre ++ ys))) s
def fLc (vs : List Nat) (fi : En → CS → R (List D)) (h : W → En → Option En) (tt : En → CS → R Bool) (f : En → CS → R W) (ρ : En) (s : CS) : R W :=
  (fi ρ s).bind fun items s => if items.length ≤ line then endL [] (compL h tt f (wipeE ρ vs) items s) else .bad

section
variable {T : TX} {Wx : WXc} {B : Addr → Prop} {μ μ' : List Addr} {s s' : CS} {H H' : Hp} {σ : L2.St} {ρ : En}
/-- .. and one object more that no one but the maker may touch -/
def And1 (B : Addr → Prop) (D : Addr) (a : Addr) : Prop := B a ∨ a = D
theorem SR.off {D : Addr} (r : SR (And1 B D) μ s H) : SR B μ s H where
  len := r.len
  inj := r.inj
  th := r.th
  nb := fun n a e z => r.nb n a e (.inl z)
  bt := fun a z => r.bt a (.inl z)
  cell := fun n a c e1 e2 => by
    exact (r.cell n a c e1 e2).kp ⟨fun _ _ e _ => e, fun a _ _ n z => n (z.elim (fun z => .inl (.inl z)) .inr)⟩ fun _ e => e
theorem kp_on {D : Addr} {o : HO} (h : H D = none) : Kp H (upd H D o) (Av B μ s) (Av (And1 B D) μ s) :=
  ⟨fun a x e _ => same_upd h a x e, fun a x e n z => z.elim (fun z => z.elim (fun z => n (.inl z)) fun z => by rw [z, h] at e; cases e) fun z => n (.inr z)⟩
theorem SR.on {D : Addr} {o : HO} (r : SR B μ s H) (h : H D = none) : SR (And1 B D) μ s (upd H D o) where
  len := r.len
  inj := r.inj
  th := fun n a e => by
    cases z : H a with
    | none => exact absurd z (r.th n a e)
    | some x => rw [same_upd h _ _ z]; simp
  nb := fun n a e z => z.elim (r.nb n a e) fun z => r.th n a e (by rw [z]; exact h)
  bt := fun a z => by
    rcases z with z | z
    · cases y : H a with
      | none => exact absurd y (r.bt a z)
      | some x => rw [same_upd h _ _ y]; simp
    · rw [z, upd_same]; simp
  cell := fun n a c e1 e2 => by
    exact (r.cell n a c e1 e2).kp (kp_on h) fun o e => same_upd h _ _ e
theorem kp_upd {A : Addr → Prop} {D : Addr} {o : HO} (h : A D) : Kp H (upd H D o) A A :=
  ⟨fun a x e n => by rw [upd_ne (fun z => n (by rw [z]; exact h))]; exact e, fun _ _ _ n => n⟩
theorem SR.updB {D : Addr} {o : HO} (r : SR B μ s H) (h : B D) : SR B μ s (upd H D o) where
  len := r.len
  inj := r.inj
  th := fun n a e => by
    rw [upd_ne (fun z => r.nb n a e (by rw [z]; exact h))]
    exact r.th n a e
  nb := r.nb
  bt := fun a z => by
    by_cases e : a = D
    · rw [e, upd_same]; simp
    · rw [upd_ne e]; exact r.bt a z
  cell := fun n a c e1 e2 => by
    exact (r.cell n a c e1 e2).kp (kp_upd (.inl h)) fun o e => by rw [upd_ne (fun z => r.nb n a e1 (by rw [z]; exact h))]; exact e
theorem RW.kpB {B' : Addr → Prop} (st : Stp μ s H μ' s' H') (k : Kp H H' (Av B μ s) (Av B' μ' s')) {v : V} {w : W} (h : RW B μ s H v w) : RW B' μ' s' H' v w := by
  cases w with
  | d x => exact Fz.kp k h
  | c n =>
    obtain ⟨b, e, q⟩ := h
    obtain ⟨t, rfl⟩ := st.pre
    refine ⟨b, e, ?_⟩
    rw [List.getElem?_append_left (List.getElem?_eq_some_iff.mp q).1]
    exact q
  | sc ns =>
    obtain ⟨b, e, h⟩ := h
    rcases h with ⟨o, q, n⟩ | h
    · exact ⟨b, e, .inl ⟨o, st.keep _ _ q n, fun z => (st.new b z).elim n fun y => by rw [q] at y; cases y⟩⟩
    · exact ⟨b, e, .inr h⟩
  | fd ds => exact FD.kp k h
  | rg lo hi => exact FR.kp k h
theorem ER.kpB {B' : Addr → Prop} (st : Stp μ s H μ' s' H') (k : Kp H H' (Av B μ s) (Av B' μ' s')) (h : ER B μ s H σ ρ) : ER B' μ' s' H' σ ρ :=
  ⟨h.len, fun i w e => let ⟨v, e1, e2⟩ := h.at_ i w e; ⟨v, e1, e2.kpB st k⟩⟩
/-- an expression that is evaluated within a comprehension -/
theorem tD_bind0 {a b c d : Type} [Rp a b] [Rp c d] {B' : Addr → Prop} {f : En → CS → R a} {g : a → CS → R c} {k : b → Hp → Prop} {μ0 : List Addr} {s0 : CS} {H0 : Hp} {σ0 : L2.St} {Qc : d → Hp → Prop} (r : SR B' μ s H) (e : ER B' μ s H σ ρ)
    (q : Fin T Wx B μ0 s0 H0 σ0 Qc ((f ρ s).bind0 g))
    (h : ∀ w s1 v μ1 H1, Stp μ s H μ1 s1 H1 → SR B' μ1 s1 H1 → ER B' μ1 s1 H1 σ ρ → Rp.rel B' μ1 s1 H1 v w → Fin T Wx B μ0 s0 H0 σ0 Qc (g w s1) → k v H1) : tD T Wx0 f σ H k := by
  refine ⟨B', μ, s, ρ, r, e, ?_⟩
  cases z : f ρ s with
  | ok w s1 =>
    rw [z] at q
    intro v μ1 H1 a b c
    exact h w s1 v μ1 H1 a b (e.stp a) c q
  | exc x s1 =>
    rw [z] at q
    exact q.elim
  | bad =>
    rw [z] at q
    exact q
theorem endL_bind {a : Type} {pre : List D} {r : R a} {k : a → CS → R (List D)} : endL pre (r.bind0 k) = r.bind0 fun x s => endL pre (k x s) := by
  cases r <;> rfl
theorem endL_ite {pre : List D} {b : Bool} {x y : R (List D)} : endL pre (if b = true then x else y) = if b = true then endL pre x else endL pre y := by
  cases b <;> rfl
theorem endL_cons {pre : List D} {y : D} {r : CS → R (List D)} {s : CS} : endL pre (consR (.d y) r s) = endL (pre ++ [y]) (r s) := by
  unfold consR endL
  cases r s with
  | ok ys s => show R.ok _ _ = R.ok _ _; simp
  | exc e s => rfl
  | bad => rfl
end

section
variable {X : Cx} [HK X] {T : TX} {Wx : WXc} {elt tg iter : Expr} {ifs : List Expr} {scope : Scope} {own : List (Str × Nat)} {pos : Pos} {fi : En → CS → R (List D)} {is : List Nat} {h : W → En → Option En} {tt : En → CS → R Bool} {f : En → CS → R W}
/-- the heap while the list at D is made -/
structure Mk1 (B : Addr → Prop) (μ1 : List Addr) (s1 : CS) (H1 : Hp) (D : Addr) (μ : List Addr) (s : CS) (H : Hp) (ds : List PyData) : Prop where
  st : Stp μ1 s1 H1 μ s H
  sr : SR (And1 B D) μ s H
  ls : ∃ acc, H D = some (.lst acc) ∧ Fzs H (Av (And1 B D) μ s) acc ds
theorem Mk1.kp {B : Addr → Prop} {μ1 : List Addr} {s1 : CS} {H1 : Hp} {D : Addr} {μ : List Addr} {s : CS} {H : Hp} {ds : List PyData} (m : Mk1 B μ1 s1 H1 D μ s H ds) (hD : H1 D = none) : Kp H1 H (Av B μ1 s1) (Av (And1 B D) μ s) :=
  ⟨m.st.kp.keep, fun a o e n z => z.elim (fun z => z.elim (fun z => n (.inl z)) fun z => by rw [z, hD] at e; cases e) fun z => m.st.kp.new a o e n (.inr z)⟩
theorem Mk1.step {B : Addr → Prop} {μ1 : List Addr} {s1 : CS} {H1 : Hp} {D : Addr} {μ μ' : List Addr} {s s' : CS} {H H' : Hp} {ds : List PyData} (m : Mk1 B μ1 s1 H1 D μ s H ds) (st : Stp μ s H μ' s' H') (sr : SR (And1 B D) μ' s' H') : Mk1 B μ1 s1 H1 D μ' s' H' ds := by
  obtain ⟨acc, e, f⟩ := m.ls
  refine ⟨m.st.trans st, sr, acc, st.keep _ _ e fun z => ?_, f.kp st.kp⟩
  obtain ⟨n, _, z, _⟩ := z
  exact m.sr.nb n D z (.inr rfl)
theorem Mk1.push {B : Addr → Prop} {μ1 : List Addr} {s1 : CS} {H1 : Hp} {D : Addr} {μ : List Addr} {s : CS} {H : Hp} {ds : List PyData} (m : Mk1 B μ1 s1 H1 D μ s H ds) (hD : H1 D = none) {v : V} {d : PyData} (fz : Fz H (Av (And1 B D) μ s) v d) (hz : ds.length < line) :
    ∃ acc, H D = some (.lst acc) ∧ acc.length < sizeLine ∧ Mk1 B μ1 s1 H1 D μ s (upd H D (.lst (acc ++ [v]))) (ds ++ [d]) := by
  obtain ⟨acc, e, f⟩ := m.ls
  refine ⟨acc, e, by rw [f.len, line_eq]; exact hz, ⟨?_, m.sr.updB (.inr rfl), acc ++ [v], upd_same, (f.app (.cons fz .nil)).kp (kp_upd (.inl (.inr rfl)))⟩⟩
  refine ⟨m.st.pre, fun a o ea n => ?_, fun a ea => ?_, m.st.new⟩
  · have ha : a ≠ D := fun z => by rw [z, hD] at ea; cases ea
    rw [upd_ne ha]
    exact m.st.keep a o ea n
  · have ha : a ≠ D := fun z => by rw [z] at ea; exact ea hD
    rw [upd_ne ha]
    exact m.st.th a ea
theorem Mk1.start {B : Addr → Prop} {μ : List Addr} {s : CS} {H : Hp} {D : Addr} (r : SR B μ s H) (hD : H D = none) : Mk1 B μ s H D μ s (upd H D (.lst [])) [] :=
  ⟨Stp.same (same_upd hD), r.on hD, [], upd_same, .nil⟩
theorem Mk1.done {B : Addr → Prop} {μ1 : List Addr} {s1 : CS} {H1 : Hp} {D : Addr} {μ : List Addr} {s : CS} {H : Hp} {ds : List PyData} {σ : L2.St} {Q : VK} (m : Mk1 B μ1 s1 H1 D μ s H ds) (r1 : SR B μ1 s1 H1) (hD : H1 D = none)
    (q : Fin (a := W) T Wx B μ1 s1 H1 σ Q (.ok (.d (.list ds)) s)) : Q (.ref D) H := by
  obtain ⟨acc, e, f⟩ := m.ls
  refine q _ μ H m.st m.sr.off (Fz.lst ⟨e, fun z => ?_⟩ (f.mono fun a z => z.elim (fun z => .inl (.inl z)) .inr))
  rcases z with z | ⟨n, _, z, _⟩
  · exact r1.bt D z hD
  · exact m.sr.nb n D z (.inr rfl)
theorem tLc_use {σ : L2.St} {H : Hp} {Q : VK} (hsub : ∀ i ∈ is, i ∈ own.map (·.2)) (q : tD T Wx (fLc (own.map (·.2)) fi h tt f) σ H Q) : tLc (tD T Wx fi) (tG is h) (tD T Wx0 tt) (tD T Wx0 f) (own.map (·.2)) σ H Q := by
  obtain ⟨B, μ, s, ρ, r, e, q⟩ := q
  refine tD_bind r e q fun ds s1 J μ1 H1 st1 r1 e1 rel1 q1 D hD => ?_
  split at q1
  · rename_i hlen
    obtain ⟨G, Y, w, gg, yy⟩ := rel1.ex
    refine lc_it w (fun i H' => ∃ μ' s' ys, Mk1 B μ1 s1 H1 D μ' s' H' ys ∧ ys.length ≤ i ∧ Fin T Wx B μ1 s1 H1 σ Q (endL ys (compL h tt f (wipeE ρ (own.map (·.2))) (ds.drop i) s'))) ⟨μ1, s1, [], Mk1.start r1 hD, Nat.le_refl _, q1⟩ (fun i H' hi z => ?_) (fun i x H' H'' hi z y => ?_) (fun H' z => ?_)
    · obtain ⟨μ', s', ys, m, _, _⟩ := z
      exact gg H' _ (m.kp hD) m.sr.bt'
    · obtain ⟨μ', s', ys, m, hys, fq⟩ := z
      obtain ⟨sm, d, ed, fd⟩ := yy i H' _ x H'' (m.kp hD) m.sr.bt' hi y
      have ec : ds.drop i = d :: ds.drop (i + 1) := by
        obtain ⟨hl, rfl⟩ := List.getElem?_eq_some_iff.mp ed
        exact List.drop_eq_getElem_cons hl
      rw [ec] at fq
      unfold compL at fq
      have m2 : Mk1 B μ1 s1 H1 D μ' s' H'' ys := m.step (Stp.same sm) (m.sr.same sm)
      have er : ER (And1 B D) μ' s' H'' (wipe σ (own.map (·.2))) (wipeE ρ (own.map (·.2))) := (e1.kpB m2.st (m2.kp hD)).wipe _
      cases z1 : h (.d d) (wipeE ρ (own.map (·.2))) with
      | none => simp only [z1] at fq; exact fq.elim
      | some ρ1 =>
        simp only [z1] at fq
        refine ⟨_, μ', s', _, .d d, ρ1, m2.sr, er, fd, z1, fun σ2 e2 l2 a2 => ⟨?_, ?_⟩⟩
        · rw [wipe_eq l2 a2 hsub, wipe_wipe]
        · rw [endL_bind] at fq
          refine tD_bind0 m2.sr e2 fq fun b s3 v3 μ3 H3 st3 r3 e3 rel3 q3 => ?_
          cases rel3
          have m3 := m2.step st3 r3
          rw [endL_ite] at q3
          cases b with
          | false =>
            rw [if_neg Bool.false_ne_true] at q3 ⊢
            exact ⟨μ3, s3, ys, m3, by omega, q3⟩
          | true =>
            rw [if_pos rfl] at q3 ⊢
            rw [endL_bind] at q3
            refine tD_bind0 r3 e3 q3 fun w4 s4 v4 μ4 H4 st4 r4 e4 rel4 q4 => ?_
            have m4 := m3.step st4 r4
            cases w4 with
            | c n => exact q4.elim
            | sc n => exact q4.elim
            | fd n => exact q4.elim
            | rg n m => exact q4.elim
            | d y =>
              rw [endL_cons] at q4
              obtain ⟨acc, ea, hacc, m5⟩ := m4.push hD rel4 (by omega)
              exact ⟨acc, ea, hacc, μ4, s4, ys ++ [y], m5, by simp; omega, q4⟩
    · obtain ⟨μ', s', ys, m, hys, fq⟩ := z
      rw [List.drop_length] at fq
      have fq : Fin (a := W) T Wx B μ1 s1 H1 σ Q (.ok (.d (.list (ys ++ []))) s') := fq
      rw [List.append_nil] at fq
      exact m.done r1 hD fq
  · exact q1.elim
theorem PTs_imp {X : Cx} {e : List Expr} {t t' : TT} (h : PTs X e t) (k : ∀ σ H Q, t' σ H Q → t σ H Q) : PTs X e t' := ⟨fun pins s σ H Q I z => h.run pins s σ H Q I (k _ _ _ z)⟩
theorem dts_nil : PTs X [] (tD T Wx fYes) := PTs_imp pts_nil fun σ H Q ⟨B, μ, s, ρ, r, e, q⟩ => Fin.here (a := Bool) q r rfl
theorem dts_one {e : Expr} (k : DT X T Wx e tt) : PTs X [e] (tD T Wx tt) := pts_one k
theorem de_lc (hc : X.calm = true) (hN : X.N.Nodup) (hi : DI X T Wx tg iter fi) (ok : BlkOk X.N X.env.scope scope own) (hsub : ∀ i ∈ is, i ∈ own.map (·.2))
    (hg : ∀ (s : Shared) (H : Hp) (C : Addr) (cl : List (Str × Addr)) (fp : List Addr), DG (X.blk s H scope (compEnvC scope cl C X.env) fp) tg is h) (ht : ∀ (s : Shared) (H : Hp) (C : Addr) (cl : List (Str × Addr)) (fp : List Addr), PTs (X.blk s H scope (compEnvC scope cl C X.env) fp) ifs (tD T Wx0 tt))
    (he : ∀ (s : Shared) (H : Hp) (C : Addr) (cl : List (Str × Addr)) (fp : List Addr), DE (X.blk s H scope (compEnvC scope cl C X.env) fp) T Wx0 elt f) (hs : ∀ x, foldedSetIterable iter X.env x = pure x := by intro _; rfl) :
    DE X T Wx (.ListComp elt [⟨tg, iter, ifs, 0⟩] scope pos) (fLc (own.map (·.2)) fi h tt f) := PE_imp (pe_lc hc hN hi ok hg ht he hs) fun σ H Q => tLc_use hsub
theorem ds_setLc {i : Nat} {y : Str} {py spos : Pos} (hc : X.calm = true) (hN' : X.N.Nodup) (hy : X.N[i]? = some y) (hyl : X.env.scope.names.lookup y = some .local)
    (hsw : swapsWith (.ListComp elt [⟨tg, iter, ifs, 0⟩] scope pos) (some (.Name y py)) spos.line X.env = pure true) (hi : DI X T Wx tg iter fi) (ok : BlkOk X.N X.env.scope scope own) (hsub : ∀ i ∈ is, i ∈ own.map (·.2))
    (hg : ∀ (s : Shared) (H : Hp) (C : Addr) (cl : List (Str × Addr)) (fp : List Addr), DG (X.blk s H scope (compEnvC scope cl C X.env) fp) tg is h) (ht : ∀ (s : Shared) (H : Hp) (C : Addr) (cl : List (Str × Addr)) (fp : List Addr), PTs (X.blk s H scope (compEnvC scope cl C X.env) fp) ifs (tD T Wx0 tt))
    (he : ∀ (s : Shared) (H : Hp) (C : Addr) (cl : List (Str × Addr)) (fp : List Addr), DE (X.blk s H scope (compEnvC scope cl C X.env) fp) T Wx0 elt f) (hs : ∀ x, foldedSetIterable iter X.env x = pure x := by intro _; rfl) :
    DS X T Wx (.Assign [.Name y py] (.ListComp elt [⟨tg, iter, ifs, 0⟩] scope pos) spos) (gAsg (hN i) (fLc (own.map (·.2)) fi h tt f)) := PS_imp (ps_setLc hc hN' hy hyl hsw hi ok hg ht he hs) fun D σ H q => by
  have hx : ∀ (t : TE), (∀ σ H Q, tD T Wx (fLc (own.map (·.2)) fi h tt f) σ H Q → t σ H Q) → tAsg t (gName i) D σ H := fun t k => by
    obtain ⟨B, μ, s, ρ, r, e, q⟩ := q
    exact k σ H _ (tD_bindT r e q fun w s1 v μ1 H1 st1 r1 e1 rel1 q1 => q1 _ μ1 H1 Stp.refl r1 (e1.set rel1 i))
  exact hx _ fun σ H Q z => tLc_use hsub z
end
end
end DL
namespace DL
open PySem PySem.Spec PyProof.Rows L2
section
variable [KFrag]

/-! ### defs -/
def startE (n : Nat) (ws : List W) : En := ws.map some ++ List.replicate (n - ws.length) none
/-- a def's value: m parameters, n slots -/
def fnR (m n : Nat) (g : En → CS → RT) (ws : List W) (s : CS) : R W := if ws.length = m then (match g (startE n ws) s with
  | .nx _ s => .ok (.d .none) s
  | .rt w s => .ok w s
  | .exc e _ s => .exc e s
  | _ => .bad) else .bad
def noX (f : List W → CS → R W) (ws : List W) (s : CS) : R W := match f ws s with
  | .ok w s => .ok w s
  | _ => .bad
def spD (T : TX) (m : Nat) (f : List W → CS → R W) : Sp := fun vs H Q E => vs.length = m ∧ ∃ B μ s ws σ, SR B μ s H ∧ RWs B μ s H vs ws ∧ Fin T (fun c d _ H' => E c d H') B μ s H σ Q (f ws s)
section
variable {B : Addr → Prop} {μ : List Addr} {s : CS} {H : Hp}
theorem RWs.len : ∀ {vs : List V} {ws : List W}, RWs B μ s H vs ws → vs.length = ws.length
  | _, _, .nil => rfl
  | _, _, .cons _ t => by rw [List.length_cons, List.length_cons, RWs.len t]
theorem RWs.get : ∀ {vs : List V} {ws : List W} {i : Nat} {w : W}, RWs B μ s H vs ws → ws[i]? = some w → ∃ v, vs[i]? = some v ∧ RW B μ s H v w
  | _, _, _, _, .nil, e => by simp at e
  | _, _, 0, _, .cons h _, e => by simp at e; subst e; exact ⟨_, rfl, h⟩
  | _, _, i + 1, w, .cons _ t, e => by
    obtain ⟨y, h1, h2⟩ := RWs.get (i := i) (w := w) t (by simpa using e)
    exact ⟨y, by simpa using h1, h2⟩
theorem ER.start {N : List Str} {vs : List V} {ws : List W} (r : RWs B μ s H vs ws) : ER B μ s H (start N vs) (startE N.length ws) := by
  unfold L2.start startE
  refine ⟨by rw [List.length_append, List.length_append, List.length_map, List.length_map, List.length_replicate, List.length_replicate, r.len], fun i w e => ?_⟩
  by_cases hi : i < ws.length
  · rw [List.getElem?_append_left (by rw [List.length_map]; exact hi), List.getElem?_map] at e
    cases z : ws[i]? with
    | none => rw [z] at e; cases e
    | some w' =>
      rw [z] at e
      cases e
      obtain ⟨v, h1, h2⟩ := r.get z
      refine ⟨v, ?_, h2⟩
      rw [List.getElem?_append_left (by rw [List.length_map, r.len]; exact hi), List.getElem?_map, h1]
      rfl
  · rw [List.getElem?_append_right (by rw [List.length_map]; omega)] at e
    rw [List.getElem?_replicate] at e
    split at e <;> cases e
end
section
variable {P : Program} {w : World} {K : PySem.W.Frag} {mg : Str → Option Value} {base : Heap} {x qual : Str} {st : Stmt} {f : Addr} {fd : FuncData} {N ps : List Str} {k : Nat} {T : TX} {g : En → CS → RT}
theorem spD_len {T : TX} {m : Nat} {f : List W → CS → R W} : ∀ vs H Q E, spD T m f vs H Q E → vs.length = m := fun _ _ _ _ h => h.1
theorem fn_run {T : TX} {Wx : WXc} {B : Addr → Prop} {μ : List Addr} {s : CS} {H : Hp} {σ : L2.St} {vs : List V} {ws : List W} {m : Nat} {Q : VK} {E : XK} (hW : ∀ c d σ H, E c d H → Wx c d σ H) (r : SR B μ s H) (rw_ : RWs B μ s H vs ws)
    (q : Fin T (fun c d _ H' => E c d H') B μ s H σ Q (fnR m N.length g ws s)) : tT T Wx g { nx := fun _ H' => Q .non H', rt := Q } (start N vs) H := by
  refine ⟨B, μ, s, _, r, ER.start rw_, ?_⟩
  unfold fnR at q
  split at q
  · cases z : g (startE N.length ws) s with
    | nx ρ s1 => simp only [z] at q; exact fun σ' μ' H' st sr _ => q .non μ' H' st sr Fz.non
    | rt w s1 => simp only [z] at q; exact q
    | exc e ρ s1 => simp only [z] at q; exact fun σ' μ' H' c d st sr _ ex => hW _ _ _ _ (q μ' H' c d st sr ex)
    | bk ρ s1 => simp only [z] at q; exact q.elim
    | ct ρ s1 => simp only [z] at q; exact q.elim
    | bad => simp only [z] at q; exact q.elim
  · exact q.elim
theorem noX_fin {T : TX} {Wx Wy : WXc} {B : Addr → Prop} {μ : List Addr} {s : CS} {H : Hp} {σ σ' : L2.St} {Q : VK} {h : List W → CS → R W} {ws : List W} {s' : CS} (q : Fin T Wx B μ s H σ Q (noX h ws s')) : Fin T Wy B μ s H σ' Q (noX h ws s') := by
  unfold noX at q ⊢
  cases z : h ws s' with
  | ok w s1 => simp only [z] at q ⊢; exact q
  | exc e s1 => simp only [z] at q ⊢; exact q.elim
  | bad => simp only [z] at q ⊢; exact q.elim
theorem noX_un {T : TX} {Wx Wy : WXc} {B : Addr → Prop} {μ : List Addr} {s : CS} {H : Hp} {σ σ' : L2.St} {Q : VK} {h : List W → CS → R W} {ws : List W} {s' : CS} (q : Fin T Wx B μ s H σ Q (noX h ws s')) : Fin T Wy B μ s H σ' Q (h ws s') := by
  unfold noX at q
  cases z : h ws s' with
  | ok w s1 => simp only [z] at q ⊢; exact q
  | exc e s1 => simp only [z] at q; exact q.elim
  | bad => simp only [z] at q; exact q.elim
/-- a def that lets nothing out -/
theorem fn_ok {m n : Nat} (F : Fun K x qual st f fd) (S : FnScope N ps (defScope st)) (hm : ps.length = m) (hn : N.length = n)
    (hb : ∀ (cdv : Value) (A : Around) (outer : List Env) (s : Shared) (H : Hp) (E : XK), Room k (A.deeper (envOfC qual (defScope st) s.heap.objs.size f cdv)) → DSs (cxOf CX0 P w K mg base N qual (defScope st) f cdv A outer s H E).nox T Wx0 (defBody st) g) :
    FnOk P w K mg base CX0 (k + 1) f fd ps (spD T m (noX (fnR m n g))) := by
  subst hm
  subst hn
  exact F.ok S spD_len fun cdv A outer s H vs Q E hr h => by
    obtain ⟨_, B, μ, t, ws, σ, r, rw_, q⟩ := h
    exact ⟨_, hb cdv A outer s H E hr, fn_run (Wx := Wx0) (m := ps.length) (E := fun _ _ _ => False) (fun _ _ _ _ z => z) r rw_ (noX_un (Wy := Wx0) (σ' := σ) q)⟩
/-- a def that may raise -/
theorem fn_okX {m n : Nat} (F : Fun K x qual st f fd) (S : FnScope N ps (defScope st)) (hm : ps.length = m) (hn : N.length = n)
    (hb : ∀ (cdv : Value) (A : Around) (outer : List Env) (s : Shared) (H : Hp) (E : XK), Room k (A.deeper (envOfC qual (defScope st) s.heap.objs.size f cdv)) → DSs (cxOf (L2.CX P w) P w K mg base N qual (defScope st) f cdv A outer s H E) T (fun c d _ H' => E c d H') (defBody st) g) :
    FnOk P w K mg base (L2.CX P w) (k + 1) f fd ps (spD T m (fnR m n g)) := by
  subst hm
  subst hn
  exact F.okX S spD_len fun cdv A outer s H vs Q E hr h => by
    obtain ⟨_, B, μ, t, ws, σ, r, rw_, q⟩ := h
    exact ⟨_, hb cdv A outer s H E hr, fn_run (Wx := fun c d _ H' => E c d H') (E := E) (fun _ _ _ _ z => z) r rw_ q⟩
end

/-! ### calls of defs -/
def fCall (m : Nat) (h : List W → CS → R W) (fs : En → CS → R (List W)) (ρ : En) (s : CS) : R W := (fs ρ s).bind fun ws s => if ws.length = m then noX h ws s else .bad
/-- a call with data alone: the callee's cells are its own -/
def pureR (h : List W → CS → R W) (ws : List W) (s : CS) : R W := match h ws [] with
  | .ok (.d x) _ => .ok (.d x) s
  | _ => .bad
def fCallP (m : Nat) (h : List W → CS → R W) (fs : En → CS → R (List W)) (ρ : En) (s : CS) : R W := (fs ρ s).bind fun ws s => if ws.length = m then (match allD ws with
  | some _ => pureR h ws s
  | none => .bad) else .bad
section
variable {X : Cx} [HK X] {T : TX} {Wx : WXc} {f : Addr} {fd : FuncData} {ps : List Str} {k m : Nat} {h : List W → CS → R W} {x : Str} {p pos : Pos} {e : Expr} {es : List Expr} {fs : En → CS → R (List W)}
theorem de_call (F : FnOk X.prog X.w X.K X.mg X.base CX0 k f fd ps (spD T m (noX h))) (hr : Room k X.A) (hg : Gl X x) (hm : X.mg x = some (.ref f)) (hk : PySem.W.keepIn X.K (.ref f) = true) (hb : Binds X.K fd ps [])
    (ha : DA X T Wx (e :: es) fs) (hdb : (x == ("__debug__" : Str)) = false := by decide) (he : starEach (e :: es) X.env = (false, eval e X.env) :: starEach es X.env := by rfl) (hpl : (backTo pos (starEach es X.env)).any (·.1) = false := by rfl) :
    DE X T Wx (.Call (.Name x p) (e :: es) [] pos) (fCall m h fs) := PE_imp (pe_call F hr hg hm hk hb .nil pass0 ha hdb he hpl) fun σ H Q ⟨B, μ, s, ρ, r, e, q⟩ =>
  tD_bind r e q fun w s1 v μ1 H1 st1 r1 e1 rel1 q1 => by
    split at q1
    · rename_i hl
      have rel1 : RWs B μ1 s1 H1 v w := rel1
      exact ⟨by rw [List.append_nil, rel1.len]; exact hl, B, μ1, s1, w, σ, r1, by rw [List.append_nil]; exact rel1, noX_fin q1⟩
    · exact q1.elim
theorem allD_rws {B B' : Addr → Prop} {μ μ' : List Addr} {s s' : CS} {H : Hp} (hA : ∀ a, Av B' μ' s' a → Av B μ s a) : ∀ {ws : List W} {vs : List V} {ds : List D}, allD ws = some ds → RWs B μ s H vs ws → RWs B' μ' s' H vs ws
  | _, _, _, e, .nil => .nil
  | w :: ws, _, ds, e, .cons h t => by
    cases w with
    | c n => cases e
    | sc n => cases e
    | fd n => cases e
    | rg n m => cases e
    | d x =>
      unfold allD at e
      cases z : allD ws with
      | none => rw [z] at e; cases e
      | some l => exact .cons (show RW _ _ _ _ _ (.d x) from Fz.mono hA h) (allD_rws hA z t)
theorem lv_nil {a : Addr} : ¬ lv [] [] a := fun ⟨n, _, z, _⟩ => by simp at z
theorem SR.pure {B : Addr → Prop} {μ : List Addr} {s : CS} {H : Hp} (r : SR B μ s H) : SR (Av B μ s) [] [] H :=
  ⟨rfl, fun n m a z => by simp at z, fun n a z => by simp at z, fun n a z => by simp at z, r.bt', fun n a c z => by simp at z⟩
theorem pure_fin {T : TX} {Wx Wy : WXc} {B : Addr → Prop} {μ : List Addr} {s : CS} {H : Hp} {σ σ' : L2.St} {Q : VK} {ws : List W} (r : SR B μ s H) (q : Fin T Wx B μ s H σ Q (pureR h ws s)) : Fin T Wy (Av B μ s) [] [] H σ' Q (h ws []) := by
  unfold pureR at q
  cases z : h ws [] with
  | bad => simp only [z] at q; exact q.elim
  | exc e s1 => simp only [z] at q; exact q.elim
  | ok w s1 =>
    cases w with
    | c n => simp only [z] at q; exact q.elim
    | sc n => simp only [z] at q; exact q.elim
    | fd n => simp only [z] at q; exact q.elim
    | rg n m => simp only [z] at q; exact q.elim
    | d y =>
      simp only [z] at q
      intro v μ' H' st sr rel
      have rel : Fz H' (Av (Av B μ s) μ' s1) v y := rel
      exact Fin.use (a := W) (w := .d y) q (fun a o e => st.keep a o e lv_nil) r (Fz.mono (fun a z => .inl z) rel)
theorem de_callP (F : FnOk X.prog X.w X.K X.mg X.base CX0 k f fd ps (spD T m (noX h))) (hr : Room k X.A) (hg : Gl X x) (hm : X.mg x = some (.ref f)) (hk : PySem.W.keepIn X.K (.ref f) = true) (hb : Binds X.K fd ps [])
    (ha : DA X T Wx (e :: es) fs) (hdb : (x == ("__debug__" : Str)) = false := by decide) (he : starEach (e :: es) X.env = (false, eval e X.env) :: starEach es X.env := by rfl) (hpl : (backTo pos (starEach es X.env)).any (·.1) = false := by rfl) :
    DE X T Wx (.Call (.Name x p) (e :: es) [] pos) (fCallP m (noX h) fs) := PE_imp (pe_call F hr hg hm hk hb .nil pass0 ha hdb he hpl) fun σ H Q ⟨B, μ, s, ρ, r, e, q⟩ =>
  tD_bind r e q fun w s1 v μ1 H1 st1 r1 e1 rel1 q1 => by
    split at q1
    · rename_i hl
      have rel1 : RWs B μ1 s1 H1 v w := rel1
      split at q1
      · rename_i ds hd
        refine ⟨by rw [List.append_nil, rel1.len]; exact hl, Av B μ1 s1, [], [], w, σ, r1.pure, ?_, pure_fin r1 q1⟩
        rw [List.append_nil]
        exact allD_rws (fun a z => z.elim id fun z => absurd z lv_nil) hd rel1
      · exact q1.elim
    · exact q1.elim
end
end
end DL
namespace DL
open PySem PySem.Spec PyProof.Rows L2
section
variable [KFrag]

/-! ### comprehensions with two clauses -/
def consA (k : CS → R (List D)) : List D → CS → R (List D)
  | [], s => k s
  | x :: r, s => consR (.d x) (consA k r) s
def appR (a : R (List D)) (k : CS → R (List D)) : R (List D) := a.bind0 (consA k)
def comp2 (vs1 : List Nat) (h : W → En → Option En) (tt : En → CS → R Bool) (fi1 : En → CS → R (List D)) (h1 : W → En → Option En) (tt1 : En → CS → R Bool) (f : En → CS → R W) (ρ : En) : List D → CS → R (List D)
  | [], s => .ok [] s
  | x :: r, s => match h (.d x) ρ with
    | none => .bad
    | some ρ1 => (tt ρ1 s).bind0 fun b s => if b = true then (fi1 ρ1 s).bind0 fun ys s =>
        if ys.length ≤ 4096 then appR (compL h1 tt1 f (wipeE ρ1 vs1) ys s) (fun s => comp2 vs1 h tt fi1 h1 tt1 f ρ r s) else .bad
      else comp2 vs1 h tt fi1 h1 tt1 f ρ r s
def fLc2 (vs vs1 : List Nat) (fi : En → CS → R (List D)) (h : W → En → Option En) (tt : En → CS → R Bool) (fi1 : En → CS → R (List D)) (h1 : W → En → Option En) (tt1 : En → CS → R Bool) (f : En → CS → R W) (ρ : En) (s : CS) : R W :=
  (fi ρ s).bind fun items s => if items.length ≤ 4096 then endL [] (comp2 vs1 h tt fi1 h1 tt1 f (wipeE ρ vs) items s) else .bad
section
variable {T : TX} {Wx : WXc} {B : Addr → Prop} {μ μ' : List Addr} {s s' : CS} {H H' : Hp} {σ : L2.St} {ρ : En}
theorem RW.updB {D : Addr} {o : HO} {acc : List V} (h : B D) (e : H D = some (.lst acc)) {v : V} {w : W} (r : RW B μ s H v w) : RW B μ s (upd H D o) v w := by
  cases w with
  | d x => exact Fz.kp (kp_upd (.inl h)) r
  | c n => exact r
  | sc ns =>
    obtain ⟨b, eb, r⟩ := r
    rcases r with ⟨u, q, n⟩ | r
    · exact ⟨b, eb, .inl ⟨u, by rw [upd_ne (fun z => by rw [z, e] at q; cases q)]; exact q, n⟩⟩
    · exact ⟨b, eb, .inr r⟩
  | fd ds => exact FD.kp (kp_upd (.inl h)) r
  | rg lo hi => exact FR.kp (kp_upd (.inl h)) r
theorem ER.updB {D : Addr} {o : HO} {acc : List V} (h : B D) (e : H D = some (.lst acc)) (r : ER B μ s H σ ρ) : ER B μ s (upd H D o) σ ρ :=
  ⟨r.len, fun i w z => let ⟨v, e1, e2⟩ := r.at_ i w z; ⟨v, e1, e2.updB h e⟩⟩
theorem appR_bind {a : Type} {r : R a} {k : a → CS → R (List D)} {j : CS → R (List D)} : appR (r.bind0 k) j = r.bind0 fun x s => appR (k x s) j := by
  cases r <;> rfl
theorem appR_ite {b : Bool} {x y : R (List D)} {j : CS → R (List D)} : appR (if b = true then x else y) j = if b = true then appR x j else appR y j := by
  cases b <;> rfl
theorem appR_cons {y : D} {r : CS → R (List D)} {s : CS} {j : CS → R (List D)} : appR (consR (.d y) r s) j = consR (.d y) (fun s => appR (r s) j) s := by
  show ((r s).bind0 fun ys s => R.ok (y :: ys) s).bind0 (consA j) = ((r s).bind0 (consA j)).bind0 fun ys s => R.ok (y :: ys) s
  cases r s <;> rfl
theorem appR_nil {s : CS} {j : CS → R (List D)} : appR (.ok [] s) j = j s := rfl
end
section
variable {X : Cx} [HK X] {T : TX} {Wx : WXc} {elt tg iter tg1 iter1 : Expr} {ifs ifs1 : List Expr} {scope : Scope} {own : List (Str × Nat)} {vs1 : List Nat} {pos : Pos} {fi fi1 : En → CS → R (List D)} {is is1 : List Nat} {h h1 : W → En → Option En} {tt tt1 : En → CS → R Bool} {f : En → CS → R W}
theorem sq4096 {i j n : Nat} (h1 : i < 4096) (h2 : j < 4096) (h3 : n ≤ 4096 * i + j) : n < line := by
  unfold line
  omega
theorem tLc2_use {σ : L2.St} {H : Hp} {Q : VK} (hsub : ∀ i ∈ is, i ∈ own.map (·.2)) (hsub1 : ∀ i ∈ is1, i ∈ vs1) (q : tD T Wx (fLc2 (own.map (·.2)) vs1 fi h tt fi1 h1 tt1 f) σ H Q) :
    tLc2 (tD T Wx fi) (tG is h) (tD T Wx0 tt) (tD T Wx0 fi1) (tG is1 h1) (tD T Wx0 tt1) (tD T Wx0 f) (own.map (·.2)) vs1 σ H Q := by
  obtain ⟨B, μ, s, ρ, r, e, q⟩ := q
  refine tD_bind r e q fun ds s1 J μ1 H1 st1 r1 e1 rel1 q1 D hD => ?_
  split at q1
  · rename_i hlen
    obtain ⟨G, Y, w, gg, yy⟩ := rel1.ex
    refine ⟨fun i m H' => m = ds.length - i ∧ i ≤ ds.length ∧ ∃ μ' s' ys, Mk1 B μ1 s1 H1 D μ' s' H' ys ∧ ys.length ≤ 4096 * i ∧ Fin T Wx B μ1 s1 H1 σ Q (endL ys (comp2 vs1 h tt fi1 h1 tt1 f (wipeE ρ (own.map (·.2))) (ds.drop i) s')),
      ⟨ds.length, by simp, Nat.zero_le _, μ1, s1, [], Mk1.start r1 hD, Nat.zero_le _, q1⟩, ?_⟩
    rintro i m H' ⟨rfl, hi, μ', s', ys, m, hys, fq⟩
    have hG := gg H' _ (m.kp hD) m.sr.bt'
    by_cases hlt : i < ds.length
    · refine .inr ⟨w.goes i H' hlt hG, fun H' => ∃ μ' s' ys, Mk1 B μ1 s1 H1 D μ' s' H' ys ∧ ys.length ≤ 4096 * (i + 1) ∧ Fin T Wx B μ1 s1 H1 σ Q (endL ys (comp2 vs1 h tt fi1 h1 tt1 f (wipeE ρ (own.map (·.2))) (ds.drop (i + 1)) s')),
        fun H' p' => ⟨ds.length - (i + 1), by omega, rfl, hlt, p'⟩, fun x H'' y => ?_⟩
      obtain ⟨sm, d, ed, fd⟩ := yy i H' _ x H'' (m.kp hD) m.sr.bt' hlt (w.yields i H' x H'' hlt hG y)
      have ec : ds.drop i = d :: ds.drop (i + 1) := by
        obtain ⟨hl, rfl⟩ := List.getElem?_eq_some_iff.mp ed
        exact List.drop_eq_getElem_cons hl
      rw [ec] at fq
      unfold comp2 at fq
      have m2 : Mk1 B μ1 s1 H1 D μ' s' H'' ys := m.step (Stp.same sm) (m.sr.same sm)
      have er : ER (And1 B D) μ' s' H'' (wipe σ (own.map (·.2))) (wipeE ρ (own.map (·.2))) := (e1.kpB m2.st (m2.kp hD)).wipe _
      cases z1 : h (.d d) (wipeE ρ (own.map (·.2))) with
      | none => simp only [z1] at fq; exact fq.elim
      | some ρ1 =>
        simp only [z1] at fq
        refine ⟨_, μ', s', _, .d d, ρ1, m2.sr, er, fd, z1, fun σ2 e2 l2 a2 => ⟨?_, ?_⟩⟩
        · rw [wipe_eq l2 a2 hsub, wipe_wipe]
        · rw [endL_bind] at fq
          refine tD_bind0 m2.sr e2 fq fun b s3 v3 μ3 H3 st3 r3 e3 rel3 q3 => ?_
          cases rel3
          have m3 := m2.step st3 r3
          rw [endL_ite] at q3
          cases b with
          | false =>
            rw [if_neg Bool.false_ne_true] at q3 ⊢
            exact ⟨μ3, s3, ys, m3, by omega, q3⟩
          | true =>
            rw [if_pos rfl] at q3 ⊢
            rw [endL_bind] at q3
            refine tD_bind0 r3 e3 q3 fun ds1 s4 J1 μ4 H4 st4 r4 e4 rel4 q4 => ?_
            have m4 := m3.step st4 r4
            split at q4
            · rename_i hlen1
              obtain ⟨G1, Y1, w1, gg1, yy1⟩ := rel4.ex
              refine ⟨fun j k H' => k = ds1.length - j ∧ j ≤ ds1.length ∧ ∃ μ' s' ys, Mk1 B μ1 s1 H1 D μ' s' H' ys ∧ ys.length ≤ 4096 * i + j ∧ ER (And1 B D) μ' s' H' σ2 ρ1 ∧ Kp H4 H' (Av (And1 B D) μ4 s4) (Av (And1 B D) μ' s') ∧
                  Fin T Wx B μ1 s1 H1 σ Q (endL ys (appR (compL h1 tt1 f (wipeE ρ1 vs1) (ds1.drop j) s') fun s => comp2 vs1 h tt fi1 h1 tt1 f (wipeE ρ (own.map (·.2))) (ds.drop (i + 1)) s)),
                ⟨ds1.length, by simp, Nat.zero_le _, μ4, s4, ys, m4, by omega, e4, ⟨fun _ _ z _ => z, fun _ _ _ n => n⟩, q4⟩, ?_⟩
              rintro j k H5 ⟨rfl, hj, μ5, s5, zs, m5, hzs, e5, k5, f5⟩
              have hG1 := gg1 H5 _ k5 m5.sr.bt'
              by_cases hlt1 : j < ds1.length
              · refine .inr ⟨w1.goes j H5 hlt1 hG1, fun H' => ∃ μ' s' ys, Mk1 B μ1 s1 H1 D μ' s' H' ys ∧ ys.length ≤ 4096 * i + (j + 1) ∧ ER (And1 B D) μ' s' H' σ2 ρ1 ∧ Kp H4 H' (Av (And1 B D) μ4 s4) (Av (And1 B D) μ' s') ∧
                    Fin T Wx B μ1 s1 H1 σ Q (endL ys (appR (compL h1 tt1 f (wipeE ρ1 vs1) (ds1.drop (j + 1)) s') fun s => comp2 vs1 h tt fi1 h1 tt1 f (wipeE ρ (own.map (·.2))) (ds.drop (i + 1)) s)),
                  fun H' p' => ⟨ds1.length - (j + 1), by omega, rfl, hlt1, p'⟩, fun x1 H6 y1 => ?_⟩
                obtain ⟨sm1, d1, ed1, fd1⟩ := yy1 j H5 _ x1 H6 k5 m5.sr.bt' hlt1 (w1.yields j H5 x1 H6 hlt1 hG1 y1)
                have ec1 : ds1.drop j = d1 :: ds1.drop (j + 1) := by
                  obtain ⟨hl, rfl⟩ := List.getElem?_eq_some_iff.mp ed1
                  exact List.drop_eq_getElem_cons hl
                rw [ec1] at f5
                unfold compL at f5
                have st6 : Stp μ5 s5 H5 μ5 s5 H6 := Stp.same sm1
                have m6 : Mk1 B μ1 s1 H1 D μ5 s5 H6 zs := m5.step st6 (m5.sr.same sm1)
                have e6 := e5.stp st6
                have k6 := k5.trans st6.kp
                cases z2 : h1 (.d d1) (wipeE ρ1 vs1) with
                | none => simp only [z2] at f5; exact f5.elim
                | some ρ2 =>
                  simp only [z2] at f5
                  refine ⟨_, μ5, s5, _, .d d1, ρ2, m6.sr, e6.wipe _, fd1, z2, fun σ3 e7 l3 a3 => ⟨?_, ?_⟩⟩
                  · rw [wipe_eq l3 a3 hsub1, wipe_wipe]
                  · rw [appR_bind, endL_bind] at f5
                    refine tD_bind0 m6.sr e7 f5 fun b s7 v7 μ7 H7 st7 r7 e8 rel7 q7 => ?_
                    cases rel7
                    have m7 := m6.step st7 r7
                    rw [appR_ite, endL_ite] at q7
                    cases b with
                    | false =>
                      rw [if_neg Bool.false_ne_true] at q7 ⊢
                      exact ⟨μ7, s7, zs, m7, by omega, e6.stp st7, k6.trans st7.kp, q7⟩
                    | true =>
                      rw [if_pos rfl] at q7 ⊢
                      rw [appR_bind, endL_bind] at q7
                      refine tD_bind0 r7 e8 q7 fun w8 s8 v8 μ8 H8 st8 r8 e9 rel8 q8 => ?_
                      have m8 := m7.step st8 r8
                      cases w8 with
                      | c n => exact q8.elim
                      | sc n => exact q8.elim
                      | fd n => exact q8.elim
                      | rg n m => exact q8.elim
                      | d y8 =>
                        rw [appR_cons, endL_cons] at q8
                        obtain ⟨acc, ea, hacc, m9⟩ := m8.push hD rel8 (sq4096 (by omega) (by omega) hzs)
                        exact ⟨acc, ea, hacc, μ8, s8, zs ++ [y8], m9, by simp; omega, ((e6.stp st7).stp st8).updB (.inr rfl) ea, ((k6.trans st7.kp).trans st8.kp).trans (kp_upd (.inl (.inr rfl))), q8⟩
              · have ej : j = ds1.length := by omega
                subst ej
                rw [List.drop_length] at f5
                exact .inl ⟨w1.stops H5 hG1, μ5, s5, zs, m5, by omega, f5⟩
            · exact q4.elim
    · have ei : i = ds.length := by omega
      subst ei
      rw [List.drop_length] at fq
      have fq : Fin (a := W) T Wx B μ1 s1 H1 σ Q (.ok (.d (.list (ys ++ []))) s') := fq
      rw [List.append_nil] at fq
      exact .inl ⟨w.stops H' hG, m.done r1 hD fq⟩
  · exact q1.elim
theorem de_lc2 (hc : X.calm = true) (hN : X.N.Nodup) (hi : DI X T Wx tg iter fi) (ok : BlkOk X.N X.env.scope scope own) (hv : ∀ i ∈ vs1, i ∈ own.map (·.2)) (hsub : ∀ i ∈ is, i ∈ own.map (·.2)) (hsub1 : ∀ i ∈ is1, i ∈ vs1)
    (hg : ∀ (s : Shared) (H : Hp) (C : Addr) (cl : List (Str × Addr)) (fp : List Addr), DG (X.blk s H scope (compEnvC scope cl C X.env) fp) tg is h) (ht : ∀ (s : Shared) (H : Hp) (C : Addr) (cl : List (Str × Addr)) (fp : List Addr), PTs (X.blk s H scope (compEnvC scope cl C X.env) fp) ifs (tD T Wx0 tt))
    (hi1 : ∀ (s : Shared) (H : Hp) (C : Addr) (cl : List (Str × Addr)) (fp : List Addr), DI (X.blk s H scope (compEnvC scope cl C X.env) fp) T Wx0 tg1 iter1 fi1)
    (hg1 : ∀ (s : Shared) (H : Hp) (C : Addr) (cl : List (Str × Addr)) (fp : List Addr), DG (X.blk s H scope (compEnvC scope cl C X.env) fp) tg1 is1 h1) (ht1 : ∀ (s : Shared) (H : Hp) (C : Addr) (cl : List (Str × Addr)) (fp : List Addr), PTs (X.blk s H scope (compEnvC scope cl C X.env) fp) ifs1 (tD T Wx0 tt1))
    (he : ∀ (s : Shared) (H : Hp) (C : Addr) (cl : List (Str × Addr)) (fp : List Addr), DE (X.blk s H scope (compEnvC scope cl C X.env) fp) T Wx0 elt f) (hs : ∀ x, foldedSetIterable iter X.env x = pure x := by intro _; rfl) (hs1 : ∀ env x, foldedSetIterable iter1 env x = pure x := by intro _ _; rfl) :
    DE X T Wx (.ListComp elt [⟨tg, iter, ifs, 0⟩, ⟨tg1, iter1, ifs1, 0⟩] scope pos) (fLc2 (own.map (·.2)) vs1 fi h tt fi1 h1 tt1 f) :=
  PE_imp (pe_lc2 hc hN hi ok hv hg ht hi1 hg1 ht1 he hs hs1) fun σ H Q => tLc2_use hsub hsub1
theorem ds_setLc2 {i : Nat} {y : Str} {py spos : Pos} (hc : X.calm = true) (hN' : X.N.Nodup) (hy : X.N[i]? = some y) (hyl : X.env.scope.names.lookup y = some .local)
    (hsw : swapsWith (.ListComp elt [⟨tg, iter, ifs, 0⟩, ⟨tg1, iter1, ifs1, 0⟩] scope pos) (some (.Name y py)) spos.line X.env = pure true) (hi : DI X T Wx tg iter fi) (ok : BlkOk X.N X.env.scope scope own) (hv : ∀ i ∈ vs1, i ∈ own.map (·.2)) (hsub : ∀ i ∈ is, i ∈ own.map (·.2)) (hsub1 : ∀ i ∈ is1, i ∈ vs1)
    (hg : ∀ (s : Shared) (H : Hp) (C : Addr) (cl : List (Str × Addr)) (fp : List Addr), DG (X.blk s H scope (compEnvC scope cl C X.env) fp) tg is h) (ht : ∀ (s : Shared) (H : Hp) (C : Addr) (cl : List (Str × Addr)) (fp : List Addr), PTs (X.blk s H scope (compEnvC scope cl C X.env) fp) ifs (tD T Wx0 tt))
    (hi1 : ∀ (s : Shared) (H : Hp) (C : Addr) (cl : List (Str × Addr)) (fp : List Addr), DI (X.blk s H scope (compEnvC scope cl C X.env) fp) T Wx0 tg1 iter1 fi1)
    (hg1 : ∀ (s : Shared) (H : Hp) (C : Addr) (cl : List (Str × Addr)) (fp : List Addr), DG (X.blk s H scope (compEnvC scope cl C X.env) fp) tg1 is1 h1) (ht1 : ∀ (s : Shared) (H : Hp) (C : Addr) (cl : List (Str × Addr)) (fp : List Addr), PTs (X.blk s H scope (compEnvC scope cl C X.env) fp) ifs1 (tD T Wx0 tt1))
    (he : ∀ (s : Shared) (H : Hp) (C : Addr) (cl : List (Str × Addr)) (fp : List Addr), DE (X.blk s H scope (compEnvC scope cl C X.env) fp) T Wx0 elt f) (hs : ∀ x, foldedSetIterable iter X.env x = pure x := by intro _; rfl) (hs1 : ∀ env x, foldedSetIterable iter1 env x = pure x := by intro _ _; rfl) :
    DS X T Wx (.Assign [.Name y py] (.ListComp elt [⟨tg, iter, ifs, 0⟩, ⟨tg1, iter1, ifs1, 0⟩] scope pos) spos) (gAsg (hN i) (fLc2 (own.map (·.2)) vs1 fi h tt fi1 h1 tt1 f)) := PS_imp (ps_setLc2 hc hN' hy hyl hsw hi ok hv hg ht hi1 hg1 ht1 he hs hs1) fun D σ H q => by
  have hx : ∀ (t : TE), (∀ σ H Q, tD T Wx (fLc2 (own.map (·.2)) vs1 fi h tt fi1 h1 tt1 f) σ H Q → t σ H Q) → tAsg t (gName i) D σ H := fun t k => by
    obtain ⟨B, μ, s, ρ, r, e, q⟩ := q
    exact k σ H _ (tD_bindT r e q fun w s1 v μ1 H1 st1 r1 e1 rel1 q1 => q1 _ μ1 H1 Stp.refl r1 (e1.set rel1 i))
  exact hx _ fun σ H Q z => tLc2_use hsub hsub1 z
end
end
end DL
namespace DL
open PySem PySem.Spec PyProof.Rows L2
section
variable [KFrag]

/-! ### cells: lists that are changed -/
section
variable {B : Addr → Prop} {μ : List Addr} {s : CS} {H : Hp} {σ : L2.St} {ρ : En}
theorem get_last {α : Type} {l : List α} {a b : α} {n : Nat} (h : (l ++ [a])[n]? = some b) : l[n]? = some b ∨ (n = l.length ∧ b = a) := by
  by_cases hn : n < l.length
  · rw [List.getElem?_append_left hn] at h
    exact .inl h
  · rw [List.getElem?_append_right (by omega)] at h
    have e : n = l.length := by
      have := (List.getElem?_eq_some_iff.mp h).1
      simp at this
      omega
    subst e
    simp at h
    exact .inr ⟨rfl, h.symm⟩
theorem lv_last {p a : Addr} {c : Cell} (hl : μ.length = s.length) (h : lv (μ ++ [p]) (s ++ [c]) a) : lv μ s a ∨ a = p := by
  obtain ⟨n, d, e1, e2, e3⟩ := h
  rcases get_last e1 with z | ⟨_, z⟩
  · refine .inl ⟨n, d, z, ?_, e3⟩
    rcases get_last e2 with y | ⟨y, _⟩
    · exact y
    · have := (List.getElem?_eq_some_iff.mp z).1
      omega
  · exact .inr z
/-- a new cell at p -/
theorem kp_newC {p : Addr} {o : HO} {c : Cell} (hl : μ.length = s.length) (hp : H p = none) : Kp H (upd H p o) (Av B μ s) (Av B (μ ++ [p]) (s ++ [c])) :=
  ⟨fun a x e _ => same_upd hp a x e, fun a x e n z => z.elim (fun z => n (.inl z)) fun z => (lv_last hl z).elim (fun z => n (.inr z)) fun z => by rw [z, hp] at e; cases e⟩
theorem newCc {p : Addr} {o : HO} {c : Cell} (r : SR B μ s H) (hp : H p = none) (f : ∀ H' A', Kp H H' (Av B μ s) A' → H' p = some o → CellOk (μ ++ [p]) H' A' p c) :
    SR B (μ ++ [p]) (s ++ [c]) (upd H p o) ∧ Stp μ s H (μ ++ [p]) (s ++ [c]) (upd H p o) := by
  have hpm : ∀ (n : Nat), μ[n]? ≠ some p := fun n z => r.th n p z hp
  refine ⟨⟨by simp [r.len], fun n m a e1 e2 => ?_, fun n a e => ?_, fun n a e z => ?_, fun a z => ?_, fun n a c e1 e2 => ?_⟩, ⟨⟨[p], rfl⟩, fun a o e _ => same_upd hp a o e, fun a e => ?_, fun a z => (lv_last r.len z).elim .inl fun z => .inr (by rw [z]; exact hp)⟩⟩
  · rcases get_last e1 with z1 | ⟨z1, y1⟩
    · rcases get_last e2 with z2 | ⟨z2, y2⟩
      · exact r.inj n m a z1 z2
      · exact absurd (by rw [← y2]; exact z1) (hpm n)
    · rcases get_last e2 with z2 | ⟨z2, y2⟩
      · exact absurd (by rw [← y1]; exact z2) (hpm m)
      · rw [z1, z2]
  · rcases get_last e with z | ⟨_, z⟩
    · cases y : H a with
      | none => exact absurd y (r.th n a z)
      | some o => rw [same_upd hp a o y]; simp
    · rw [z, upd_same]; simp
  · rcases get_last e with y | ⟨_, y⟩
    · exact r.nb n a y z
    · exact r.bt a z (by rw [y]; exact hp)
  · cases y : H a with
    | none => exact absurd y (r.bt a z)
    | some o => rw [same_upd hp a o y]; simp
  · rcases get_last e1 with z | ⟨zn, z⟩
    · rcases get_last e2 with y | ⟨y, _⟩
      · exact ((r.cell n a _ z y).kp (kp_newC r.len hp) fun o e => same_upd hp _ _ e).mu fun m b e => by rw [List.getElem?_append_left (List.getElem?_eq_some_iff.mp e).1]; exact e
      · have := (List.getElem?_eq_some_iff.mp z).1
        have := r.len
        omega
    · rcases get_last e2 with y | ⟨_, y⟩
      · have := (List.getElem?_eq_some_iff.mp y).1
        have := r.len
        omega
      · subst z
        subst y
        exact f _ _ (kp_newC r.len hp) upd_same
  · cases y : H a with
    | none => exact absurd y e
    | some o => rw [same_upd hp a o y]; simp
theorem newC {p : Addr} {xs : List V} {ds : List D} (r : SR B μ s H) (hp : H p = none) (f : Fzs H (Av B μ s) xs ds) :
    SR B (μ ++ [p]) (s ++ [.lst ds]) (upd H p (.lst xs)) ∧ Stp μ s H (μ ++ [p]) (s ++ [.lst ds]) (upd H p (.lst xs)) := newCc r hp fun _ _ k e => ⟨xs, e, f.kp k⟩
/-- a cell's list is changed -/
theorem lv_put {n : Nat} {c : Cell} {a : Addr} (hd : ∃ c0, s[n]? = some c0 ∧ c0 ≠ .dead) (h : lv μ (s.set n c) a) : lv μ s a := by
  obtain ⟨m, d, e1, e2, e3⟩ := h
  by_cases hm : n = m
  · subst hm
    obtain ⟨c0, z1, z2⟩ := hd
    exact ⟨n, c0, e1, z1, z2⟩
  · rw [List.getElem?_set_ne hm] at e2
    exact ⟨m, d, e1, e2, e3⟩
theorem putCc {n : Nat} {a : Addr} {o : HO} {c0 c1 : Cell} (r : SR B μ s H) (ha : μ[n]? = some a) (hs : s[n]? = some c0) (h0 : c0 ≠ .dead) (f : ∀ H' A', Kp H H' (Av B μ s) A' → H' a = some o → CellOk μ H' A' a c1) :
    SR B μ (s.set n c1) (upd H a o) ∧ Stp μ s H μ (s.set n c1) (upd H a o) := by
  have hlive : ∃ c0, s[n]? = some c0 ∧ c0 ≠ Cell.dead := ⟨_, hs, h0⟩
  have la : lv μ s a := ⟨n, _, ha, hs, h0⟩
  have hk : Kp H (upd H a o) (Av B μ s) (Av B μ (s.set n c1)) :=
    ⟨fun b u e nb => by rw [upd_ne (fun z => nb (.inr (by rw [z]; exact la)))]; exact e, fun b u e nb z => z.elim (fun z => nb (.inl z)) fun z => nb (.inr (lv_put hlive z))⟩
  have hth : ∀ b, H b ≠ none → upd H a o b ≠ none := fun b e => by
    by_cases hb : b = a
    · rw [hb, upd_same]; simp
    · rw [upd_ne hb]; exact e
  refine ⟨⟨by rw [List.length_set]; exact r.len, r.inj, fun m b e => hth b (r.th m b e), r.nb, fun b z => hth b (r.bt b z), fun m b c e1 e2 => ?_⟩, ⟨⟨[], by simp⟩, fun b u e nb => by rw [upd_ne (fun z => nb (by rw [z]; exact la))]; exact e, hth, fun b z => .inl (lv_put hlive z)⟩⟩
  by_cases hm : n = m
  · subst hm
    rw [ha] at e1
    cases e1
    rw [List.getElem?_set_self (List.getElem?_eq_some_iff.mp hs).1] at e2
    cases e2
    exact f _ _ hk upd_same
  · rw [List.getElem?_set_ne hm] at e2
    refine (r.cell m b c e1 e2).kp hk fun u e => ?_
    rw [upd_ne (fun z => hm (r.inj n m a ha (by rw [← z]; exact e1)))]
    exact e
theorem putC {n : Nat} {a : Addr} {xs : List V} {ds es : List D} (r : SR B μ s H) (ha : μ[n]? = some a) (hs : s[n]? = some (.lst es)) (f : Fzs H (Av B μ s) xs ds) :
    SR B μ (s.set n (.lst ds)) (upd H a (.lst xs)) ∧ Stp μ s H μ (s.set n (.lst ds)) (upd H a (.lst xs)) := putCc r ha hs (by simp) fun _ _ k e => ⟨xs, e, f.kp k⟩
/-- a cell is given up: its list is data from now on -/
theorem frzC {n : Nat} {a : Addr} {ds : List D} (r : SR B μ s H) (ha : μ[n]? = some a) (hs : s[n]? = some (.lst ds)) :
    SR B μ (s.set n .dead) H ∧ Stp μ s H μ (s.set n .dead) H ∧ Fz H (Av B μ (s.set n .dead)) (.ref a) (.list ds) := by
  have hlive : ∃ c0, s[n]? = some c0 ∧ c0 ≠ Cell.dead := ⟨_, hs, by simp⟩
  have hA : ∀ b, Av B μ (s.set n .dead) b → Av B μ s b := fun b z => z.elim .inl fun z => .inr (lv_put hlive z)
  obtain ⟨xs, e, f⟩ := r.cell n a _ ha hs
  refine ⟨⟨by rw [List.length_set]; exact r.len, r.inj, r.th, r.nb, r.bt, fun m b c e1 e2 => ?_⟩, ⟨⟨[], by simp⟩, fun b o e _ => e, fun b e => e, fun b z => .inl (lv_put hlive z)⟩, .lst ⟨e, fun z => ?_⟩ (f.mono hA)⟩
  · by_cases hm : n = m
    · subst hm
      rw [List.getElem?_set_self (List.getElem?_eq_some_iff.mp hs).1] at e2
      cases e2
      trivial
    · rw [List.getElem?_set_ne hm] at e2
      exact (r.cell m b c e1 e2).kp ⟨fun _ _ e _ => e, fun b _ _ n z => n (hA b z)⟩ fun _ e => e
  · rcases z with z | ⟨m, c, e1, e2, e3⟩
    · exact r.nb n a ha z
    · have hm : n = m := r.inj n m a ha e1
      subst hm
      rw [List.getElem?_set_self (List.getElem?_eq_some_iff.mp hs).1] at e2
      cases e2
      exact e3 rfl
end
/-- [..] that will be changed -/
def fNew (fs : En → CS → R (List W)) (ρ : En) (s : CS) : R W := (fs ρ s).bind fun ws s => match allD ws with
  | some ds => if ds.length ≤ line then .ok (.c s.length) (s ++ [.lst ds]) else .bad
  | none => .bad
/-- the name of a cell, read as data: from now on it is not changed -/
def fFrz (i : Nat) (ρ : En) (s : CS) : R W := match ρ[i]? with
  | some (some (.c n)) => match s[n]? with
    | some (.lst ds) => .ok (.d (.list ds)) (s.set n .dead)
    | _ => .bad
  | some (some w) => .ok w s
  | _ => .bad
/-- an item of a cell -/
def ixC (w u : W) (s : CS) : R W := match w, u with
  | .c n, .d (.int i) => match s[n]? with
    | some (.lst ds) => match atI ds i with
      | some z => .ok (.d z) s
      | none => .bad
    | _ => .bad
  | _, _ => .bad
def fIxC (f g : En → CS → R W) (ρ : En) (s : CS) : R W := (f ρ s).bind fun w s => (g ρ s).bind fun u s => ixC w u s
def gPutC (fv f g : En → CS → R W) (ρ : En) (s : CS) : RT := (fv ρ s).toT ρ fun v s => (f ρ s).toT ρ fun w s => (g ρ s).toT ρ fun u s => match v, w, u with
  | .d x, .c n, .d (.int i) => match s[n]? with
    | some (.lst ds) => match ixN ds.length i with
      | some j => .nx ρ (s.set n (.lst (ds.set j x)))
      | none => .bad
    | _ => .bad
  | _, _, _ => .bad
def appC (n : Nat) (u : W) (s : CS) (ρ : En) : RT := match u with
  | .d x => match s[n]? with
    | some (.lst ds) => if ds.length < line then .nx ρ (s.set n (.lst (ds ++ [x]))) else .bad
    | _ => .bad
  | _ => .bad
def extC (n : Nat) (u : W) (s : CS) (ρ : En) : RT := match u with
  | .d (.list es) => match s[n]? with
    | some (.lst ds) => if ds.length + es.length ≤ line then .nx ρ (s.set n (.lst (ds ++ es))) else .bad
    | _ => .bad
  | _ => .bad
def onC (k : Nat → CS → RT) (w : W) (s : CS) : RT := match w with
  | .c n => match s[n]? with
    | some (.lst _) => k n s
    | _ => .bad
  | _ => .bad
def gAppC (f g : En → CS → R W) (ρ : En) (s : CS) : RT := (f ρ s).toT ρ (onC fun n s => (g ρ s).toT ρ fun u s => appC n u s ρ)
def gExtC (f g : En → CS → R W) (ρ : En) (s : CS) : RT := (f ρ s).toT ρ (onC fun n s => (g ρ s).toT ρ fun u s => extC n u s ρ)
section
variable {X : Cx} [HK X] {T : TX} {Wx : WXc} {es : List Expr} {fs : En → CS → R (List W)} {e e2 e3 : Expr} {f g fv : En → CS → R W} {pos p2 apos : Pos}
theorem de_new (h : DA X T Wx es fs) : DE X T Wx (.List es pos) (fNew fs) := PE_imp (pe_lst h) fun σ H Q ⟨B, μ, s, ρ, r, e, q⟩ =>
  tD_bind r e q fun w s1 v μ1 H1 st1 r1 e1 rel1 q1 => by
    cases z : allD w with
    | none => simp only [z] at q1; exact q1.elim
    | some ds =>
      simp only [z] at q1
      split at q1
      · rename_i hl
        have fz := allD_fz z rel1
        refine ⟨by rw [fz.len, line_eq]; exact hl, fun p hp => ?_⟩
        obtain ⟨a, b⟩ := newC r1 hp fz
        refine q1 _ _ _ b a ⟨p, rfl, ?_⟩
        rw [← r1.len]
        simp
      · exact q1.elim
theorem de_frz {i : Nat} (h : PE X e (tVar i)) : DE X T Wx e (fFrz i) := PE_imp h fun σ H Q ⟨B, μ, s, ρ, r, e, q⟩ => by
  unfold fFrz at q
  cases z : ρ[i]? with
  | none => simp only [z] at q; exact q.elim
  | some o =>
    cases o with
    | none => simp only [z] at q; exact q.elim
    | some w =>
      obtain ⟨v, h1, h2⟩ := e.at_ i w z
      cases w with
      | d x => simp only [z] at q; exact ⟨v, h1, Fin.here q r h2⟩
      | sc ns => simp only [z] at q; exact ⟨v, h1, Fin.here q r h2⟩
      | fd ns => simp only [z] at q; exact ⟨v, h1, Fin.here q r h2⟩
      | rg ns ms => simp only [z] at q; exact ⟨v, h1, Fin.here q r h2⟩
      | c n =>
        simp only [z] at q
        obtain ⟨a, ev, ha⟩ := h2
        subst ev
        split at q
        · rename_i ds hs
          obtain ⟨a1, a2, a3⟩ := frzC r ha hs
          exact ⟨_, h1, q _ _ _ a2 a1 a3⟩
        · exact q.elim
theorem ixC_use {B : Addr → Prop} {μ : List Addr} {s : CS} {H : Hp} {σ : L2.St} {Q : VK} {w u : W} {x y : V} (r : SR B μ s H) (hw : RW B μ s H x w) (hu : RW B μ s H y u) (q : Fin T Wx B μ s H σ Q (ixC w u s)) : rIxL X.K x y H Q := by
  unfold ixC at q
  split at q
  · rename_i n i
    split at q
    · rename_i ds hs
      split at q
      · rename_i z hz
        obtain ⟨a, ev, ha⟩ := hw
        subst ev
        have hu : Fz H (Av B μ s) y (.int i) := hu
        cases hu
        obtain ⟨xs, ea, f⟩ := r.cell n a _ ha hs
        obtain ⟨v, h1, h2⟩ := Fzs_atI f hz
        exact ⟨a, xs, i, v, rfl, rfl, .of ea, h1, Fin.here q r h2⟩
      · exact q.elim
    · exact q.elim
  · exact q.elim
theorem de_ixC (ha : DE X T Wx e f) (hb : DE X T Wx e2 g) (hs : PlainIx e2 := by exact fun _ _ => rfl) : DE X T Wx (.Subscript e e2 pos) (fIxC f g) := PE_imp (pe_ix ix_list ha hb hs) fun σ H Q ⟨B, μ, s, ρ, r, e, q⟩ =>
  tD_bind r e q fun w s1 v μ1 H1 st1 r1 e1 rel1 q1 => tD_bind r1 e1 q1 fun u s2 x μ2 H2 st2 r2 e2 rel2 q2 => ixC_use r2 (Rp.stp (a := W) (b := V) st2 rel1) rel2 q2
theorem Fzs.set {H : Hp} {A : Addr → Prop} {v : V} {x : D} (h : Fz H A v x) : ∀ {vs : List V} {ds : List D} (j : Nat), Fzs H A vs ds → Fzs H A (vs.set j v) (ds.set j x)
  | _, _, _, .nil => .nil
  | _, _, 0, .cons _ t => .cons h t
  | _, _, j + 1, .cons a t => .cons a (Fzs.set h j t)
theorem ds_put (hv : DE X T Wx e3 fv) (ha : DE X T Wx e f) (hb : DE X T Wx e2 g) (hs : swapsWithSole [.Subscript e e2 p2] e3 pos.line X.env = pure false := by rfl) (hw : swappedStores [.Subscript e e2 p2] e3 X.env = pure none := by rfl)
    (h1 : (assignEach [.Subscript e e2 p2] X.env).map (·.2) = [assign (.Subscript e e2 p2) X.env] := by rfl)
    (hx : ∀ v, assign (.Subscript e e2 p2) X.env v = (do
      let ov ← holding [v] (eval e X.env)
      let iv ← holding [v, ov] (eval e2 X.env)
      standAt p2
      holding [v, ov, iv] (setItem ov iv v)
      release [v, ov, iv] []) := by intro _; rfl) : DS X T Wx (.Assign [.Subscript e e2 p2] e3 pos) (gPutC fv f g) :=
  PS_imp (ps_asg hv (pg_sub ha hb set_list hx) hs hw h1) fun D σ H ⟨B, μ, s, ρ, r, e, q⟩ =>
  tD_bindT r e q fun v s1 x μ1 H1 st1 r1 e1 rel1 q1 => tD_bindT r1 e1 q1 fun w s2 y μ2 H2 st2 r2 e2 rel2 q2 => tD_bindT r2 e2 q2 fun u s3 z μ3 H3 st3 r3 e3 rel3 q3 => by
    split at q3
    · rename_i x0 n i
      split at q3
      · rename_i ds hs
        split at q3
        · rename_i j hj
          obtain ⟨a, ev, ha⟩ := RW.stp st3 rel2
          subst ev
          have rel3 : Fz H3 (Av B μ3 s3) z (.int i) := rel3
          cases rel3
          obtain ⟨xs, ea, f⟩ := r3.cell n a _ ha hs
          have fx : Fz H3 (Av B μ3 s3) x x0 := RW.stp (st2.trans st3) rel1
          obtain ⟨a1, a2⟩ := putC r3 ha hs (Fzs.set fx j f)
          exact ⟨a, xs, i, j, rfl, rfl, ea, by rw [f.len]; exact hj, q3 σ _ _ a2 a1 (e3.stp a2)⟩
        · exact q3.elim
      · exact q3.elim
    · exact q3.elim
theorem onC_use {B : Addr → Prop} {μ : List Addr} {s : CS} {H : Hp} {D : Ends} {k : Nat → CS → RT} {w : W} {x : V} (r : SR B μ s H) (h : RW B μ s H x w) (q : FinT T Wx B μ s H D (onC k w s)) :
    ∃ n a xs, x = .ref a ∧ μ[n]? = some a ∧ H a = some (.lst xs) ∧ FinT T Wx B μ s H D (k n s) := by
  unfold onC at q
  split at q
  · rename_i n
    split at q
    · rename_i ds hs
      obtain ⟨a, ev, ha⟩ := h
      obtain ⟨xs, ea, f⟩ := r.cell n a _ ha hs
      exact ⟨n, a, xs, ev, ha, ea, q⟩
    · exact q.elim
  · exact q.elim
theorem ds_meth {name : Str} {id : String} {rr : V → List V → Hp → VK → Prop} {kk : Nat → W → CS → En → RT} (slot : Slot "list" name id) (hty : typeOf (.builtin id) = pure (.type "method_descriptor")) (hm : MtR X id rr)
    (hk : ∀ (B : Addr → Prop) (μ : List Addr) (s : CS) (H : Hp) (σ : L2.St) (ρ : En) (D : Ends) (n : Nat) (a : Addr) (w : W) (v : V), SR B μ s H → ER B μ s H σ ρ → μ[n]? = some a → RW B μ s H v w → FinT T Wx B μ s H D (kk n w s ρ) → rr (.ref a) [v] H fun _ H' => D.nx σ H')
    (ha : DE X T Wx e f) (hb : DE X T Wx e2 g) (hbase : attributeBase e name X.env (eval e X.env) = eval e X.env)
    (hfew : ((backTo p2 (starEach [e2] X.env)).all (fun x => !x.1) && (backToKw p2 (keywordEach [] X.env)).all (fun x => x.1.isSome)
      && decide ([e2].length + ([] : List Keyword).length + (if ([] : List Keyword).isEmpty then 0 else 1) < 30)) = true)
    (hline : (apos.endLine == p2.line) = true) (hs : starEach [e2] X.env = (false, eval e2 X.env) :: starEach [] X.env) (hplain : (backTo p2 (starEach [] X.env)).any (·.1) = false)
    (hsw : swapsWith (.Call (.Attribute e name apos) [e2] [] p2) none pos.line X.env = pure false) :
    DS X T Wx (.Expr (.Call (.Attribute e name apos) [e2] [] p2) pos) (fun ρ s => (f ρ s).toT ρ (onC fun n s => (g ρ s).toT ρ fun u s => kk n u s ρ)) :=
  PS_imp (ps_expr (pe_bm PySem.F.plainAttrs_list slot hty hm ha (pa_cons hb pa_nil hs) hbase hfew hline hs hplain) hsw) fun D σ H ⟨B, μ, s, ρ, r, e, q⟩ =>
  tD_bindT r e q fun w s1 x μ1 H1 st1 r1 e1 rel1 q1 => by
    obtain ⟨n, a, xs, ev, ha, ea, q1⟩ := onC_use r1 rel1 q1
    subst ev
    refine ⟨.inl ⟨rfl, xs, .of ea⟩, ?_⟩
    exact tD_bindT r1 e1 q1 fun u s2 y μ2 H2 st2 r2 e2 rel2 q2 => by
      have ha2 : μ2[n]? = some a := by
        obtain ⟨t, rfl⟩ := st2.pre
        rw [List.getElem?_append_left (List.getElem?_eq_some_iff.mp ha).1]
        exact ha
      exact hk B μ2 s2 H2 σ ρ D n a u y r2 e2 ha2 rel2 q2
theorem ds_app (ha : DE X T Wx e f) (hb : DE X T Wx e2 g) (hbase : attributeBase e "append" X.env (eval e X.env) = eval e X.env := by rfl)
    (hfew : ((backTo p2 (starEach [e2] X.env)).all (fun x => !x.1) && (backToKw p2 (keywordEach [] X.env)).all (fun x => x.1.isSome)
      && decide ([e2].length + ([] : List Keyword).length + (if ([] : List Keyword).isEmpty then 0 else 1) < 30)) = true := by rfl)
    (hline : (apos.endLine == p2.line) = true := by rfl) (hs : starEach [e2] X.env = (false, eval e2 X.env) :: starEach [] X.env := by rfl) (hplain : (backTo p2 (starEach [] X.env)).any (·.1) = false := by rfl)
    (hsw : swapsWith (.Call (.Attribute e "append" apos) [e2] [] p2) none pos.line X.env = pure false := by rfl) :
    DS X T Wx (.Expr (.Call (.Attribute e "append" apos) [e2] [] p2) pos) (gAppC f g) :=
  ds_meth (kk := appC) PySem.F.slot_list_append PySem.F.type_list_append mt_append (fun B μ s H σ ρ D n a w v r er ha rel q => by
    unfold appC at q
    split at q
    · rename_i x0
      split at q
      · rename_i ds hs
        split at q
        · rename_i hl
          obtain ⟨xs, ea, f⟩ := r.cell n a _ ha hs
          obtain ⟨a1, a2⟩ := putC r ha hs (f.app (.cons rel .nil))
          exact ⟨a, xs, v, rfl, rfl, ea, by rw [f.len, line_eq]; exact hl, q σ _ _ a2 a1 (er.stp a2)⟩
        · exact q.elim
      · exact q.elim
    · exact q.elim) ha hb hbase hfew hline hs hplain hsw
theorem ds_ext (ha : DE X T Wx e f) (hb : DE X T Wx e2 g) (hbase : attributeBase e "extend" X.env (eval e X.env) = eval e X.env := by rfl)
    (hfew : ((backTo p2 (starEach [e2] X.env)).all (fun x => !x.1) && (backToKw p2 (keywordEach [] X.env)).all (fun x => x.1.isSome)
      && decide ([e2].length + ([] : List Keyword).length + (if ([] : List Keyword).isEmpty then 0 else 1) < 30)) = true := by rfl)
    (hline : (apos.endLine == p2.line) = true := by rfl) (hs : starEach [e2] X.env = (false, eval e2 X.env) :: starEach [] X.env := by rfl) (hplain : (backTo p2 (starEach [] X.env)).any (·.1) = false := by rfl)
    (hsw : swapsWith (.Call (.Attribute e "extend" apos) [e2] [] p2) none pos.line X.env = pure false := by rfl) :
    DS X T Wx (.Expr (.Call (.Attribute e "extend" apos) [e2] [] p2) pos) (gExtC f g) :=
  ds_meth (kk := extC) PySem.F.slot_list_extend PySem.F.type_list_extend mt_extend (fun B μ s H σ ρ D n a w v r er ha rel q => by
    unfold extC at q
    split at q
    · rename_i es
      split at q
      · rename_i ds hs
        split at q
        · rename_i hl
          obtain ⟨xs, ea, f⟩ := r.cell n a _ ha hs
          have rel : Fz H (Av B μ s) v (.list es) := rel
          cases rel with
          | @lst b zs _ h1 f1 =>
            obtain ⟨a1, a2⟩ := putC r ha hs (f.app f1)
            exact ⟨a, b, xs, zs, rfl, rfl, ea, h1.1, by rw [f.len, f1.len, line_eq]; exact hl, q σ _ _ a2 a1 (er.stp a2)⟩
        · exact q.elim
      · exact q.elim
    · exact q.elim) ha hb hbase hfew hline hs hplain hsw
end
end
end DL
namespace DL
open PySem PySem.Spec PyProof.Rows L2
/-! ### tuple * k, k ≤ 1 -/
theorem tuple_mul1 (l : Addr) (items : Array Value) (n : Nat) (dd : Option Addr) (sl : Array (Option Value)) (x : Int) (u : Tok) (c0 : (decide (x < -(2 ^ 63)) || decide (x ≥ 2 ^ 63)) = false) (c1 : (items.isEmpty || x == 1) = true) :
    Meets (Builtin.«tuple.__mul__» ⟨[.ref l, .int x u], []⟩) (fun _ R s => s.heap.get? l = some { cls := .type "tuple", dict := dd, data := .seq items n, slots := sl } ∧ R (.ok (.ret (Value.ref l))) s) :=
  .of_wp fun prog w A R s h => by
    obtain ⟨hp, g, d, tk, os⟩ := s
    obtain ⟨hl, h⟩ := h
    have f1 := AutoSeq1.idx_int
    wp_walk using wpAny_loadPart' hl
    repeat (first
      | (refine wpAny_ite_false (decide_eq_false (by rw [c0]; exact Bool.false_ne_true)) ?_; wp_walk using wpAny_loadPart' hl)
      | (refine wpAny_ite_true (decide_eq_true c1) ?_; wp_walk using wpAny_loadPart' hl))
    exact ⟨_, rfl, h⟩
theorem tuple_mul0 (l : Addr) (items : Array Value) (n : Nat) (dd : Option Addr) (sl : Array (Option Value)) (x : Int) (u : Tok) (c0 : (decide (x < -(2 ^ 63)) || decide (x ≥ 2 ^ 63)) = false) (c1 : (items.isEmpty || x == 1) = false) (c2 : (decide (x ≤ 0) || items.isEmpty) = true) :
    Meets (Builtin.«tuple.__mul__» ⟨[.ref l, .int x u], []⟩) (fun _ R s => s.heap.get? l = some { cls := .type "tuple", dict := dd, data := .seq items n, slots := sl } ∧
      R (.ok (.ret (Value.ref s.heap.objs.size))) { s with heap := s.heap.push { cls := Value.type "tuple", data := Data.seq #[] }, toks := s.toks }) :=
  .of_wp fun prog w A R s h => by
    obtain ⟨hp, g, d, tk, os⟩ := s
    obtain ⟨hl, h⟩ := h
    have f1 := AutoSeq1.idx_int
    wp_walk using wpAny_loadPart' hl
    repeat (first
      | (refine wpAny_ite_false (decide_eq_false (by rw [c0]; exact Bool.false_ne_true)) ?_; wp_walk using wpAny_loadPart' hl)
      | (refine wpAny_ite_false (decide_eq_false (by rw [c1]; exact Bool.false_ne_true)) ?_; wp_walk using wpAny_loadPart' hl)
      | (refine wpAny_ite_true (decide_eq_true c2) ?_; wp_walk using wpAny_loadPart' hl))
    exact ⟨_, rfl, h⟩

section
variable [KFrag] {X : Cx} [HK X]
def rRep01 (K : PySem.W.Frag) : R2 := fun x y H Q => ∃ l k xs, x = .ref l ∧ y = .int k ∧ SqT K H l xs ∧ -(2 ^ 62) ≤ k ∧ k ≤ 1000 ∧ (xs = [] ∨ k ≤ 1) ∧
  ((xs = [] ∨ k = 1) → Q (.ref l) H) ∧ (xs ≠ [] → k ≤ 0 → ∀ p, H p = none → Q (.ref p) (upd H p (.tup [])))
theorem op_rep01 : OpR X (binaryOp .Mult) (rRep01 X.K) := by
  intro pins s σ H x y v u Q I rx ry h
  obtain ⟨l, k, xs, rfl, rfl, hT, h1, h2, h3, q1, q0⟩ := h
  cases rx
  obtain ⟨t, rfl⟩ := ry
  obtain ⟨its, r, ⟨⟨cls, dd, data, sl⟩, ho, hc, n, hd⟩, hs⟩ := I.tuple hT
  simp only at hc hd
  subst hc hd
  have c0 : (decide (k < -(2 ^ 63)) || decide (k ≥ 2 ^ 63)) = false := by
    rw [decide_eq_false (by omega), decide_eq_false (by omega)] <;> rfl
  have he : its.toArray.isEmpty = true ↔ xs = [] := by
    cases r with
    | nil => simp
    | cons _ _ => simp
  by_cases hq : xs = [] ∨ k = 1
  · have c1 : (its.toArray.isEmpty || k == 1) = true := by
      rw [Bool.or_eq_true, beq_iff_eq]
      exact hq.elim (fun z => .inl (he.mpr z)) .inr
    exact wpAny_binaryOp_repeat_ref (T := "tuple") (U := "int") (by decide) ⟨_, ho, rfl⟩ (fun s' => typeIs_int s' k t) noFill_tuple_mul F.fills_int_mul F.slot_int_rmul repeat_tuple F.slot_int_index.lookup
      (call_meets F.slot_int_rmul (typeIs_int s k t) F.entry_int_rmul (F.args_int_rmul_2 _ _) (int_rmul_tuple k t l its.toArray n dd sl)
        ⟨ho, rfl, ⟨_, ho, rfl⟩, call_meets F.slot_tuple_mul ⟨_, ho, rfl⟩ F.entry_tuple_mul (F.args_tuple_mul_2 _ _) (tuple_mul1 l its.toArray n dd sl k t c0 c1) ⟨ho, ⟨.ref l, H, I, rfl, q1 hq⟩⟩⟩)
  · have hne : xs ≠ [] := fun z => hq (.inl z)
    have hk : k ≤ 0 := by
      rcases h3 with z | z
      · exact absurd z hne
      · have : k ≠ 1 := fun z => hq (.inr z)
        omega
    have hi : its.toArray.isEmpty = false := by
      cases z : its.toArray.isEmpty with
      | true => exact absurd (he.mp z) hne
      | false => rfl
    have c1 : (its.toArray.isEmpty || k == 1) = false := by
      rw [hi, Bool.false_or]
      exact beq_eq_false_iff_ne.mpr (by omega)
    have c2 : (decide (k ≤ 0) || its.toArray.isEmpty) = true := by
      rw [decide_eq_true hk] <;> rfl
    refine wpAny_binaryOp_repeat_ref (T := "tuple") (U := "int") (by decide) ⟨_, ho, rfl⟩ (fun s' => typeIs_int s' k t) noFill_tuple_mul F.fills_int_mul F.slot_int_rmul repeat_tuple F.slot_int_index.lookup
      (call_meets F.slot_int_rmul (typeIs_int s k t) F.entry_int_rmul (F.args_int_rmul_2 _ _) (int_rmul_tuple k t l its.toArray n dd sl)
        ⟨ho, rfl, ⟨_, ho, rfl⟩, call_meets F.slot_tuple_mul ⟨_, ho, rfl⟩ F.entry_tuple_mul (F.args_tuple_mul_2 _ _) (tuple_mul0 l its.toArray n dd sl k t c0 c1 c2) ⟨ho, ?_⟩⟩)
    refine ⟨.ref s.heap.objs.size, _, I.laid (t' := s.toks) (o := .tup []) (fun b ob q => Heap.get?_push_of_some _ q) (Nat.le_refl _) ?_, rfl, q0 hne hk _ (I.hok.fresh (Nat.le_refl _))⟩
    exact ⟨Nat.zero_le _, [], .nil, IsTup.new _ _⟩
def mulD : D → D → Option D
  | .int i, .int j => if (-(2 ^ 64) < i ∧ i < 2 ^ 64) ∨ (-(2 ^ 64) < j ∧ j < 2 ^ 64) then some (.int (i * j)) else none
  | .tuple xs, .int k => if -(2 ^ 62) ≤ k ∧ k ≤ 1000 ∧ xs.length ≤ 1000 then some (.tuple (List.replicate k.toNat xs).flatten) else none
  | .list xs, .int k => if -(2 ^ 62) ≤ k ∧ k < 2 ^ 62 ∧ xs.length * k.toNat ≤ line then some (.list (List.replicate k.toNat xs).flatten) else none
  | _, _ => none
theorem Fzs.rep {H : Hp} {A : Addr → Prop} {xs : List V} {ds : List D} (f : Fzs H A xs ds) : ∀ n, Fzs H A (List.replicate n xs).flatten (List.replicate n ds).flatten
  | 0 => .nil
  | n + 1 => by
    rw [List.replicate_succ, List.replicate_succ, List.flatten_cons, List.flatten_cons]
    exact f.app (Fzs.rep f n)
theorem rep_one {α : Type} (l : List α) : (List.replicate 1 l).flatten = l := by simp
theorem rep_nil {α : Type} (n : Nat) : (List.replicate n ([] : List α)).flatten = [] := by
  induction n with
  | zero => rfl
  | succ n ih => rw [List.replicate_succ, List.flatten_cons, ih] <;> rfl
theorem dop_mul : DOp X (binaryOp .Mult) mulD := by
  intro pins s σ H x y v u Q I rx ry h
  obtain ⟨A, dx, dy, z, bt, fx, fy, e, q⟩ := h
  cases fx with
  | int i =>
    cases fy with
    | int j =>
      simp only [mulD] at e
      split at e
      · rename_i hl
        cases e
        exact op_mul pins s σ H _ _ v u Q I rx ry ⟨i, j, rfl, rfl, hl, q _ _ (Same.refl _) (.int _)⟩
      · cases e
    | _ => cases e
  | @tup a xs ds h1 f1 =>
    cases fy with
    | int k =>
      simp only [mulD] at e
      split at e
      · rename_i hl
        cases e
        by_cases hx : xs = []
        · refine op_rep01 pins s σ H _ _ v u Q I rx ry ⟨a, k, xs, rfl, rfl, h1.sq, hl.1, hl.2.1, .inl hx, fun _ => ?_, fun z => absurd hx z⟩
          subst hx
          cases f1
          refine q _ _ (Same.refl _) ?_
          rw [rep_nil]
          exact .tup h1 .nil
        · by_cases hk : k ≤ 1
          · refine op_rep01 pins s σ H _ _ v u Q I rx ry ⟨a, k, xs, rfl, rfl, h1.sq, hl.1, hl.2.1, .inr hk, fun z => ?_, fun _ z p hp => ?_⟩
            · have hk1 : k = 1 := z.elim (fun z => absurd z hx) id
              subst hk1
              refine q _ _ (Same.refl _) ?_
              rw [show (1 : Int).toNat = 1 from rfl, rep_one]
              exact .tup h1 f1
            · have hz : k.toNat = 0 := by omega
              rw [hz] at q
              exact q _ _ (same_upd hp) (Fz.newT bt hp .nil)
          · have l1 := f1.len
            exact op_repT pins s σ H _ _ v u Q I rx ry ⟨a, k, xs, rfl, rfl, h1.sq, hx, by omega, hl.2.1, by omega, fun p hp => q _ _ (same_upd hp) (Fz.newT bt hp (f1.rep _))⟩
      · cases e
    | _ => cases e
  | @lst a xs ds h1 f1 =>
    cases fy with
    | int k =>
      simp only [mulD] at e
      split at e
      · rename_i hl
        cases e
        exact op_rep pins s σ H _ _ v u Q I rx ry ⟨a, k, xs, rfl, rfl, h1.1, by omega, by omega, by rw [f1.len, line_eq]; exact hl.2.2, fun p hp => q _ _ (same_upd hp) (Fz.newL bt hp (f1.rep _))⟩
      · cases e
    | _ => cases e
  | _ => cases fy <;> cases e
def powD : D → D → Option D
  | .int i, .int j => if 0 ≤ j ∧ j ≤ 64 ∧ i.natAbs < 2 ^ 64 then some (.int (i ^ j.toNat)) else none
  | _, _ => none
theorem dop_pow : DOp X (binaryOp .Pow) powD := by
  intro pins s σ H x y v u Q I rx ry h
  obtain ⟨A, dx, dy, z, bt, fx, fy, e, q⟩ := h
  cases fx with
  | int i =>
    cases fy with
    | int j =>
      simp only [powD] at e
      split at e
      · rename_i hl
        cases e
        exact op_pow pins s σ H _ _ v u Q I rx ry ⟨i, j, rfl, rfl, ⟨hl.1, by omega, hl.2.2⟩, q _ _ (Same.refl _) (.int _)⟩
      · cases e
    | _ => cases e
  | _ => cases fy <;> cases e
end
end DL
namespace DL
open PySem PySem.Spec PyProof.Rows L2
section
variable [KFrag]
/-! ### a, b = x, y -/
def gPar2 (i j : Nat) (fs : En → CS → R (List W)) (ρ : En) (s : CS) : RT := (fs ρ s).toT ρ fun ws s => match ws with
  | [a, b] => .nx ((ρ.set i (some a)).set j (some b)) s
  | _ => .bad
def gPar3 (i j l : Nat) (fs : En → CS → R (List W)) (ρ : En) (s : CS) : RT := (fs ρ s).toT ρ fun ws s => match ws with
  | [a, b, c] => .nx (((ρ.set i (some a)).set j (some b)).set l (some c)) s
  | _ => .bad
section
variable {X : Cx} [HK X] {T : TX} {Wx : WXc} {a b c : Expr} {fs : En → CS → R (List W)} {i j l : Nat} {x y z : Str} {px py pz pt pos : Pos} {kt k2 pt2}
theorem ds_par2 (hc : X.calm = true) (hN : X.N.Nodup) (hi : X.N[i]? = some x) (hj : X.N[j]? = some y) (hij : i ≠ j)
    (hx : X.env.scope.names.lookup x = some .local) (hy : X.env.scope.names.lookup y = some .local) (ha : DA X T Wx [a, b] fs)
    (hw : swappedStores [.Tuple [.Name x px, .Name y py] kt pt] (.Tuple [a, b] k2 pt2) X.env = pure (some [x, y]))
    (hs : swapsWithSole [.Tuple [.Name x px, .Name y py] kt pt] (.Tuple [a, b] k2 pt2) pos.line X.env = pure false := by rfl) :
    DS X T Wx (.Assign [.Tuple [.Name x px, .Name y py] kt pt] (.Tuple [a, b] k2 pt2) pos) (gPar2 i j fs) := PS_imp (ps_par hc hN hi hj hij hx hy ha hw hs) fun D σ H ⟨B, μ, s, ρ, r, e, q⟩ =>
  tD_bindT r e q fun w s1 v μ1 H1 st1 r1 e1 rel1 q1 => by
    have rel1 : RWs B μ1 s1 H1 v w := rel1
    cases rel1 with
    | nil => exact q1.elim
    | cons h1 t =>
      cases t with
      | nil => exact q1.elim
      | cons h2 t =>
        cases t with
        | cons _ _ => exact q1.elim
        | nil => exact ⟨_, _, rfl, q1 _ μ1 H1 Stp.refl r1 ((e1.set h1 i).set h2 j)⟩
theorem ds_par3 (hc : X.calm = true) (hN : X.N.Nodup) (hi : X.N[i]? = some x) (hj : X.N[j]? = some y) (hl : X.N[l]? = some z) (hij : i ≠ j) (hil : i ≠ l) (hjl : j ≠ l)
    (hx : X.env.scope.names.lookup x = some .local) (hy : X.env.scope.names.lookup y = some .local) (hz : X.env.scope.names.lookup z = some .local) (ha : DA X T Wx [a, b, c] fs)
    (hw : swappedStores [.Tuple [.Name x px, .Name y py, .Name z pz] kt pt] (.Tuple [a, b, c] k2 pt2) X.env = pure (some [x, y, z]))
    (hs : swapsWithSole [.Tuple [.Name x px, .Name y py, .Name z pz] kt pt] (.Tuple [a, b, c] k2 pt2) pos.line X.env = pure false := by rfl) :
    DS X T Wx (.Assign [.Tuple [.Name x px, .Name y py, .Name z pz] kt pt] (.Tuple [a, b, c] k2 pt2) pos) (gPar3 i j l fs) := PS_imp (ps_par3 hc hN hi hj hl hij hil hjl hx hy hz ha hw hs) fun D σ H ⟨B, μ, s, ρ, r, e, q⟩ =>
  tD_bindT r e q fun w s1 v μ1 H1 st1 r1 e1 rel1 q1 => by
    have rel1 : RWs B μ1 s1 H1 v w := rel1
    cases rel1 with
    | nil => exact q1.elim
    | cons h1 t =>
      cases t with
      | nil => exact q1.elim
      | cons h2 t =>
        cases t with
        | nil => exact q1.elim
        | cons h3 t =>
          cases t with
          | cons _ _ => exact q1.elim
          | nil => exact ⟨_, _, _, rfl, q1 _ μ1 H1 Stp.refl r1 (((e1.set h1 i).set h2 j).set h3 l)⟩
end
/-! ### a list or a tuple, walked -/
def iSq (K : PySem.W.Frag) (tl : TE) : TI := fun σ H R => tl σ H fun x H1 => ∃ a, x = .ref a ∧ (((∃ xs, SqL K H1 a xs) ∧ R (Itl K a) H1) ∨ ((∃ xs, SqT K H1 a xs) ∧ R (Itt K a) H1))
theorem pi_sq {X : Cx} {tg l : Expr} {tl : TE} (hl : PE X l tl) : PI X tg l (iSq X.K tl) := by
  refine ⟨fun pins s σ H R I h => ?_⟩
  refine thn (hl.run pins s σ H _ I h) fun v s1 ⟨x, H1, I1, r1, q1⟩ => ?_
  obtain ⟨a, e, q⟩ := q1
  subst e
  cases r1
  rcases q with ⟨⟨xs, hq⟩, q⟩ | ⟨⟨xs, hq⟩, q⟩
  · obtain ⟨its, rv, p, hz⟩ := I1.list hq
    refine wpAny_pyIter_list p.isList ?_
    refine ⟨s1.heap.objs.size, [s1.heap.objs.size], _, _, H1, rfl, I1.kept (t' := s1.toks) fun b o e => Heap.get?_push_of_some _ e, turn_list a _, ⟨_, Heap.get?_push_size _ rfl, rfl, rfl⟩, fun b hb => ?_, q⟩
    have e : b = s1.heap.objs.size := by simpa using hb
    subst e
    exact I1.fpOk (Nat.le_refl _) (I1.hok.fresh (Nat.le_refl _))
  · obtain ⟨its, rv, p, hz⟩ := I1.tuple hq
    refine wpAny_pyIter_tuple (show s1.heap.IsTuple a its.toArray from p) ?_
    refine ⟨s1.heap.objs.size, [s1.heap.objs.size], _, _, H1, rfl, I1.kept (t' := s1.toks) fun b o e => Heap.get?_push_of_some _ e, turn_tuple a _, ⟨_, Heap.get?_push_size _ rfl, rfl, rfl⟩, fun b hb => ?_, q⟩
    have e : b = s1.heap.objs.size := by simpa using hb
    subst e
    exact I1.fpOk (Nat.le_refl _) (I1.hok.fresh (Nat.le_refl _))
def sqW : W → CS → R (List D)
  | .d (.list ds), s => .ok ds s
  | .d (.tuple ds), s => .ok ds s
  | _, _ => .bad
def fIt (f : En → CS → R W) (ρ : En) (s : CS) : R (List D) := (f ρ s).bind sqW
theorem di_seq {X : Cx} [HK X] {T : TX} {Wx : WXc} {tg e : Expr} {f : En → CS → R W} (h : DE X T Wx e f) : DI X T Wx tg e (fIt f) := PI_imp (pi_sq h) fun σ H Q ⟨B, μ, s, ρ, r, e, q⟩ =>
  tD_bind r e q fun w s1 v μ1 H1 st1 r1 e1 rel1 q1 => by
    unfold sqW at q1
    split at q1
    · rename_i ds
      have rel1 : Fz H1 (Av B μ1 s1) v (.list ds) := rel1
      cases rel1 with
      | @lst a xs _ h1 f1 => exact ⟨a, rfl, .inl ⟨⟨xs, h1.sq⟩, Fin.here (a := List D) q1 r1 (itr_list h1 f1)⟩⟩
    · rename_i ds
      have rel1 : Fz H1 (Av B μ1 s1) v (.tuple ds) := rel1
      cases rel1 with
      | @tup a xs _ h1 f1 => exact ⟨a, rfl, .inr ⟨⟨xs, h1.sq⟩, Fin.here (a := List D) q1 r1 (itr_tup h1 f1)⟩⟩
    · exact q1.elim
/-! ### the law's own end -/
def spLaw (K : PySem.W.Frag) : Sp := fun vs H Q _ => ∃ (a : Addr) (ns : List Int), vs = [.ref a] ∧ Only H ∧ SqL K H a (ns.map V.int) ∧ ns.length ≤ 63 ∧ ∀ H', Q (.bl true) H'
/-- a law's value: True, whatever the script -/
def LawTrue (r : List W → CS → R W) : Prop := ∀ ns : List Int, ns.length ≤ 63 → ∃ s, r [.sc ns] [] = .ok (.d (.bool true)) s
theorem law_sp {T : TX} {K : PySem.W.Frag} {r : List W → CS → R W} (hK : K = KFrag.K) (h : LawTrue r) : ∀ vs H Q E, spLaw K vs H Q E → spD T 1 (noX r) vs H Q E := by
  rintro vs H Q E ⟨a, ns, rfl, hO, hS, hl, q⟩
  obtain ⟨s, e⟩ := h ns hl
  refine ⟨rfl, fun _ => False, [], [], [.sc ns], [], ⟨rfl, fun n m a z => by simp at z, fun n a z => by simp at z, fun n a z => by simp at z, fun a z => z.elim, fun n a c z => by simp at z⟩, .cons ⟨a, rfl, ?_⟩ .nil, ?_⟩
  · rcases hS with (z | ⟨o, z⟩) | z
    · rcases hO a with y | ⟨o, xs, y⟩
      · rw [z] at y; cases y
      · rw [z] at y; cases y
    · exact .inl ⟨o, z, lv_nil⟩
    · exact .inr (by rw [hK] at z; exact z)
  · unfold noX
    rw [e]
    intro v μ' H' st sr rel
    have rel : Fz H' _ v (.bool true) := rel
    cases rel
    exact q H'
end
end DL
namespace DL
open PySem PySem.Spec PyProof.Rows L2
section
variable [KFrag] {X : Cx} [HK X]
theorem dgsC {e : Expr} {es : List Expr} {is js : List Nat} {h : W → En → Option En} {k : List D → En → Option En} (h1 : DG X e is h) (h2 : DGs X es js k)
    (hs : (assignEach (e :: es) X.env).map (·.2) = assign e X.env :: (assignEach es X.env).map (·.2) := by rfl) : DGs X (e :: es) (is ++ js) (hsC h k) := dgs_cons h1 h2 (pgs_cons h1 h2 hs)
theorem dgT {es : List Expr} {k : Nat} {pos : Pos} {n : Nat} {is : List Nat} {h : List D → En → Option En} (hc : X.calm = true) (h1 : DGs X es is h)
    (hn : (assignEach es X.env).length = n := by rfl) (hst : (assignEach es X.env).findIdx? (·.1) = none := by rfl) : DG X (.Tuple es k pos) is (hT n h) := dg_tup (pg_tup hc h1 hn hst)
end
/-- room for a look into the 65th unit -/
theorem Room_units1 {k : Nat} {A : Around} (r : Room (k + 1) A) : A.units + 64 < cLine := r.units
end DL
namespace DL
open PySem PySem.Spec PyProof.Rows L2

/-! ### the pen: what a draw gives -/
def zpen_g : En → CS → RT := (gRet (fNew (fCons (fN listD (fCons (fSl (fVar 0) fO0 (fO1 (fC (.int 63)))) fNil)) (fCons (fC (.int 0)) (fCons (fC (.int 0)) fNil)))))
abbrev zpen_r : List W → CS → R W := fnR 1 1 zpen_g
def zfresh_g : En → CS → RT := (gSeq (gAsg (hN 1) (fIxC (fVar 0) (fC (.int 1))))
    (gSeq (gPutC (f2 addD (fVar 1) (fC (.int 1))) (fVar 0) (fC (.int 1)))
    (gSeq (gAsg (hN 2) (fC (.int 0)))
    (gSeq (gIf (fB (f2 neD (fIxC (fVar 0) (fC (.int 0))) (fN lstD fNil))) (gAsg (hN 2) (f2 ixD (fIxC (fVar 0) (fC (.int 0))) (f2 modD (fN intD (fCons (fVar 1) fNil)) (fN lenD (fCons (fIxC (fVar 0) (fC (.int 0))) fNil))))) gNx)
    (gSeq (gIf (fAnd (fB (f2 ltD (fVar 1) (fN lenD (fCons (fIxC (fVar 0) (fC (.int 0))) fNil)))) (fB (f2 geD (fVar 2) (f2 powD (fC (.int 10)) (fC (.int 18)))))) (gRet (f2 subD (fVar 2) (f2 powD (fC (.int 10)) (fC (.int 18))))) gNx)
    (gSeq (gAsg (hN 3) (fC (.int 2305843009213693951)))
    (gSeq (gAsg (hN 4) (f2 modD (fN intD (fCons (f2 addD (f2 addD (f2 mulD (fVar 2) (fC (.int 48271))) (f2 mulD (fC (.int 40692)) (fVar 1))) (fC (.int 31))) fNil)) (fVar 3)))
    (gSeq (gAsg (hN 5) (fVar 4))
    (gSeq (gFor (fRng1 (fC (.int 6))) (hN 6) (gSeq (gAsg (hN 4) (f2 modD (fN intD (fCons (f2 addD (f2 addD (f2 mulD (fVar 4) (fVar 4)) (f2 mulD (f2 mulD (fC (.int 69621)) (f2 addD (fVar 6) (fC (.int 1)))) (f2 addD (fVar 1) (fC (.int 1))))) (fVar 2)) fNil)) (fVar 3)))
    (gAsg (hN 5) (f2 addD (f2 mulD (fVar 5) (fVar 3)) (fVar 4)))))
    (gRet (fVar 5)))))))))))
abbrev zfresh_r : List W → CS → R W := fnR 1 7 zfresh_g
def zdraw_g : En → CS → RT := (gSeq (gIf (fB (f2 ltD (fIxC (fVar 0) (fC (.int 2))) (fVar 1))) (gPutC (fCall 1 zfresh_r (fCons (fVar 0) fNil)) (fVar 0) (fC (.int 2))) gNx)
    (gSeq (gAsg (hN 2) (f2 modD (fN intD (fCons (fIxC (fVar 0) (fC (.int 2))) fNil)) (fVar 1)))
    (gSeq (gPutC (f2 fdivD (fN intD (fCons (fIxC (fVar 0) (fC (.int 2))) fNil)) (fVar 1)) (fVar 0) (fC (.int 2)))
    (gRet (fVar 2)))))
abbrev zdraw_r : List W → CS → R W := fnR 2 3 zdraw_g
theorem depth_ints : ∀ ns : List Int, PyData.depthAll (ns.map PyData.int) = 0
  | [] => rfl
  | n :: r => by
    have := depth_ints r
    simp [PyData.depthAll, PyData.depth]
    exact this
theorem lay_ints : ∀ ns : List Int, PyData.canLayAll0 (ns.map PyData.int) = true
  | [] => rfl
  | n :: r => by
    have := lay_ints r
    simp [PyData.canLayAll0, PyData.canLay0]
    exact this
theorem shaped_ints (ns : List Int) : SeqAt.shaped (.list (ns.map PyData.int)) = true := by
  unfold SeqAt.shaped
  rw [Bool.and_eq_true]
  refine ⟨?_, decide_eq_true ?_⟩
  · show PyData.canLay0 (.list _) = true
    simp only [PyData.canLay0]
    exact lay_ints ns
  · show PyData.depth (.list _) ≤ 64
    simp only [PyData.depth]
    rw [depth_ints]
    omega
/-- the pen at n: its cells, what comes next, what is left of a great number -/
def PenAt (n : Nat) (ns : List Int) (at_ rest : Int) (s : CS) : Prop := s[n]? = some (.lst [.list (ns.map .int), .int at_, .int rest])
theorem atI0 {a b c : D} : atI [a, b, c] 0 = some a := rfl
theorem atI1 {a b c : D} : atI [a, b, c] 1 = some b := rfl
theorem atI2 {a b c : D} : atI [a, b, c] 2 = some c := rfl
theorem PenAt.set {n : Nat} {ns : List Int} {a r : Int} {s : CS} (h : PenAt n ns a r s) (a' r' : Int) : PenAt n ns a' r' (s.set n (.lst [.list (ns.map .int), .int a', .int r'])) := by
  unfold PenAt
  rw [List.getElem?_set_self (List.getElem?_eq_some_iff.mp h).1]
/-- the part of fresh that draws a turn -/
def zturn : En → CS → RT := gSeq (gAsg (hN 4) (f2 modD (fN intD (fCons (f2 addD (f2 addD (f2 mulD (fVar 4) (fVar 4)) (f2 mulD (f2 mulD (fC (.int 69621)) (f2 addD (fVar 6) (fC (.int 1)))) (f2 addD (fVar 1) (fC (.int 1))))) (fVar 2)) fNil)) (fVar 3)))
    (gAsg (hN 5) (f2 addD (f2 mulD (fVar 5) (fVar 3)) (fVar 4)))
theorem zturn_is {n : Nat} {a c st f t : Int} {s : CS} (h0 : 0 ≤ st) (h1 : st < 2305843009213693951) (t0 : 0 ≤ t) (t1 : t < 1000) :
    ∃ st' f', 0 ≤ st' ∧ st' < 2305843009213693951 ∧ zturn [some (.c n), some (.d (.int a)), some (.d (.int c)), some (.d (.int 2305843009213693951)), some (.d (.int st)), some (.d (.int f)), some (.d (.int t))] s
      = .nx [some (.c n), some (.d (.int a)), some (.d (.int c)), some (.d (.int 2305843009213693951)), some (.d (.int st')), some (.d (.int f')), some (.d (.int t))] s := by
  have m1 : mulD (.int st) (.int st) = some (.int (st * st)) := by
    simp only [mulD]
    rw [if_pos (Or.inl ⟨by omega, by omega⟩)]
  have m2 : mulD (.int 69621) (.int (t + 1)) = some (.int (69621 * (t + 1))) := by
    simp only [mulD]
    rw [if_pos (Or.inl ⟨by decide, by decide⟩)]
  have m3 : mulD (.int (69621 * (t + 1))) (.int (a + 1)) = some (.int (69621 * (t + 1) * (a + 1))) := by
    simp only [mulD]
    rw [if_pos (Or.inl ⟨by omega, by omega⟩)]
  have m4 : ∀ x : Int, modD (.int x) (.int 2305843009213693951) = some (.int (x % 2305843009213693951)) := fun x => by
    simp only [modD]
    rw [if_pos (by decide)]
  have m5 : mulD (.int f) (.int 2305843009213693951) = some (.int (f * 2305843009213693951)) := by
    simp only [mulD]
    rw [if_pos (Or.inr ⟨by decide, by decide⟩)]
  refine ⟨(st * st + 69621 * (t + 1) * (a + 1) + c) % 2305843009213693951, f * 2305843009213693951 + (st * st + 69621 * (t + 1) * (a + 1) + c) % 2305843009213693951, Int.emod_nonneg _ (by decide), Int.emod_lt_of_pos _ (by decide), ?_⟩
  simp [zturn, gSeq, gAsg, f2, fVar, fC, R.bind, lift2, m1, m2, m3, m4, m5, addD, fN, fCons, fNil, liftN, allD, intD, R.toT, hN]
theorem zloop : ∀ (ts : List Int) {n : Nat} {a c st f : Int} {s : CS} (l : Option W), 0 ≤ st → st < 2305843009213693951 → (∀ t ∈ ts, 0 ≤ t ∧ t < 1000) →
    ∃ st' f' l', 0 ≤ st' ∧ st' < 2305843009213693951 ∧ forL (hN 6) zturn (ts.map .int) [some (.c n), some (.d (.int a)), some (.d (.int c)), some (.d (.int 2305843009213693951)), some (.d (.int st)), some (.d (.int f)), l] s
      = .nx [some (.c n), some (.d (.int a)), some (.d (.int c)), some (.d (.int 2305843009213693951)), some (.d (.int st')), some (.d (.int f')), l'] s
  | [], _, _, _, st, f, _, l, h0, h1, _ => ⟨st, f, l, h0, h1, rfl⟩
  | t :: ts, n, a, c, st, f, s, l, h0, h1, ht => by
    obtain ⟨t0, t1⟩ := ht t List.mem_cons_self
    obtain ⟨st1, f1, g0, g1, e1⟩ := zturn_is (n := n) (a := a) (c := c) (f := f) (s := s) h0 h1 t0 t1
    obtain ⟨st2, f2, l2, k0, k1, e2⟩ := zloop ts (n := n) (a := a) (c := c) (f := f1) (s := s) (some (.d (.int t))) g0 g1 fun x hx => ht x (List.mem_cons_of_mem _ hx)
    refine ⟨st2, f2, l2, k0, k1, ?_⟩
    have e3 : hN 6 (.d (.int t)) [some (.c n), some (.d (.int a)), some (.d (.int c)), some (.d (.int 2305843009213693951)), some (.d (.int st)), some (.d (.int f)), l] = some [some (.c n), some (.d (.int a)), some (.d (.int c)), some (.d (.int 2305843009213693951)), some (.d (.int st)), some (.d (.int f)), some (.d (.int t))] := rfl
    rw [List.map_cons]
    unfold forL
    simp only [e3, e1, e2]
theorem atI_in {ds : List D} {i : Int} (h0 : 0 ≤ i) (h1 : i < ds.length) : ∃ x, atI ds i = some x ∧ x ∈ ds := by
  have hl : i.toNat < ds.length := by omega
  refine ⟨ds[i.toNat], ?_, List.getElem_mem hl⟩
  unfold atI ixN
  rw [if_pos h0, if_pos h1]
  show ds[i.toNat]? = _
  rw [List.getElem?_eq_getElem hl]
theorem zfresh_is {n : Nat} {ns : List Int} {a r : Int} {s : CS} (h : PenAt n ns a r s) : ∃ f : Int, zfresh_r [.c n] s = .ok (.d (.int f)) (s.set n (.lst [.list (ns.map .int), .int (a + 1), .int r])) := by
  have hs := h.set (a + 1) r
  unfold PenAt at h hs
  have hlen : 0 ≤ (ns.length : Int) := by omega
  -- the cell that is read
  obtain ⟨c, hc⟩ : ∃ c : Int, gSeq (gAsg (hN 2) (fC (.int 0)))
      (gIf (fB (f2 neD (fIxC (fVar 0) (fC (.int 0))) (fN lstD fNil))) (gAsg (hN 2) (f2 ixD (fIxC (fVar 0) (fC (.int 0))) (f2 modD (fN intD (fCons (fVar 1) fNil)) (fN lenD (fCons (fIxC (fVar 0) (fC (.int 0))) fNil))))) gNx)
      [some (.c n), some (.d (.int a)), none, none, none, none, none] (s.set n (.lst [.list (ns.map .int), .int (a + 1), .int r])) = .nx [some (.c n), some (.d (.int a)), some (.d (.int c)), none, none, none, none] (s.set n (.lst [.list (ns.map .int), .int (a + 1), .int r])) := by
    cases ns with
    | nil =>
      refine ⟨0, ?_⟩
      have e : neD (.list (([] : List Int).map .int)) (.list []) = some (.bool false) := by
        unfold neD
        rw [eqF_eq]
        rw [if_pos ⟨shaped_ints _, by decide +kernel⟩]
        rfl
      simp only [List.map_nil] at hs e
      simp [gSeq, gAsg, gIf, fC, R.toT, hN, fB, f2, fIxC, fVar, R.bind, ixC, hs, atI0, fN, fNil, liftN, allD, lstD, lift2, e, toB, gNx]
    | cons m ms =>
      have e : neD (.list ((m :: ms).map .int)) (.list []) = some (.bool true) := by
        unfold neD
        rw [eqF_eq]
        rw [if_pos ⟨shaped_ints _, by decide +kernel⟩]
        rfl
      have hp : (0 : Int) < ((ms.length : Int) + 1) := by omega
      have e2 : modD (.int a) (.int ((ms.length : Int) + 1)) = some (.int (a % ((ms.length : Int) + 1))) := by
        simp only [modD]
        rw [if_pos hp]
      obtain ⟨x, hx, hm⟩ := atI_in (ds := (m :: ms).map PyData.int) (i := a % ((ms.length : Int) + 1)) (Int.emod_nonneg _ (by omega)) (by
        have := Int.emod_lt_of_pos a hp
        simp
        exact this)
      obtain ⟨c, _, hcx⟩ := List.mem_map.mp hm
      subst hcx
      refine ⟨c, ?_⟩
      simp only [List.map_cons] at hs e hx
      simp [gSeq, gAsg, gIf, fC, R.toT, hN, fB, f2, fIxC, fVar, R.bind, ixC, hs, atI0, fN, fNil, fCons, liftN, allD, lstD, lift2, e, toB, gNx, intD, lenD, e2, ixD, hx]
  -- the rest
  have hp : powD (.int 10) (.int 18) = some (.int 1000000000000000000) := by
    simp only [powD]
    rw [if_pos ⟨by decide, by decide, by decide⟩]
    rfl
  have m1 : mulD (.int c) (.int 48271) = some (.int (c * 48271)) := by
    simp only [mulD]
    rw [if_pos (Or.inr ⟨by decide, by decide⟩)]
  have m2 : mulD (.int 40692) (.int a) = some (.int (40692 * a)) := by
    simp only [mulD]
    rw [if_pos (Or.inl ⟨by decide, by decide⟩)]
  have m4 : ∀ x : Int, modD (.int x) (.int 2305843009213693951) = some (.int (x % 2305843009213693951)) := fun x => by
    simp only [modD]
    rw [if_pos (by decide)]
  have hrest : ∃ f : Int, (match (gSeq (gIf (fAnd (fB (f2 ltD (fVar 1) (fN lenD (fCons (fIxC (fVar 0) (fC (.int 0))) fNil)))) (fB (f2 geD (fVar 2) (f2 powD (fC (.int 10)) (fC (.int 18)))))) (gRet (f2 subD (fVar 2) (f2 powD (fC (.int 10)) (fC (.int 18))))) gNx)
    (gSeq (gAsg (hN 3) (fC (.int 2305843009213693951)))
    (gSeq (gAsg (hN 4) (f2 modD (fN intD (fCons (f2 addD (f2 addD (f2 mulD (fVar 2) (fC (.int 48271))) (f2 mulD (fC (.int 40692)) (fVar 1))) (fC (.int 31))) fNil)) (fVar 3)))
    (gSeq (gAsg (hN 5) (fVar 4))
    (gSeq (gFor (fRng1 (fC (.int 6))) (hN 6) zturn)
    (gRet (fVar 5))))))) [some (.c n), some (.d (.int a)), some (.d (.int c)), none, none, none, none] (s.set n (.lst [.list (ns.map .int), .int (a + 1), .int r])) with
      | .nx _ s => R.ok (W.d .none) s
      | .rt w s => .ok w s
      | .exc e _ s => .exc e s
      | _ => .bad) = .ok (.d (.int f)) (s.set n (.lst [.list (ns.map .int), .int (a + 1), .int r])) := by
    have later : ∃ f : Int, (gSeq (gAsg (hN 3) (fC (.int 2305843009213693951)))
    (gSeq (gAsg (hN 4) (f2 modD (fN intD (fCons (f2 addD (f2 addD (f2 mulD (fVar 2) (fC (.int 48271))) (f2 mulD (fC (.int 40692)) (fVar 1))) (fC (.int 31))) fNil)) (fVar 3)))
    (gSeq (gAsg (hN 5) (fVar 4))
    (gSeq (gFor (fRng1 (fC (.int 6))) (hN 6) zturn)
    (gRet (fVar 5)))))) [some (.c n), some (.d (.int a)), some (.d (.int c)), none, none, none, none] (s.set n (.lst [.list (ns.map .int), .int (a + 1), .int r])) = .rt (.d (.int f)) (s.set n (.lst [.list (ns.map .int), .int (a + 1), .int r])) := by
      obtain ⟨st, f, l, h0, h1, e⟩ := zloop [0, 1, 2, 3, 4, 5] (n := n) (a := a) (c := c) (st := (c * 48271 + 40692 * a + 31) % 2305843009213693951) (f := (c * 48271 + 40692 * a + 31) % 2305843009213693951) (s := s.set n (.lst [.list (ns.map .int), .int (a + 1), .int r])) none
        (Int.emod_nonneg _ (by decide)) (Int.emod_lt_of_pos _ (by decide)) (by decide)
      refine ⟨f, ?_⟩
      have er : rngD 0 6 = [PyData.int 0, PyData.int 1, PyData.int 2, PyData.int 3, PyData.int 4, PyData.int 5] := rfl
      simp [gSeq, gAsg, gFor, fRng1, fC, R.toT, hN, f2, fVar, R.bind, fN, fNil, fCons, liftN, allD, lift2, intD, m1, m2, m4, addD, er, gRet] at e ⊢
      rw [e]
      rfl
    obtain ⟨f, hf⟩ := later
    by_cases ht : a < (ns.length : Int) ∧ 1000000000000000000 ≤ c
    · refine ⟨c - 1000000000000000000, ?_⟩
      simp [gSeq, gIf, fAnd, fB, f2, fVar, fN, fCons, fNil, fIxC, fC, R.bind, R.toT, ixC, hs, atI0, liftN, allD, lenD, lift2, ltD, geD, cmpD, toB, hp, subD, gRet, ht.1, ht.2]
    · refine ⟨f, ?_⟩
      have e : gIf (fAnd (fB (f2 ltD (fVar 1) (fN lenD (fCons (fIxC (fVar 0) (fC (.int 0))) fNil)))) (fB (f2 geD (fVar 2) (f2 powD (fC (.int 10)) (fC (.int 18)))))) (gRet (f2 subD (fVar 2) (f2 powD (fC (.int 10)) (fC (.int 18))))) gNx
          [some (.c n), some (.d (.int a)), some (.d (.int c)), none, none, none, none] (s.set n (.lst [.list (ns.map .int), .int (a + 1), .int r])) = .nx [some (.c n), some (.d (.int a)), some (.d (.int c)), none, none, none, none] (s.set n (.lst [.list (ns.map .int), .int (a + 1), .int r])) := by
        by_cases h1 : a < (ns.length : Int)
        · have h2 : ¬ 1000000000000000000 ≤ c := fun z => ht ⟨h1, z⟩
          simp [gIf, fAnd, fB, f2, fVar, fN, fCons, fNil, fIxC, fC, R.bind, R.toT, ixC, hs, atI0, liftN, allD, lenD, lift2, ltD, geD, cmpD, toB, hp, gNx, h1, h2]
        · simp [gIf, fAnd, fB, f2, fVar, fN, fCons, fNil, fIxC, fC, R.bind, R.toT, ixC, hs, atI0, liftN, allD, lenD, lift2, ltD, geD, cmpD, toB, hp, gNx, h1]
      rw [gSeq, e]
      show (match (gSeq _ _ _ _) with | .nx _ s => R.ok (W.d .none) s | .rt w s => .ok w s | .exc e _ s => .exc e s | _ => .bad) = _
      rw [hf]
  obtain ⟨f, hf⟩ := hrest
  refine ⟨f, ?_⟩
  show (if [W.c n].length = 1 then _ else _) = _
  rw [if_pos (show [W.c n].length = 1 from rfl)]
  have e0 : startE 7 [W.c n] = [some (.c n), none, none, none, none, none, none] := rfl
  rw [e0]
  have e1 : gAsg (hN 1) (fIxC (fVar 0) (fC (.int 1))) [some (.c n), none, none, none, none, none, none] s = .nx [some (.c n), some (.d (.int a)), none, none, none, none, none] s := by
    simp [gAsg, hN, fIxC, fVar, fC, R.bind, R.toT, ixC, h, atI1]
  have e2 : gPutC (f2 addD (fVar 1) (fC (.int 1))) (fVar 0) (fC (.int 1)) [some (.c n), some (.d (.int a)), none, none, none, none, none] s = .nx [some (.c n), some (.d (.int a)), none, none, none, none, none] (s.set n (.lst [.list (ns.map .int), .int (a + 1), .int r])) := by
    have ei : ixN 3 1 = some 1 := rfl
    simp [gPutC, f2, fVar, fC, R.bind, R.toT, lift2, addD, h, ei]
  unfold zfresh_g
  rw [gSeq, e1]
  show (match (gSeq _ _ _ _) with | .nx _ s => R.ok (W.d .none) s | .rt w s => .ok w s | .exc e _ s => .exc e s | _ => .bad) = _
  rw [gSeq, e2]
  show (match (gSeq _ (gSeq _ _) _ _) with | .nx _ s => R.ok (W.d .none) s | .rt w s => .ok w s | .exc e _ s => .exc e s | _ => .bad) = _
  have assoc : ∀ (x y z : En → CS → RT) (ρ : En) (t : CS), gSeq x (gSeq y z) ρ t = gSeq (gSeq x y) z ρ t := fun x y z ρ t => by
    unfold gSeq
    cases x ρ t <;> rfl
  rw [assoc, gSeq, hc]
  exact hf
theorem zdraw_is {n : Nat} {ns : List Int} {a r : Int} {s : CS} (h : PenAt n ns a r s) {m : Int} (hm : 0 < m) (hm2 : m < 1073741824) :
    ∃ d a' r' : Int, 0 ≤ d ∧ d < m ∧ zdraw_r [.c n, .d (.int m)] s = .ok (.d (.int d)) (s.set n (.lst [.list (ns.map .int), .int a', .int r'])) := by
  -- behind the first statement
  obtain ⟨a1, r1, s1, h1, hs1, e1⟩ : ∃ a1 r1 s1, PenAt n ns a1 r1 s1 ∧ (∀ c, s1.set n c = s.set n c) ∧ gIf (fB (f2 ltD (fIxC (fVar 0) (fC (.int 2))) (fVar 1))) (gPutC (fCall 1 zfresh_r (fCons (fVar 0) fNil)) (fVar 0) (fC (.int 2))) gNx
      [some (.c n), some (.d (.int m)), none] s = .nx [some (.c n), some (.d (.int m)), none] s1 := by
    by_cases hr : r < m
    · obtain ⟨f, hf⟩ := zfresh_is h
      have h2 := h.set (a + 1) r
      have hx : noX zfresh_r [.c n] s = .ok (.d (.int f)) (s.set n (.lst [.list (ns.map .int), .int (a + 1), .int r])) := by
        unfold noX
        rw [hf]
      refine ⟨a + 1, f, (s.set n (.lst [.list (ns.map .int), .int (a + 1), .int r])).set n (.lst [.list (ns.map .int), .int (a + 1), .int f]), h2.set (a + 1) f, fun c => by rw [List.set_set, List.set_set], ?_⟩
      unfold PenAt at h h2
      have ei : ixN 3 2 = some 2 := rfl
      simp [gIf, fB, f2, fIxC, fVar, fC, R.bind, R.toT, ixC, h, atI2, lift2, ltD, cmpD, toB, hr, gPutC, fCall, fCons, fNil, hx, h2, ei]
    · refine ⟨a, r, s, h, fun c => rfl, ?_⟩
      unfold PenAt at h
      simp [gIf, fB, f2, fIxC, fVar, fC, R.bind, R.toT, ixC, h, atI2, lift2, ltD, cmpD, toB, hr, gNx]
  have e2 : modD (.int r1) (.int m) = some (.int (r1 % m)) := by
    simp only [modD]
    rw [if_pos hm]
  have e3 : fdivD (.int r1) (.int m) = some (.int (r1 / m)) := by
    simp only [fdivD]
    rw [if_pos ⟨hm, hm2⟩]
  refine ⟨r1 % m, a1, r1 / m, Int.emod_nonneg _ (by omega), Int.emod_lt_of_pos _ hm, ?_⟩
  show (if [W.c n, W.d (.int m)].length = 2 then _ else _) = _
  rw [if_pos (show [W.c n, W.d (.int m)].length = 2 from rfl)]
  have e0 : startE 3 [W.c n, W.d (.int m)] = [some (.c n), some (.d (.int m)), none] := rfl
  rw [e0]
  unfold zdraw_g
  rw [gSeq, e1]
  have h1' := h1
  unfold PenAt at h1
  have ei : ixN 3 2 = some 2 := rfl
  rw [← hs1]
  simp [gSeq, gAsg, hN, f2, fN, fCons, fNil, fIxC, fVar, fC, R.bind, R.toT, ixC, h1, atI2, liftN, allD, intD, lift2, e2, e3, gPutC, ei, gRet]
theorem zpen_is (ns : List Int) (h : ns.length ≤ 63) : ∃ ms : List Int, zpen_r [.sc ns] [] = .ok (.c 0) [.lst [.list (ms.map .int), .int 0, .int 0]] := by
  refine ⟨ns, ?_⟩
  have e : cutD (ns.map PyData.int) none (some 63) = ns.map PyData.int := by
    unfold cutD
    have h1 : HT.sIx (ns.map PyData.int).length 0 none = 0 := rfl
    have h2 : HT.sIx (ns.map PyData.int).length (ns.map PyData.int).length (some 63) = (ns.map PyData.int).length := by
      rw [List.length_map]
      show min (63 : Int).toNat ns.length = ns.length
      omega
    rw [h1, h2, List.drop_zero, Nat.sub_zero, List.take_length]
  show (if [W.sc ns].length = 1 then _ else _) = _
  rw [if_pos (show [W.sc ns].length = 1 from rfl)]
  have e0 : startE 1 [W.sc ns] = [some (.sc ns)] := rfl
  rw [e0]
  have hl : 3 ≤ line := by decide
  simp [zpen_g, gRet, fNew, fCons, fN, fSl, fVar, fO0, fO1, fC, R.bind, R.toT, toO, liftS, e, fNil, liftN, allD, listD, hl]
end DL
namespace DL
open PySem PySem.Spec PyProof.Rows L2
/-! ### enumerate over a tuple -/
theorem enum_new1 {v : Value} {o : Obj} {H : Heap → Prop} (B : Begins v o H) :
    Meets (Builtin.«enumerate.__new__» ⟨[.type "enumerate", v], []⟩) (fun _ R s => H s.heap ∧
      R (.ok (.ret (.ref (s.heap.push o).objs.size))) { s with heap := (s.heap.push o).push { cls := .type "enumerate", data := .fields #[.none, .bool false, .ref s.heap.objs.size, rawInt 0, .none, .none] } }) :=
  .of_wp fun prog w A R s h => by
    obtain ⟨hp, g, d, tk, os⟩ := s
    obtain ⟨h1, h⟩ := h
    have hsub := sub_enumerate
    have q1 : ∀ {A' : Around} {E : Value → Shared → Prop} {Q : Value → Shared → Prop}, Q (.ref hp.objs.size) ⟨hp.push o, g, d, tk, os⟩ → wpAny (model prog w) A' (pyIter v) Q E ⟨hp, g, d, tk, os⟩ :=
      fun q => B.iter prog w _ _ ⟨hp, g, d, tk, os⟩ _ h1 q
    wp_walk using q1
    refine wpAny_stack_any fun st => wpAny_pure ?_
    split
    · rename_i c _ _ _ _ _
      cases (c == Value.type "enumerate")
      · wp_walk using q1
        exact ⟨_, rfl, h⟩
      · wp_walk using q1
        exact ⟨_, rfl, h⟩
    · wp_walk using q1
      exact ⟨_, rfl, h⟩
theorem call_enum1 {prog : Program} {w : World} {A : Around} {E : Value → Shared → Prop} {s : Shared} {v : Value} {o : Obj} {H : Heap → Prop} {Q : Value → Shared → Prop} (B : Begins v o H) (h1 : H s.heap)
    (h : ∀ h', IsEnum h' (s.heap.objs.size + 1) s.heap.objs.size 0 .none → h'.get? s.heap.objs.size = some o → h'.objs.size = s.heap.objs.size + 2 →
      (∀ b o, s.heap.get? b = some o → h'.get? b = some o) → Q (.ref (s.heap.objs.size + 1)) { s with heap := h' }) :
    wpAny (model prog w) A (call (.type "enumerate") [v]) Q E s := by
  refine callType_new F.called_enumerate (by decide) (F.typeCall_enumerate_1 _) (F.newCall_enumerate_1 _) (fun obj => F.args_object_init_2 obj _) F.entry_enumerate_new
    (enum_new1 B) ⟨h1, ?_⟩
  have hz : (s.heap.push o).objs.size = s.heap.objs.size + 1 := Heap.size_push ..
  show _ ∧ _
  rw [hz]
  have he : IsEnum ((s.heap.push o).push { cls := .type "enumerate", data := .fields #[.none, .bool false, .ref s.heap.objs.size, rawInt 0, .none, .none] }) (s.heap.objs.size + 1) s.heap.objs.size 0 .none := by
    have := Heap.get?_push_size (s.heap.push o) (o := { cls := .type "enumerate", data := .fields #[.none, .bool false, .ref s.heap.objs.size, rawInt 0, .none, .none] }) rfl
    rw [hz] at this
    exact this
  exact ⟨⟨_, he, rfl⟩, h _ he (Heap.get?_push_of_some _ (Heap.get?_push_size _ B.free)) (by rw [Heap.size_push, hz]) fun b o x => Heap.get?_push_of_some _ (Heap.get?_push_of_some _ x)⟩
theorem enumT_end {prog : Program} {w : World} {A : Around} {E : Value → Shared → Prop} {s : Shared} {e it a : Addr} {i : Int} {k : Nat} {items : Array Value} {old : Value} {Q : Option Value → Shared → Prop} (hh : A.handled = none)
    (he : IsEnum s.heap e it i old) (hit : s.heap.IsTupleIter it a k) (ht : s.heap.IsTuple a items) (hx : items[k]? = none) (hQ : ∀ h', Heap.ExtBut it s.heap h' → Q none { s with heap := h' }) : wpAny (model prog w) A (pyNext (.ref e)) Q E s := by
  have hT : s.TypeIs (.ref e) "enumerate" := ⟨_, he, rfl⟩
  unfold pyNext
  refine wpAny_bind (wpAny_attempt (wpAny_callSpecial?_slot (name := Str.ofString "__next__") hT F.slot_enumerate_next
    (wpAny_call_entry F.slot_enumerate_next hT F.entry_enumerate_next ?_ (F.args_enumerate_next_1 _))))
  show wpAny _ _ (field (.ref e) 2 >>= _) _ _ _
  refine wpAny_bind (wpAny_field he rfl (x := .ref it) rfl ?_)
  refine wpAny_bind (wpAny_nextOf_tuple_end (A := A.in1) hh hit ht hx fun h' x he' hx' => ?_)
  obtain ⟨o, ho, hc⟩ := hx'
  refine wpAny_bind (wpAny_isInstance (T := "StopIteration") (b := true) ⟨o, ho, hc⟩ isSubtype_stop ?_)
  exact wpAny_pure (hQ _ he')
/-- the tuple at a as it stands at each turn, each item in a new pair -/
def IteT (K : PySem.W.Frag) (a : Addr) : It :=
  ⟨fun i H => ∃ (xs : List V) (x : V), SqT K H a xs ∧ xs[i]? = some x, fun i H v H' => ∃ T x, v = .ref T ∧ H T = none ∧ H' = upd H T (.tup [.int (i : Nat), x]) ∧ ∀ xs, SqT K H a xs → xs[i]? = some x,
    fun i H => ∃ xs : List V, SqT K H a xs ∧ xs.length ≤ i⟩
theorem turn_enumT {P : Program} {w : World} {K : PySem.W.Frag} {elts : List Expr} {kk : Nat} {tpos : Pos} (a e it : Addr) :
    Turn P w K (.Tuple elts kk tpos) (IteT K a) [e, it] e (fun i h => (∃ old, IsEnum h e it ((i : Nat) : Int) old) ∧ h.IsTupleIter it a i ∧ e ≠ it ∧ a ≠ it ∧ a ≠ e) where
  mem := by simp
  obj := fun i h st b hb => by
    obtain ⟨⟨old, he⟩, ⟨o, ho, hc, hd⟩, _⟩ := st
    have e' : b = e ∨ b = it := by simpa using hb
    rcases e' with z | z
    · rw [z]; exact ⟨_, he, fun v q => nomatch q⟩
    · rw [z]; exact ⟨o, ho, fun v q => by rw [hd] at q; cases q⟩
  keep := fun i h h' st k => let ⟨⟨old, he⟩, hi, hne, h2, h3⟩ := st; ⟨⟨old, k e (by simp) _ he⟩, hi.at fun o q => k it (by simp) o q, hne, h2, h3⟩
  item := by
    intro X hP hw hK hc i pins s σ H E I hf st hg
    subst hP hw hK
    obtain ⟨⟨old, he⟩, hit, hne, hai, hae⟩ := st
    obtain ⟨xs, x, hq, hx⟩ := hg
    obtain ⟨its, rv, p, hz⟩ := I.tuple hq
    have p : s.heap.IsTuple a its.toArray := p
    obtain ⟨u, hu, ru⟩ := rv.get hx
    have hel : e < s.heap.objs.size := Heap.lt_size he
    have hil : it < s.heap.objs.size := by obtain ⟨_, q, _⟩ := hit; exact Heap.lt_size q
    have hlt : i < its.toArray.size := by
      have := (List.getElem?_eq_some_iff.mp hu).1
      simpa using this
    refine wpAny_pyNext_enum_itemD (n := its.toArray.size) (fp := [it, a]) (P := fun i v => its.toArray[i]? = some v) (St := fun i h => h.IsTupleIter it a i ∧ h.IsTuple a its.toArray)
      (Draws.tuple (A := X.A.in1) (show X.A.in1.handled = none from I.ok.hd hc) it a hai its.toArray) he ⟨hit, p⟩ hlt hne (by simp [hne, Ne.symm hae]) fun x' h' tk hP ho hit' hT hsz hk => ?_
    have ex : x' = u := by
      have h2 : its.toArray[i]? = some u := by simpa using hu
      rw [h2] at hP
      exact (Option.some.inj hP).symm
    subst ex
    refine ⟨_, rfl, wpAny_letOwnedTupleGo_enum (s := { s with heap := h', toks := tk + 1 }) ho fun h'' he' sb => ?_⟩
    have hT2 : h''.get? s.heap.objs.size = some { cls := .type "tuple", data := .seq #[.int i tk, x'] } := (sb.2 _ (Nat.ne_of_gt hel)).trans hT
    have new : ObjOk X.prog X.w (upd H s.heap.objs.size (.tup [.int (i : Nat), x])) h'' s.heap.objs.size (.tup [.int (i : Nat), x]) :=
      ⟨by show 2 ≤ sizeLine; decide, [.int i tk, x'], .cons ⟨_, rfl⟩ (.cons ru .nil), ⟨_, hT2, rfl, _, rfl⟩⟩
    have I1 : Inv X pins σ (upd H s.heap.objs.size (.tup [.int (i : Nat), x])) { s with heap := h'', toks := tk + 1 } :=
      I.turnedNew (ch := [e, it]) (fun b ob hb q => (sb.2 b (fun z => hb (by simp [z]))).trans (hk b ob (fun z => hb (by simp [z])) (fun z => hb (by simp [z])) q)) hf (Nat.le_refl _) new
    refine ⟨.ref s.heap.objs.size, _, I1, rfl, ⟨_, x, rfl, I.hok.fresh (Nat.le_refl _), rfl, fun ys hy => by rw [I.tuple_inj hy hq]; exact hx⟩, ⟨⟨x', ?_⟩, hit'.1.at fun o q => (sb.2 it (Ne.symm hne)).trans q, hne, hai, hae⟩, fun b hb => ?_⟩
    · have e1 : ((i + 1 : Nat) : Int) = (i : Int) + 1 := by omega
      rw [e1]
      exact he'
    · have hb' : b < s.heap.objs.size := by
        have e' : b = e ∨ b = it := by simpa using hb
        rcases e' with z | z
        · rw [z]; exact hel
        · rw [z]; exact hil
      rw [upd_ne (Nat.ne_of_lt hb')]
      exact (hf b hb).1
  done := by
    intro X hP hw hK hc i pins s σ H E I hf st hg
    subst hP hw hK
    obtain ⟨⟨old, he⟩, hit, hne, hai, hae⟩ := st
    obtain ⟨xs, hq, hx⟩ := hg
    obtain ⟨its, rv, p, hz⟩ := I.tuple hq
    have p : s.heap.IsTuple a its.toArray := p
    obtain ⟨f0, f1, f2, f3, f4, f5⟩ := hf it (by simp)
    have hl := rv.length
    have hn : its.toArray[i]? = none := by simp; omega
    exact enumT_end (I.ok.hd hc) he hit p hn fun h' eb => ⟨rfl, I.turned (t' := s.toks) (fun b o hb q => eb b o hb q) f0 f1 f3 f4 f5⟩
  self := fun A i s Q E st h => let ⟨⟨_, he⟩, _⟩ := st; wpAny_pyIter_enum he h
section
variable [KFrag]
def iEn (K : PySem.W.Frag) (ta : TA) : TI := fun σ H R => ta σ H fun vs H1 => ∃ a xs, vs = [.ref a] ∧ ((SqL K H1 a xs ∧ R (Ite K a) H1) ∨ (SqT K H1 a xs ∧ R (IteT K a) H1))
theorem pi_en {X : Cx} {e : Expr} {ta : TA} {p pos tpos : Pos} {elts : List Expr} {kk : Nat} (hg : Gl X "enumerate") (hm : X.mg "enumerate" = none) (ha : PA X [e] ta) (hs : starEach [e] X.env = [(false, eval e X.env)] := by rfl) :
    PI X (.Tuple elts kk tpos) (.Call (.Name "enumerate" p) [e] [] pos) (iEn X.K ta) := by
  refine ⟨fun pins s σ H R I h => ?_⟩
  refine Call_ (ld_blt I hg hm boot_enumerate (PyProof.Rows.callWith_type1 (thn (ha.run pos pins s σ H _ I h) fun us s1 ⟨vs, H1, I1, r1, q1⟩ => ?_) hs rfl))
  obtain ⟨a, xs, ex, q⟩ := q1
  subst ex
  cases r1 with
  | cons r rr =>
    cases rr
    cases r
    have fresh : ∀ b ∈ [s1.heap.objs.size + 1, s1.heap.objs.size], FpOk X pins H1 b := fun b hb => by
      have e' : b = s1.heap.objs.size + 1 ∨ b = s1.heap.objs.size := by simpa using hb
      have hle : s1.heap.objs.size ≤ b := by
        rcases e' with z | z
        · rw [z]; exact Nat.le_add_right _ _
        · rw [z]; exact Nat.le_refl _
      exact I1.fpOk hle (I1.hok.fresh hle)
    rcases q with ⟨hq, q⟩ | ⟨hq, q⟩
    · obtain ⟨its, rv, p', hz⟩ := I1.list hq
      refine call_enumerate_list p'.isList fun h' he hit hsz hk => wpAny_pyIter_enum he ?_
      exact ⟨_, _, _, _, H1, rfl, I1.kept (t' := s1.toks) hk, turn_enum a (s1.heap.objs.size + 1) s1.heap.objs.size, ⟨⟨.none, he⟩, hit, Nat.succ_ne_self _⟩, fresh, q⟩
    · obtain ⟨its, rv, p', hz⟩ := I1.tuple hq
      have p' : s1.heap.IsTuple a its.toArray := p'
      have la : a < s1.heap.objs.size := by obtain ⟨o, ho, _⟩ := id p'; exact Heap.lt_size ho
      refine call_enum1 (begins_tuple a its.toArray) p' fun h' he hit hsz hk => wpAny_pyIter_enum he ?_
      exact ⟨_, _, _, _, H1, rfl, I1.kept (t' := s1.toks) hk, turn_enumT a (s1.heap.objs.size + 1) s1.heap.objs.size, ⟨⟨.none, he⟩, ⟨_, hit, rfl, rfl⟩, Nat.succ_ne_self _, Nat.ne_of_lt la, Nat.ne_of_lt (Nat.lt_succ_of_lt la)⟩, fresh, q⟩
theorem walk_enumT {K : PySem.W.Frag} {a : Addr} {xs : List V} : Walk (IteT K a) xs.length (fun H => SqT K H a xs) (YPair (fun i => some (.int (i : Nat))) (fun i => xs[i]?)) := by
  refine ⟨fun i _ hi q => ⟨xs, xs[i], q, by simp [hi]⟩, fun _ q => ⟨xs, q, Nat.le_refl _⟩, fun i H v H' _ q y => ?_⟩
  obtain ⟨T, x, h1, h2, h3, h4⟩ := y
  exact ⟨T, .int (i : Nat), x, h1, h2, h3, rfl, h4 xs q⟩
theorem walk_zipT {K : PySem.W.Frag} {a b : Addr} {xs ys : List V} {n : Nat} (hn : n = min xs.length ys.length) : Walk (RZ.ItzT K a b) n (fun H => SqT K H a xs ∧ SqT K H b ys) (YPair (fun i => xs[i]?) (fun i => ys[i]?)) := by
  subst hn
  refine ⟨fun i _ hi q => ?_, fun _ q => ⟨xs, ys, q.1, q.2, by omega⟩, fun i H v H' _ q y => ?_⟩
  · have h1 : i < xs.length := by omega
    have h2 : i < ys.length := by omega
    exact ⟨xs, ys, xs[i], ys[i], q.1, q.2, by simp [h1], by simp [h2]⟩
  · obtain ⟨T, x, z, h1, h2, h3, h4, h5⟩ := y
    exact ⟨T, x, z, h1, h2, h3, h4 xs q.1, h5 ys q.2⟩
def enuD : Nat → List D → List D
  | _, [] => []
  | n, x :: r => .tuple [.int (n : Nat), x] :: enuD (n + 1) r
theorem enuD_len : ∀ {n : Nat} {ds : List D}, (enuD n ds).length = ds.length
  | _, [] => rfl
  | n, x :: r => by unfold enuD; rw [List.length_cons, List.length_cons, enuD_len]
theorem enuD_at : ∀ {n : Nat} {ds : List D} {i : Nat} {x : D}, ds[i]? = some x → (enuD n ds)[i]? = some (.tuple [.int ((n + i : Nat) : Int), x])
  | _, [], _, _, e => by simp at e
  | n, y :: r, 0, x, e => by simp at e; subst e; simp [enuD]
  | n, y :: r, i + 1, x, e => by
    have := enuD_at (n := n + 1) (ds := r) (i := i) (x := x) (by simpa using e)
    unfold enuD
    rw [List.getElem?_cons_succ, this]
    have : n + 1 + i = n + (i + 1) := by omega
    rw [this]
def zipD : List D → List D → List D
  | x :: r, y :: t => .tuple [x, y] :: zipD r t
  | _, _ => []
theorem zipD_len : ∀ {xs ys : List D}, (zipD xs ys).length = min xs.length ys.length
  | [], _ => by simp [zipD]
  | _ :: _, [] => by simp [zipD]
  | x :: r, y :: t => by
    have := zipD_len (xs := r) (ys := t)
    simp only [zipD, List.length_cons, this]
    omega
theorem zipD_at : ∀ {xs ys : List D} {i : Nat} {x y : D}, xs[i]? = some x → ys[i]? = some y → (zipD xs ys)[i]? = some (.tuple [x, y])
  | [], _, _, _, _, e, _ => by simp at e
  | _ :: _, [], _, _, _, _, e => by simp at e
  | a :: r, b :: t, 0, x, y, e, e2 => by simp at e e2; subst e; subst e2; simp [zipD]
  | a :: r, b :: t, i + 1, x, y, e, e2 => by
    have := zipD_at (xs := r) (ys := t) (i := i) (x := x) (y := y) (by simpa using e) (by simpa using e2)
    simpa [zipD] using this
theorem itr_enuL {K : PySem.W.Frag} {B : Addr → Prop} {μ : List Addr} {s : CS} {H : Hp} {a : Addr} {xs : List V} {ds : List D} (h : FL H (Av B μ s) a xs) (f : Fzs H (Av B μ s) xs ds) : ItR B μ s H (Ite K a) (enuD 0 ds) := by
  refine ⟨fun H => SqL K H a xs, YPair (fun i => some (.int (i : Nat))) (fun i => xs[i]?), ?_, fun H' A' k bt => .of (k.keep _ _ h.1 h.2), fun i H' A' v H'' k bt hi y => ?_⟩
  · rw [enuD_len, ← f.len]
    exact walk_enum
  · obtain ⟨T, x, y, rfl, hT, rfl, e1, e2⟩ := y
    cases e1
    obtain ⟨d, e3, e4⟩ := (f.kp k).getV e2
    refine ⟨same_upd hT, _, enuD_at e3, ?_⟩
    rw [Nat.zero_add]
    exact Fz.newT bt hT (.cons (.int _) (.cons e4 .nil))
theorem itr_enuT {X : Cx} [HK X] {B : Addr → Prop} {μ : List Addr} {s : CS} {H : Hp} {a : Addr} {xs : List V} {ds : List D} (h : FT H (Av B μ s) a xs) (f : Fzs H (Av B μ s) xs ds) : ItR B μ s H (IteT X.K a) (enuD 0 ds) := by
  refine ⟨fun H => SqT X.K H a xs, YPair (fun i => some (.int (i : Nat))) (fun i => xs[i]?), ?_, fun H' A' k bt => (h.kp k.keep k.new).sq, fun i H' A' v H'' k bt hi y => ?_⟩
  · rw [enuD_len, ← f.len]
    exact walk_enumT
  · obtain ⟨T, x, y, rfl, hT, rfl, e1, e2⟩ := y
    cases e1
    obtain ⟨d, e3, e4⟩ := (f.kp k).getV e2
    refine ⟨same_upd hT, _, enuD_at e3, ?_⟩
    rw [Nat.zero_add]
    exact Fz.newT bt hT (.cons (.int _) (.cons e4 .nil))
theorem itr_zipL {K : PySem.W.Frag} {B : Addr → Prop} {μ : List Addr} {s : CS} {H : Hp} {a b : Addr} {xs ys : List V} {ds es : List D} (h : FL H (Av B μ s) a xs) (f : Fzs H (Av B μ s) xs ds) (h2 : FL H (Av B μ s) b ys) (f2 : Fzs H (Av B μ s) ys es) : ItR B μ s H (Itz K a b) (zipD ds es) := by
  refine ⟨fun H => SqL K H a xs ∧ SqL K H b ys, YPair (fun i => xs[i]?) (fun i => ys[i]?), ?_, fun H' A' k bt => ⟨.of (k.keep _ _ h.1 h.2), .of (k.keep _ _ h2.1 h2.2)⟩, fun i H' A' v H'' k bt hi y => ?_⟩
  · exact walk_zip (by rw [zipD_len, f.len, f2.len])
  · obtain ⟨T, x, y, rfl, hT, rfl, e1, e2⟩ := y
    obtain ⟨d, e3, e4⟩ := (f.kp k).getV e1
    obtain ⟨d2, e5, e6⟩ := (f2.kp k).getV e2
    exact ⟨same_upd hT, _, zipD_at e3 e5, Fz.newT bt hT (.cons e4 (.cons e6 .nil))⟩
theorem itr_zipT {X : Cx} [HK X] {B : Addr → Prop} {μ : List Addr} {s : CS} {H : Hp} {a b : Addr} {xs ys : List V} {ds es : List D} (h : FT H (Av B μ s) a xs) (f : Fzs H (Av B μ s) xs ds) (h2 : FT H (Av B μ s) b ys) (f2 : Fzs H (Av B μ s) ys es) : ItR B μ s H (RZ.ItzT X.K a b) (zipD ds es) := by
  refine ⟨fun H => SqT X.K H a xs ∧ SqT X.K H b ys, YPair (fun i => xs[i]?) (fun i => ys[i]?), ?_, fun H' A' k bt => ⟨(h.kp k.keep k.new).sq, (h2.kp k.keep k.new).sq⟩, fun i H' A' v H'' k bt hi y => ?_⟩
  · exact walk_zipT (by rw [zipD_len, f.len, f2.len])
  · obtain ⟨T, x, y, rfl, hT, rfl, e1, e2⟩ := y
    obtain ⟨d, e3, e4⟩ := (f.kp k).getV e1
    obtain ⟨d2, e5, e6⟩ := (f2.kp k).getV e2
    exact ⟨same_upd hT, _, zipD_at e3 e5, Fz.newT bt hT (.cons e4 (.cons e6 .nil))⟩
def enuW : List W → CS → R (List D)
  | [.d (.list ds)], s => .ok (enuD 0 ds) s
  | [.d (.tuple ds)], s => .ok (enuD 0 ds) s
  | _, _ => .bad
def zipW : List W → CS → R (List D)
  | [.d (.list a), .d (.list b)], s => .ok (zipD a b) s
  | [.d (.tuple a), .d (.tuple b)], s => .ok (zipD a b) s
  | _, _ => .bad
def fEnu (fs : En → CS → R (List W)) (ρ : En) (s : CS) : R (List D) := (fs ρ s).bind enuW
def fZip (fs : En → CS → R (List W)) (ρ : En) (s : CS) : R (List D) := (fs ρ s).bind zipW
section
variable {X : Cx} [HK X] {T : TX} {Wx : WXc} {e e2 : Expr} {fs : En → CS → R (List W)} {p pos tpos : Pos} {elts : List Expr} {kk : Nat}
theorem di_enu (hg : Gl X "enumerate") (hm : X.mg "enumerate" = none) (ha : DA X T Wx [e] fs) (hs : starEach [e] X.env = [(false, eval e X.env)] := by rfl) : DI X T Wx (.Tuple elts kk tpos) (.Call (.Name "enumerate" p) [e] [] pos) (fEnu fs) :=
  PI_imp (pi_en hg hm ha hs) fun σ H Q ⟨B, μ, s, ρ, r, e, q⟩ => tD_bind r e q fun w s1 v μ1 H1 st1 r1 e1 rel1 q1 => by
    have rel1 : RWs B μ1 s1 H1 v w := rel1
    unfold enuW at q1
    split at q1
    · cases rel1 with
      | cons g t =>
        cases t
        have g : Fz H1 (Av B μ1 s1) _ (.list _) := g
        cases g with
        | @lst a xs _ h1 f1 => exact ⟨a, xs, rfl, .inl ⟨h1.sq, Fin.here (a := List D) q1 r1 (itr_enuL h1 f1)⟩⟩
    · cases rel1 with
      | cons g t =>
        cases t
        have g : Fz H1 (Av B μ1 s1) _ (.tuple _) := g
        cases g with
        | @tup a xs _ h1 f1 => exact ⟨a, xs, rfl, .inr ⟨h1.sq, Fin.here (a := List D) q1 r1 (itr_enuT h1 f1)⟩⟩
    · exact q1.elim
theorem di_zip (hg : Gl X "zip") (hm : X.mg "zip" = none) (ha : DA X T Wx [e, e2] fs) (hs : starEach [e, e2] X.env = (false, eval e X.env) :: starEach [e2] X.env := by rfl) (hpl : (backTo pos (starEach [e2] X.env)).any (·.1) = false := by rfl) :
    DI X T Wx (.Tuple elts kk tpos) (.Call (.Name "zip" p) [e, e2] [] pos) (fZip fs) :=
  PI_imp (RZ.pi_zipA hg hm ha hs hpl) fun σ H Q ⟨B, μ, s, ρ, r, e, q⟩ => tD_bind r e q fun w s1 v μ1 H1 st1 r1 e1 rel1 q1 => by
    have rel1 : RWs B μ1 s1 H1 v w := rel1
    unfold zipW at q1
    split at q1
    · cases rel1 with
      | cons g t =>
        cases t with
        | cons g2 t =>
          cases t
          have g : Fz H1 (Av B μ1 s1) _ (.list _) := g
          have g2 : Fz H1 (Av B μ1 s1) _ (.list _) := g2
          cases g with
          | @lst a xs _ h1 f1 =>
            cases g2 with
            | @lst b ys _ h2 f2 => exact ⟨a, b, xs, ys, rfl, .inl ⟨h1.sq, h2.sq, Fin.here (a := List D) q1 r1 (itr_zipL h1 f1 h2 f2)⟩⟩
    · cases rel1 with
      | cons g t =>
        cases t with
        | cons g2 t =>
          cases t
          have g : Fz H1 (Av B μ1 s1) _ (.tuple _) := g
          have g2 : Fz H1 (Av B μ1 s1) _ (.tuple _) := g2
          cases g with
          | @tup a xs _ h1 f1 =>
            cases g2 with
            | @tup b ys _ h2 f2 => exact ⟨a, b, xs, ys, rfl, .inr ⟨h1.sq, h2.sq, Fin.here (a := List D) q1 r1 (itr_zipT h1 f1 h2 f2)⟩⟩
    · exact q1.elim
end
end
end DL
namespace DL
open PySem PySem.Spec PyProof.Rows L2
section
variable [KFrag]
theorem lt64 {a c : Nat} (h : a + 64 < c) : a < c := by omega
/-! ### t < u, numbers or tuples of numbers -/
def intsD : List D → Option (List Int)
  | [] => some []
  | .int i :: r => match intsD r with
    | some l => some (i :: l)
    | none => none
  | _ :: _ => none
def ltA : D → D → Option D
  | .int i, .int j => some (.bool (decide (i < j)))
  | .tuple a, .tuple b => match intsD a, intsD b with
    | some n, some m => some (.bool (HT.lexLt n m))
    | _, _ => none
  | _, _ => none
theorem ints_fz {H : Hp} {A : Addr → Prop} : ∀ {xs : List V} {ds : List D} {ns : List Int}, Fzs H A xs ds → intsD ds = some ns → xs = ns.map V.int
  | _, _, _, .nil, e => by cases e; rfl
  | _, d :: ds, ns, .cons h t, e => by
    cases h with
    | int i =>
      unfold intsD at e
      cases z : intsD ds with
      | none => rw [z] at e; cases e
      | some l => rw [z] at e; cases e; rw [List.map_cons, ints_fz t z]
    | _ => cases e
section
variable {X : Cx} [HK X]
theorem dop_ltA (hu : X.A.units < cLine) : DOp X (compareOp .Lt) ltA := by
  intro pins s σ H x y v u Q I rx ry h
  obtain ⟨A, dx, dy, z, bt, fx, fy, e, q⟩ := h
  cases fx with
  | int i =>
    cases fy with
    | int j => cases e; exact op_lt pins s σ H _ _ v u Q I rx ry ⟨i, j, rfl, rfl, q _ _ (Same.refl _) (.bl _)⟩
    | _ => cases e
  | @tup a xs ds h1 f1 =>
    cases fy with
    | @tup b ys es h2 f2 =>
      simp only [ltA] at e
      cases z1 : intsD ds with
      | none => rw [z1] at e; cases e
      | some n =>
        cases z2 : intsD es with
        | none => rw [z1, z2] at e; cases e
        | some m =>
          rw [z1, z2] at e
          cases e
          have e1 := ints_fz f1 z1
          have e2 := ints_fz f2 z2
          subst e1
          subst e2
          exact op_ltT hu pins s σ H _ _ v u Q I rx ry ⟨a, b, n, m, rfl, rfl, h1.sq, h2.sq, q _ _ (Same.refl _) (.bl _)⟩
    | _ => cases e
  | _ => cases fy <;> cases e
end
end
section
variable [KFrag]
/-! ### a def that may raise, called with data alone -/
def pureX (h : List W → CS → R W) (ws : List W) (s : CS) : R W := match h ws [] with
  | .ok (.d x) _ => .ok (.d x) s
  | .exc e _ => .exc e s
  | _ => .bad
def fCallX (m : Nat) (h : List W → CS → R W) (fs : En → CS → R (List W)) (ρ : En) (s : CS) : R W := (fs ρ s).bind fun ws s => if ws.length = m then (match allD ws with
  | some _ => pureX h ws s
  | none => .bad) else .bad
theorem ExV.mono {T : TX} {A A' : Addr → Prop} {H : Hp} {e : Exn} {c : Value} {d : Option Addr} (k : ∀ a, A' a → A a) (h : ExV T A H e c d) : ExV T A' H e c d :=
  ⟨h.1, let ⟨dd, v, a, b, f⟩ := h.2; ⟨dd, v, a, b, f.mono k⟩⟩
theorem pureX_fin {T : TX} {Wx : WXc} {B : Addr → Prop} {μ : List Addr} {s : CS} {H : Hp} {σ σ' : L2.St} {Q : VK} {h : List W → CS → R W} {ws : List W} (r : SR B μ s H) (q : Fin T Wx B μ s H σ Q (pureX h ws s)) :
    Fin T (fun c d _ H' => Wx c d σ H') (Av B μ s) [] [] H σ' Q (h ws []) := by
  unfold pureX at q
  cases z : h ws [] with
  | bad => simp only [z] at q; exact q.elim
  | exc e s1 =>
    simp only [z] at q
    intro μ' H' c d st sr ex
    have k : Same H H' := fun a o e => st.keep a o e lv_nil
    exact q μ H' c d (Stp.same k) (r.same k) (ex.mono fun a z => .inl z)
  | ok w s1 =>
    cases w with
    | c n => simp only [z] at q; exact q.elim
    | sc n => simp only [z] at q; exact q.elim
    | fd n => simp only [z] at q; exact q.elim
    | rg n m => simp only [z] at q; exact q.elim
    | d y =>
      simp only [z] at q
      intro v μ' H' st sr rel
      have rel : Fz H' (Av (Av B μ s) μ' s1) v y := rel
      exact Fin.use (a := W) (w := .d y) q (fun a o e => st.keep a o e lv_nil) r (Fz.mono (fun a z => .inl z) rel)
section
variable {X : Cx} [HK X] {T : TX} {Wx : WXc} {f : Addr} {fd : FuncData} {ps : List Str} {k m : Nat} {h : List W → CS → R W} {x : Str} {p pos : Pos} {e : Expr} {es : List Expr} {fs : En → CS → R (List W)}
theorem de_callX (tk : Takes X Wx) (F : FnOk X.prog X.w X.K X.mg X.base (L2.CX X.prog X.w) k f fd ps (spD T m h)) (hr : Room k X.A) (hg : Gl X x) (hm : X.mg x = some (.ref f)) (hk : PySem.W.keepIn X.K (.ref f) = true) (hb : Binds X.K fd ps [])
    (ha : DA X T Wx (e :: es) fs) (hdb : (x == ("__debug__" : Str)) = false := by decide) (he : starEach (e :: es) X.env = (false, eval e X.env) :: starEach es X.env := by rfl) (hpl : (backTo pos (starEach es X.env)).any (·.1) = false := by rfl) :
    DE X T Wx (.Call (.Name x p) (e :: es) [] pos) (fCallX m h fs) := PE_imp (pe_callS F hr hg hm hk hb (fun σ => passAt tk σ) ha hdb he hpl) fun σ H Q ⟨B, μ, s, ρ, r, e, q⟩ =>
  tD_bind r e q fun w s1 v μ1 H1 st1 r1 e1 rel1 q1 => by
    split at q1
    · rename_i hl
      have rel1 : RWs B μ1 s1 H1 v w := rel1
      split at q1
      · rename_i ds hd
        exact ⟨by rw [rel1.len]; exact hl, Av B μ1 s1, [], [], w, σ, r1.pure, allD_rws (fun a z => z.elim id fun z => absurd z lv_nil) hd rel1, pureX_fin r1 q1⟩
      · exact q1.elim
    · exact q1.elim
end
/-! ### raise C(x) -/
def tMk (fld : Str) (C : Addr) (ta : TA) : L2.St → Hp → XK → Prop := fun σ H Q => ta σ H fun vs H1 => ∃ v, vs = [v] ∧ ∀ d, H1 d = none → Q (.ref C) (some d) (upd H1 d (.xd [(fld, v)]))
def gRaise (c : Nat) (fs : En → CS → R (List W)) (ρ : En) (s : CS) : RT := (fs ρ s).toT ρ fun ws s => match ws with
  | [.d x] => .exc ⟨c, x⟩ ρ s
  | _ => .bad
theorem ds_raise {X : Cx} {T : TX} {Wx : WXc} {st : Stmt} {fs : En → CS → R (List W)} (c : Nat) {C : Addr} {fld : Str} (hT : T c = (C, fld)) (h : PS X st (fun _ σ H => tMk fld C (tD T Wx fs) σ H fun cls d H' => Wx cls d σ H')) : DS X T Wx st (gRaise c fs) :=
  PS_imp h fun D σ H ⟨B, μ, s, ρ, r, e, q⟩ => tD_bindT r e q fun w s1 v μ1 H1 st1 r1 e1 rel1 q1 => by
    have rel1 : RWs B μ1 s1 H1 v w := rel1
    split at q1
    · cases rel1 with
      | cons g t =>
        cases t
        have g : Fz H1 (Av B μ1 s1) _ _ := g
        refine ⟨_, rfl, fun d hd => q1 σ μ1 _ _ _ (Stp.same (same_upd hd)) (r1.same (same_upd hd)) (e1.stp (Stp.same (same_upd hd))) ⟨by rw [hT], d, _, rfl, ?_, g.same (same_upd hd)⟩⟩
        rw [hT]
        exact upd_same
    · exact q1.elim
/-! ### except C as e -/
def rst (i : Nat) : RT → RT
  | .nx ρ s => .nx (ρ.set i none) s
  | .bk ρ s => .bk (ρ.set i none) s
  | .ct ρ s => .ct (ρ.set i none) s
  | .rt w s => .rt w s
  | _ => .bad
def gTry (i cs : Nat) (g : En → CS → RT) (h : D → En → CS → RT) (ρ : En) (s : CS) : RT := match g ρ s with
  | .exc e ρ1 s1 => if e.cls = cs ∧ i < ρ1.length then rst i (h e.arg (ρ1.set i none) s1) else .bad
  | r => r
theorem ER.unset {B : Addr → Prop} {μ : List Addr} {s : CS} {H : Hp} {σ : L2.St} {ρ : En} (h : ER B μ s H σ ρ) (i : Nat) (o : Option V) : ER B μ s H (σ.set i o) (ρ.set i none) := by
  refine ⟨by rw [List.length_set, List.length_set]; exact h.len, fun j u e => ?_⟩
  by_cases hij : i = j
  · subst hij
    rw [List.getElem?_set] at e
    simp only [if_true] at e
    split at e <;> cases e
  · rw [List.getElem?_set_ne hij] at e
    rw [List.getElem?_set_ne hij]
    exact h.at_ j u e
/-- the suite's wishes: the exception x in slot i, at a -/
def tSu (T : TX) (cs i : Nat) (a : Addr) (cls : Value) (d : Option Addr) (h : D → En → CS → RT) : TS := fun D σ H => ∃ B μ s ρ x, SR B μ s H ∧ ER B μ s H σ ρ ∧ σ[i]? = some (some (.ref a)) ∧ ExV T (Av B μ s) H ⟨cs, x⟩ cls d ∧ FinT T Wx0 B μ s H D (h x ρ s)
def tXs {a b : Type} [Rp a b] (T : TX) (cs i : Nat) (ad : Addr) (cls : Value) (d : Option Addr) (f : D → En → CS → R a) : L2.St → Hp → (b → Hp → Prop) → Prop := fun σ H Q =>
  ∃ B μ s ρ x, SR B μ s H ∧ ER B μ s H σ ρ ∧ σ[i]? = some (some (.ref ad)) ∧ ExV T (Av B μ s) H ⟨cs, x⟩ cls d ∧ Fin T Wx0 B μ s H σ Q (f x ρ s)
theorem FinT.rst {T : TX} {Wx : WXc} {B : Addr → Prop} {μ : List Addr} {s : CS} {H : Hp} {D : Ends} {i : Nat} {r : RT} (q : FinT T Wx B μ s H D (rst i r)) :
    FinT T Wx0 B μ s H { nx := fun σ' H' => D.nx (σ'.set i none) H', rt := D.rt, bk := fun σ' H' => D.bk (σ'.set i none) H', ct := fun σ' H' => D.ct (σ'.set i none) H' } r := by
  cases r with
  | nx ρ t => exact fun σ' m h1 b c d => q _ m h1 b c (d.unset i none)
  | rt w t => exact q
  | bk ρ t => exact fun σ' m h1 b c d => q _ m h1 b c (d.unset i none)
  | ct ρ t => exact fun σ' m h1 b c d => q _ m h1 b c (d.unset i none)
  | exc e ρ t => exact q.elim
  | bad => exact q
theorem ds_try {X : Cx} {T : TX} {Wx : WXc} {x n : Str} {i cs : Nat} {C : Addr} {fld : Str} {body suite : List Stmt} {b₀ : Stmt} {np pos pos' : Pos} {g : En → CS → RT} {h : D → En → CS → RT}
    (hT : T cs = (C, fld)) (hx : PySem.W.exmOne X.K (.ref C) (.ref C) = some true)
    (hs : X.stack = X.env :: X.outer) (hf : X.env.frame = some X.env.locals) (hN : X.N.Nodup) (hi : X.N[i]? = some n) (hln : X.env.kindOf n = some .local) (hc : Names X x (.ref C)) (tk : Takes X Wx)
    (hb : ∀ (W : WXc) (pn : List (Addr × Obj)) (xe : Value → Shared → Prop), Takes (X.tr pn xe) W → PassesOwn (model X.prog X.w) X.A X.env xe → DSs (X.tr pn xe) T W body g)
    (hsu : ∀ (a : Addr) (oe : Obj) (cls : Value) (d : Option Addr) (pn : List (Addr × Obj)), Zc cls d oe → (∃ vs, oe.data = .fields vs) → PSs (X.suite a ((a, oe) :: pn)) (b₀ :: suite) (tSu T cs i a cls d h)) :
    DS X T Wx (.Try body [.ExceptHandler (some (.Name x np)) (some n) (b₀ :: suite) pos'] [] [] pos) (gTry i cs g h) :=
  PS_imp (ps_try_as (tb := fun W => tT T W g) (ts := fun a cls d => tSu T cs i a cls d h) (Wout := Wx) hs hf hN hi hln hc tk hb hsu) fun D σ H ⟨B, μ, s, ρ, r, e, q⟩ => by
    refine ⟨B, μ, s, ρ, r, e, ?_⟩
    unfold gTry at q
    cases z : g ρ s with
    | exc x ρ1 s1 =>
      simp only [z] at q
      split at q
      · rename_i hcl
        intro σ1 μ1 H1 c d st r1 e1 ex
        refine ⟨true, ?_, fun _ a ha => ⟨B, μ1, s1, ρ1.set i none, x.arg, r1, e1.unset i _, ?_, hcl.1 ▸ ex, (FinT.stp st q).rst⟩, fun z => Bool.noConfusion z⟩
        · rw [ex.1, hcl.1, hT]
          exact hx
        · exact List.getElem?_set_self (by rw [e1.len]; exact hcl.2)
      · exact q.elim
    | nx ρ1 s1 => simp only [z] at q; exact q
    | rt w s1 => simp only [z] at q; exact q
    | bk w s1 => simp only [z] at q; exact q
    | ct w s1 => simp only [z] at q; exact q
    | bad => simp only [z] at q; exact q
/-! the suite -/
theorem ExV.stp {T : TX} {B : Addr → Prop} {μ μ' : List Addr} {s s' : CS} {H H' : Hp} {e : Exn} {c : Value} {d : Option Addr} (r : SR B μ s H) (st : Stp μ s H μ' s' H') (h : ExV T (Av B μ s) H e c d) : ExV T (Av B μ' s') H' e c d := by
  obtain ⟨h1, dd, v, hd, hx, f⟩ := h
  refine ⟨h1, dd, v, hd, st.keep dd _ hx fun ⟨n, cl, e1, e2, ne⟩ => ?_, f.kp st.kp⟩
  have q := r.cell n dd cl e1 e2
  cases cl with
  | dead => exact ne rfl
  | lst ds =>
    obtain ⟨xs, e, _⟩ := q
    rw [hx] at e
    cases e
  | dct ds =>
    rcases q with ⟨xs, e, _⟩ | ⟨ks, t, _, e, _⟩
    · rw [hx] at e
      unfold DObj at e
      cases e
    · rw [hx] at e
      cases e
  | dcr ds =>
    obtain ⟨es, e, _⟩ := q
    rw [hx] at e
    unfold DObj at e
    cases e
section
variable {a b c d : Type} [Rp a b] [Rp c d] {T : TX} {B : Addr → Prop} {μ μ' : List Addr} {s s' : CS} {H H' : Hp} {σ : L2.St} {ρ : En} {Qc : d → Hp → Prop} {cs i : Nat} {ad : Addr} {cls : Value} {dx : Option Addr}
theorem tX_bind {x : D} {f : D → En → CS → R a} {g : a → CS → R c} {k : b → Hp → Prop} (r : SR B μ s H) (e : ER B μ s H σ ρ) (hσ : σ[i]? = some (some (.ref ad))) (hx : ExV T (Av B μ s) H ⟨cs, x⟩ cls dx) (q : Fin T Wx0 B μ s H σ Qc ((f x ρ s).bind g))
    (h : ∀ w s1 v μ1 H1, Stp μ s H μ1 s1 H1 → SR B μ1 s1 H1 → ER B μ1 s1 H1 σ ρ → ExV T (Av B μ1 s1) H1 ⟨cs, x⟩ cls dx → Rp.rel B μ1 s1 H1 v w → Fin T Wx0 B μ1 s1 H1 σ Qc (g w s1) → k v H1) : tXs T cs i ad cls dx f σ H k := by
  refine ⟨B, μ, s, ρ, x, r, e, hσ, hx, ?_⟩
  cases z : f x ρ s with
  | ok w s1 =>
    rw [z] at q
    intro v μ1 H1 st1 r1 rel
    exact h w s1 v μ1 H1 st1 r1 (e.stp st1) (hx.stp r st1) rel (Fin.stp st1 q)
  | exc y s1 => rw [z] at q; exact q
  | bad => rw [z] at q; exact q
theorem tX_bindT {x : D} {f : D → En → CS → R a} {g : a → CS → RT} {k : b → Hp → Prop} {D : Ends} (r : SR B μ s H) (e : ER B μ s H σ ρ) (hσ : σ[i]? = some (some (.ref ad))) (hx : ExV T (Av B μ s) H ⟨cs, x⟩ cls dx) (q : FinT T Wx0 B μ s H D ((f x ρ s).toT ρ g))
    (h : ∀ w s1 v μ1 H1, Stp μ s H μ1 s1 H1 → SR B μ1 s1 H1 → ER B μ1 s1 H1 σ ρ → ExV T (Av B μ1 s1) H1 ⟨cs, x⟩ cls dx → Rp.rel B μ1 s1 H1 v w → FinT T Wx0 B μ1 s1 H1 D (g w s1) → k v H1) : tXs T cs i ad cls dx f σ H k := by
  refine ⟨B, μ, s, ρ, x, r, e, hσ, hx, ?_⟩
  cases z : f x ρ s with
  | ok w s1 =>
    rw [z] at q
    intro v μ1 H1 st1 r1 rel
    exact h w s1 v μ1 H1 st1 r1 (e.stp st1) (hx.stp r st1) rel (FinT.stp st1 q)
  | exc y s1 => rw [z] at q; exact fun μ1 H1 c d st r1 ex => q σ μ1 H1 c d st r1 (e.stp st) ex
  | bad => rw [z] at q; exact q
end
section
variable {X : Cx} [HK X] {T : TX} {cs i : Nat} {ad : Addr} {cls : Value} {dx : Option Addr} {e : Expr} {es : List Expr} {f : D → En → CS → R W} {fs : D → En → CS → R (List W)} {pos : Pos}
abbrev XE1 (X : Cx) (T : TX) (cs i : Nat) (ad : Addr) (cls : Value) (dx : Option Addr) (e : Expr) (f : D → En → CS → R W) : Prop := PE X e (tXs T cs i ad cls dx f)
abbrev XA1 (X : Cx) (T : TX) (cs i : Nat) (ad : Addr) (cls : Value) (dx : Option Addr) (e : List Expr) (f : D → En → CS → R (List W)) : Prop := PA X e (tXs T cs i ad cls dx f)
theorem xe_of {g : En → CS → R W} (h : DE X T Wx0 e g) : XE1 X T cs i ad cls dx e (fun _ => g) := PE_imp h fun σ H Q ⟨B, μ, s, ρ, x, r, e, _, _, q⟩ => ⟨B, μ, s, ρ, r, e, q⟩
/-- e.f, e the slot i -/
def tBy (fld : Str) (C : Addr) (a : Addr) (cls : Value) (d : Option Addr) (te : TE) : TE := fun σ H Q => te σ H fun x H1 => x = .ref a ∧ cls = .ref C ∧ ∃ (dd : Addr) (v : V), d = some dd ∧ H1 dd = some (.xd [(fld, v)]) ∧ Q v H1
def fX (x : D) (_ : En) (s : CS) : R W := .ok (.d x) s
theorem xe_by {C : Addr} {fld : Str} (hT : T cs = (C, fld)) (h : PE X e (tBy fld C ad cls dx (tVar i))) : XE1 X T cs i ad cls dx e fX := PE_imp h fun σ H Q ⟨B, μ, s, ρ, x, r, e, hσ, hx, q⟩ => by
  obtain ⟨h1, dd, v, hd, hy, f⟩ := hx
  simp only [hT] at h1 hy
  exact ⟨.ref ad, hσ, rfl, h1, dd, v, hd, hy, q v μ H Stp.refl r f⟩
theorem xa_nil : XA1 X T cs i ad cls dx [] (fun _ => fNil) := PA_imp pa_nil fun σ H Q ⟨B, μ, s, ρ, x, r, e, _, _, q⟩ => Fin.here (a := List W) (w := []) q r RWs.nil
theorem xa_cons (h1 : XE1 X T cs i ad cls dx e f) (h2 : XA1 X T cs i ad cls dx es fs) (he : starEach (e :: es) X.env = (false, eval e X.env) :: starEach es X.env := by rfl) : XA1 X T cs i ad cls dx (e :: es) (fun x => fCons (f x) (fs x)) :=
  PA_imp (pa_cons h1 h2 he) fun σ H Q ⟨B, μ, s, ρ, x, r, e, hσ, hx, q⟩ => tX_bind r e hσ hx q fun w s1 v μ1 H1 _ r1 e1 x1 rel1 q1 => tX_bind r1 e1 hσ x1 q1 fun w2 s2 v2 μ2 H2 st2 r2 _ _ rel2 q2 =>
    Fin.here (a := List W) q2 r2 (RWs.cons (Rp.stp (a := W) (b := V) st2 rel1) rel2)
theorem xe_lst (h : XA1 X T cs i ad cls dx es fs) : XE1 X T cs i ad cls dx (.List es pos) (fun x => fN lstD (fs x)) := PE_imp (pe_lst h) fun σ H Q ⟨B, μ, s, ρ, x, r, e, hσ, hx, q⟩ =>
  tX_bind r e hσ hx q fun w s1 v μ1 H1 _ r1 e1 x1 rel1 q1 => by
    obtain ⟨A, ds, z, bt, fz, e, q⟩ := liftN_use r1 rel1 q1
    unfold lstD at e
    split at e
    · rename_i hl
      cases e
      exact ⟨by rw [fz.len, line_eq]; exact hl, fun p hp => q _ _ (same_upd hp) (Fz.newL bt hp fz)⟩
    · cases e
theorem xs_ret (h : XE1 X T cs i ad cls dx e f) : PSs X [.Return (some e) pos] (tSu T cs i ad cls dx (fun x => gRet (f x))) := PSs_imp (pss_one (ps_ret h)) fun D σ H ⟨B, μ, s, ρ, x, r, e, hσ, hx, q⟩ =>
  tX_bindT r e hσ hx q fun w s1 v μ1 H1 _ r1 e1 x1 rel1 q1 => q1 v μ1 H1 Stp.refl r1 rel1
end
end
end DL
namespace DL
open PySem PySem.Spec PyProof.Rows L2
/-! ### defs run where nothing is being shown -/
/-- a def's promise, wherever no text of an object is under way -/
structure FnG (P : Program) (w : World) (K : PySem.W.Frag) (mg : Str → Option Value) (base : Heap) (k : Nat) (f : Addr) (fd : FuncData) (ps : List Str) (sp : Sp) : Prop where
  len : ∀ vs H Q E, sp vs H Q E → vs.length = ps.length
  run : ∀ (A : Around) (outer : List Env) (s : Shared) (H : Hp) (args : Args) (us : List Value) (vs : List V) (Q : VK) (E : XK), A.guards = some [] → Room k A → Env0 P w K mg base A outer s H →
    BindsTo s fd args (ps.zip us) → Vals vs us → sp vs H Q E → codeAny (model P w) A (.call (.ref f) args) (CR (L2.CX P w) outer P w H s Q E) s
theorem FnG.imp {P : Program} {w : World} {K : PySem.W.Frag} {mg : Str → Option Value} {base : Heap} {k : Nat} {f : Addr} {fd : FuncData} {ps : List Str} {sp sp' : Sp} (F : FnG P w K mg base k f fd ps sp)
    (h : ∀ vs H Q E, sp' vs H Q E → sp vs H Q E) : FnG P w K mg base k f fd ps sp' where
  len := fun vs H Q E q => F.len vs H Q E (h _ _ _ _ q)
  run := fun A outer s H args us vs Q E g hr he hb hv hs => F.run A outer s H args us vs Q E g hr he hb hv (h _ _ _ _ hs)
theorem name_kind {scope : Scope} {N ps : List Str} (S : FnScope N ps scope) (n0 : Nat) (us : List Value) : ∀ y ∈ ps.zip us, scope.names.lookup y.1 = some .local ∨ (scope.names.lookup y.1 = some .cell ∧ ((cellsFrom n0 scope.names []).lookup y.1).isSome = true) := by
  rintro ⟨n, v⟩ hy
  cases S.par n (List.of_mem_zip hy).1 with
  | inl q => exact .inl q
  | inr q => exact .inr ⟨q, PySem.W.cellsFrom_some _ _ _ (.inl q)⟩
theorem call_end {P : Program} {w : World} {K : PySem.W.Frag} {mg : Str → Option Value} {base : Heap} {N : List Str} {qual : Str} {scope : Scope} {f : Addr} {cd : Value} {A : Around} {outer : List Env} {s s' : Shared} {H : Hp} {Q : VK} {E : XK} {fl : Flow}
    (h : SP (cxOf (L2.CX P w) P w K mg base N qual scope f cd A outer s H E) [] { nx := fun _ H' => Q .non H', rt := Q } fl s') : match fl with
      | .ret u => CE outer P w H s Q u s'
      | .next => CE outer P w H s Q .none s'
      | _ => False := by
  cases fl with
  | ret u =>
    obtain ⟨v, σ', H', J, rv, q⟩ := h
    exact ⟨v, H', J.os, J.bare, J.base, J.hok, rv, q⟩
  | next =>
    obtain ⟨σ', H', J, q⟩ := h
    exact ⟨.non, H', J.os, J.bare, J.base, J.hok, rfl, q⟩
  | brk => obtain ⟨_, _, _, q⟩ := h; exact q
  | cont => obtain ⟨_, _, _, q⟩ := h; exact q
section
variable {P : Program} {w : World} {K : PySem.W.Frag} {mg : Str → Option Value} {base : Heap} {x qual : Str} {st : Stmt} {f : Addr} {fd : FuncData} {N ps : List Str} {k : Nat}
theorem fnG_of {sp : Sp} (F : Fun K x qual st f fd) (S : FnScope N ps (defScope st)) (len : ∀ vs H Q E, sp vs H Q E → vs.length = ps.length)
    (hb : ∀ (cdv : Value) (A : Around) (outer : List Env) (s : Shared) (H : Hp) (vs : List V) (Q : VK) (E : XK), A.guards = some [] → Room k (A.deeper (envOfC qual (defScope st) s.heap.objs.size f cdv)) → sp vs H Q E →
      ∃ t, PSs (cxOf (L2.CX P w) P w K mg base N qual (defScope st) f cdv A outer s H E) (defBody st) t ∧ t { nx := fun _ H' => Q .non H', rt := Q } (start N vs) H) : FnG P w K mg base (k + 1) f fd ps sp := by
  obtain ⟨oc, od, kV, doc, pm, an, cdv, ct, osl, rfl, lk, hcd⟩ := F.ex
  refine ⟨len, fun A outer s H args us vs Q E g hr e0 bd r hsp => ?_⟩
  have up : ∀ b o, base.get? b = some o → s.heap.get? b = some o := fun b o e => (e0.bs b o e).1
  have KX : K.In s.heap := e0.mod.kin.keeps up
  refine codeAny_call_function hr.depth (KX _ _ lk) rfl S.co S.gen rfl (PySem.W.codeRec_of KX hcd) (bd _ _ _ _ (wpAny_newFunctionEnv_cells S.kind (name_kind S _ us) fun env he s1 y => ?_))
  subst he
  refine ⟨(e0.mod.nolimit.keeps up).keeps y.toInCall.keep, codeAny_func ?_⟩
  obtain ⟨t, ht, hq⟩ := hb cdv A outer s H vs Q E g (hr.deeper _) hsp
  refine wpAny_mono (ht.run [] s1 (start N vs) H _ (inv_start S hr.hd e0 (len _ _ _ _ hsp) r y) hq) (fun fl s' hs => ?_) fun e s' hs => hs
  have z := call_end hs
  cases fl with
  | ret u => exact z
  | next => exact z
  | brk => exact z.elim
  | cont => exact z.elim
end
section
variable {X : Cx} {Wx : WXc} {f : Addr} {fd : FuncData} {ps : List Str} {k : Nat} {sp : Sp} {x : Str} {p pos : Pos} {e : Expr} {es : List Expr} {t : TA}
theorem pe_callG (hgd : X.A.guards = some []) (tk : Takes X Wx) (F : FnG X.prog X.w X.K X.mg X.base k f fd ps sp) (hr : Room k X.A) (hg : Gl X x) (hm : X.mg x = some (.ref f)) (hk : PySem.W.keepIn X.K (.ref f) = true) (hb : Binds X.K fd ps [])
    (ha : PA X (e :: es) t) (hdb : (x == ("__debug__" : Str)) = false := by decide) (he : starEach (e :: es) X.env = (false, eval e X.env) :: starEach es X.env := by rfl) (hpl : (backTo pos (starEach es X.env)).any (·.1) = false := by rfl) :
    PE X (.Call (.Name x p) (e :: es) [] pos) (tCallS sp (WE Wx) t) where
  run := fun pins s σ H Q I h => by
    refine wpAny_Call_Name_kw (ld_glob I hg hm (PySem.W.callWith_K (h₀ := X.base) I.ok.mod.kin hk (thn (ha.run pos pins s σ H _ I h) fun us s1 z => ?_) he hpl) hdb)
    obtain ⟨vs, H1, I1, r, q⟩ := z
    have hl : us.length = ps.length := by rw [← r.length]; exact F.len _ _ _ _ q
    have bd := hb s1 us I1.kIn (by rw [List.append_nil]; exact hl)
    rw [List.append_nil] at bd
    refine ⟨I1.kIn, wpAny_call (codeAny_mono (F.run X.A X.stack s1 H1 ⟨us, []⟩ us vs Q (WE Wx σ) hgd hr I1.env0 bd r q) fun z s2 hz => ?_)⟩
    cases z with
    | error u => exact passAt tk σ pins H1 s1 u s2 I1 hz
    | ok fl =>
      cases fl with
      | ret u => exact I1.after hz
      | next => exact hz.elim
      | brk => exact hz.elim
      | cont => exact hz.elim
end
section
variable [KFrag]
section
variable {P : Program} {w : World} {K : PySem.W.Frag} {mg : Str → Option Value} {base : Heap} {x qual : Str} {st : Stmt} {f : Addr} {fd : FuncData} {N ps : List Str} {k : Nat} {T : TX} {g : En → CS → RT}
theorem fnG {m n : Nat} (F : Fun K x qual st f fd) (S : FnScope N ps (defScope st)) (hm : ps.length = m) (hn : N.length = n)
    (hb : ∀ (cdv : Value) (A : Around) (outer : List Env) (s : Shared) (H : Hp) (E : XK), (A.deeper (envOfC qual (defScope st) s.heap.objs.size f cdv)).guards = some [] → Room k (A.deeper (envOfC qual (defScope st) s.heap.objs.size f cdv)) →
      DSs (cxOf (L2.CX P w) P w K mg base N qual (defScope st) f cdv A outer s H E) T (fun c d _ H' => E c d H') (defBody st) g) :
    FnG P w K mg base (k + 1) f fd ps (spD T m (fnR m n g)) := by
  subst hm
  subst hn
  refine fnG_of F S spD_len fun cdv A outer s H vs Q E gd hr h => ?_
  obtain ⟨_, B, μ, t, ws, σ, r, rw_, q⟩ := h
  exact ⟨_, hb cdv A outer s H E gd hr, fn_run (Wx := fun c d _ H' => E c d H') (E := E) (fun _ _ _ _ z => z) r rw_ q⟩
end
section
variable {X : Cx} [HK X] {T : TX} {Wx : WXc} {f : Addr} {fd : FuncData} {ps : List Str} {k m : Nat} {h : List W → CS → R W} {x : Str} {p pos : Pos} {e : Expr} {es : List Expr} {fs : En → CS → R (List W)}
theorem Fin.wx {a b : Type} [Rp a b] {T : TX} {Wx Wy : WXc} {B : Addr → Prop} {μ : List Addr} {s : CS} {H : Hp} {σ σ' : L2.St} {Q : b → Hp → Prop} {r : R a} (k : ∀ c d H, Wx c d σ H → Wy c d σ' H) (q : Fin T Wx B μ s H σ Q r) : Fin T Wy B μ s H σ' Q r := by
  cases r with
  | ok w s1 => exact q
  | exc e s1 => exact fun μ' H' c d a b z => k _ _ _ (q μ' H' c d a b z)
  | bad => exact q
/-- a call whose def may change cells; it lets nothing out -/
theorem de_callG (hgd : X.A.guards = some []) (tk : Takes X Wx) (F : FnG X.prog X.w X.K X.mg X.base k f fd ps (spD T m h)) (hr : Room k X.A) (hg : Gl X x) (hm : X.mg x = some (.ref f)) (hk : PySem.W.keepIn X.K (.ref f) = true) (hb : Binds X.K fd ps [])
    (ha : DA X T Wx (e :: es) fs) (hdb : (x == ("__debug__" : Str)) = false := by decide) (he : starEach (e :: es) X.env = (false, eval e X.env) :: starEach es X.env := by rfl) (hpl : (backTo pos (starEach es X.env)).any (·.1) = false := by rfl) :
    DE X T Wx (.Call (.Name x p) (e :: es) [] pos) (fCall m h fs) := PE_imp (pe_callG hgd tk F hr hg hm hk hb ha hdb he hpl) fun σ H Q ⟨B, μ, s, ρ, r, e, q⟩ =>
  tD_bind r e q fun w s1 v μ1 H1 st1 r1 e1 rel1 q1 => by
    have rel1 : RWs B μ1 s1 H1 v w := rel1
    split at q1
    · rename_i hl
      exact ⟨rel1.len.trans hl, B, μ1, s1, w, σ, r1, rel1, noX_un q1⟩
    · exact q1.elim
/-- a call with data alone -/
theorem de_callPG (hgd : X.A.guards = some []) (tk : Takes X Wx) (F : FnG X.prog X.w X.K X.mg X.base k f fd ps (spD T m h)) (hr : Room k X.A) (hg : Gl X x) (hm : X.mg x = some (.ref f)) (hk : PySem.W.keepIn X.K (.ref f) = true) (hb : Binds X.K fd ps [])
    (ha : DA X T Wx (e :: es) fs) (hdb : (x == ("__debug__" : Str)) = false := by decide) (he : starEach (e :: es) X.env = (false, eval e X.env) :: starEach es X.env := by rfl) (hpl : (backTo pos (starEach es X.env)).any (·.1) = false := by rfl) :
    DE X T Wx (.Call (.Name x p) (e :: es) [] pos) (fCallP m (noX h) fs) := PE_imp (pe_callG hgd tk F hr hg hm hk hb ha hdb he hpl) fun σ H Q ⟨B, μ, s, ρ, r, e, q⟩ =>
  tD_bind r e q fun w s1 v μ1 H1 st1 r1 e1 rel1 q1 => by
    have rel1 : RWs B μ1 s1 H1 v w := rel1
    split at q1
    · rename_i hl
      split at q1
      · rename_i ds hd
        exact ⟨rel1.len.trans hl, Av B μ1 s1, [], [], w, σ, r1.pure, allD_rws (fun a z => z.elim id fun z => absurd z lv_nil) hd rel1, noX_un (pure_fin (Wy := fun _ _ _ _ => False) (σ' := σ) r1 q1)⟩
      · exact q1.elim
    · exact q1.elim
/-- .. that may raise -/
theorem de_callXG (hgd : X.A.guards = some []) (tk : Takes X Wx) (F : FnG X.prog X.w X.K X.mg X.base k f fd ps (spD T m h)) (hr : Room k X.A) (hg : Gl X x) (hm : X.mg x = some (.ref f)) (hk : PySem.W.keepIn X.K (.ref f) = true) (hb : Binds X.K fd ps [])
    (ha : DA X T Wx (e :: es) fs) (hdb : (x == ("__debug__" : Str)) = false := by decide) (he : starEach (e :: es) X.env = (false, eval e X.env) :: starEach es X.env := by rfl) (hpl : (backTo pos (starEach es X.env)).any (·.1) = false := by rfl) :
    DE X T Wx (.Call (.Name x p) (e :: es) [] pos) (fCallX m h fs) := PE_imp (pe_callG hgd tk F hr hg hm hk hb ha hdb he hpl) fun σ H Q ⟨B, μ, s, ρ, r, e, q⟩ =>
  tD_bind r e q fun w s1 v μ1 H1 st1 r1 e1 rel1 q1 => by
    have rel1 : RWs B μ1 s1 H1 v w := rel1
    split at q1
    · rename_i hl
      split at q1
      · rename_i ds hd
        exact ⟨rel1.len.trans hl, Av B μ1 s1, [], [], w, σ, r1.pure, allD_rws (fun a z => z.elim id fun z => absurd z lv_nil) hd rel1, pureX_fin r1 q1⟩
      · exact q1.elim
    · exact q1.elim
end
end
/-! ### the law, called behind the top -/
section
variable {P : Program} {w : World} {K : PySem.W.Frag} {mg mb : Str → Option Value} {k : Nat} {fa a : Addr} {fd : FuncData} {x : Str} {s : Shared} {ns : List Int} {ob : Obj}
/-- nothing is tracked but the object at a, which is no dict; the ground hides it -/
theorem env_law {H : Hp} (KX : K.In s.heap) (hns : s.heap.Ns mainGlobals mg) (hb : s.heap.Ns builtinsNs mb) (hbb : ∀ x : Str, x ≠ "__name__" → mb x = bootBuiltins x) (hlim : s.heap.NoLimit) (hg : s.gens = #[]) (ha : s.heap.get? a = some ob) (hd : ∀ es n, ob.data ≠ .dict es n)
    (hok : HOk P w H s.heap) (hA : ∀ b, H b ≠ none → b = a) (hK : H a ≠ none → K.lookup a = none) : K.In (hidT s.heap H) ∧ (hidT s.heap H).Ns mainGlobals mg ∧ Env0 P w K mg (hidT s.heap H) callerA [] s H := by
  have free : ∀ {b : Addr} {o : Obj} {es : Array DictEntry} {n : Nat}, s.heap.get? b = some o → o.data = .dict es n → H b = none := by
    intro b o es n e q
    cases z : H b with
    | none => rfl
    | some u =>
      have y := hA b (by rw [z]; simp)
      subst y
      rw [ha] at e
      cases e
      exact absurd q (hd es n)
  have ns' : ∀ {b : Addr} {m : Str → Option Value}, s.heap.Ns b m → (hidT s.heap H).Ns b m := by
    rintro b m ⟨o, es, n, e, q, r⟩
    exact ⟨o, es, n, hidT_get e (free e q), q, r⟩
  have kin : K.In (hidT s.heap H) := by
    intro b o e
    refine hidT_get (KX b o e) ?_
    cases z : H b with
    | none => rfl
    | some u =>
      have y := hA b (by rw [z]; simp)
      subst y
      rw [hK (by rw [z]; simp)] at e
      cases e
  refine ⟨kin, ns' hns, ⟨rfl, ⟨kin, ns' hns, ⟨mb, ns' hb, hbb⟩, ?_⟩, fun b o e => of_hidT e, Nat.le_of_eq (hidT_size _ _), trivial, ?_, hok, .of_eq hg⟩⟩
  · obtain ⟨mc, h1, h2⟩ := hlim
    exact ⟨mc, ns' h1, h2⟩
  · intro b hb
    cases hb
theorem law_endG {H : Hp} {r : Result} {s' : Shared} (hO : Only H) (hok : HOk P w H s.heap) (h : CR (L2.CX P w) [] P w H s (fun v _ => v = .bl true) (fun _ _ _ => False) r s') :
    r = .ok (.ret (.bool true)) ∧ PySem.OldK s.heap s'.heap ∧ s'.os = s.os ∧ AllBare s'.gens := by
  cases r with
  | error e =>
    obtain ⟨_, _, _, _, _, _, _, _, _, _, _, _, z⟩ := h
    exact z.elim
  | ok fl =>
    cases fl with
    | next => exact h.elim
    | brk => exact h.elim
    | cont => exact h.elim
    | ret u =>
      obtain ⟨v, H', os, bare, un, hok', rv, rfl⟩ := h
      cases rv
      refine ⟨rfl, PySem.OldK.of_keep fun b o e => ?_, os, bare⟩
      cases q : H b with
      | none => exact un.keep b o e q (fun z => by cases z) (by simp)
      | some v =>
        rcases hO b with z | ⟨oo, xs, z⟩
        · rw [q] at z
          cases z
        · have e1 := (hok b _ z).1
          have e2 := (hok' b _ (un.frzs b oo _ z)).1
          rw [e] at e1
          cases e1
          exact e2
theorem law_callG {sp : Sp} {vs : List Value} (KX : K.In s.heap) (hns : s.heap.Ns mainGlobals mg) (hb : s.heap.Ns builtinsNs mb) (hbb : ∀ x : Str, x ≠ "__name__" → mb x = bootBuiltins x) (hlim : s.heap.NoLimit) (hg : s.gens = #[])
    (ha : s.heap.get? a = some { cls := .type "list", data := .seq vs.toArray }) (hi : IntsAre vs ns) (hl : ns.length ≤ sizeLine) (hr : Room k callerA)
    (F : ∀ base : Heap, K.In base → base.Ns mainGlobals mg → FnG P w K mg base k fa fd [x] sp) (bd : ∀ (s : Shared) (u : Value), BindsTo s fd ⟨[u], []⟩ [(x, u)])
    (hsp : ∀ H : Hp, Only H → SqL K H a (ns.map V.int) → sp [.ref a] H (fun v _ => v = .bl true) fun _ _ _ => False) :
    codeAny (model P w) callerA (.call (.ref fa) ⟨[.ref a], []⟩) (fun r s' => r = .ok (.ret (.bool true)) ∧ PySem.OldK s.heap s'.heap ∧ s'.os = s.os ∧ AllBare s'.gens) s := by
  have go : ∀ H : Hp, Only H → SqL K H a (ns.map V.int) → HOk P w H s.heap → (∀ b, H b ≠ none → b = a) → (H a ≠ none → K.lookup a = none) → codeAny (model P w) callerA (.call (.ref fa) ⟨[.ref a], []⟩) (fun r s' => r = .ok (.ret (.bool true)) ∧ PySem.OldK s.heap s'.heap ∧ s'.os = s.os ∧ AllBare s'.gens) s := by
    intro H hO hS hok hA hK
    obtain ⟨e1, e2, e3⟩ := env_law KX hns hb hbb hlim hg ha (fun es n z => by cases z) hok hA hK
    exact codeAny_mono ((F _ e1 e2).run callerA [] s H ⟨[.ref a], []⟩ [.ref a] [.ref a] _ _ rfl hr e3 (bd s (.ref a)) (.cons rfl .nil) (hsp H hO hS)) fun r s' h => law_endG hO hok h
  have rv := vals_ints hi
  have lv := hi.length
  cases hk : K.lookup a with
  | some o =>
    have e := KX a o hk
    rw [ha] at e
    cases e
    exact go (fun _ => none) (fun _ => .inl rfl) (.inr ⟨_, vs.toArray, _, hk, rfl, rfl, rfl, by rw [List.size_toArray, lv]; exact hl, by simpa using rv⟩) (fun b u z => by cases z) (fun b z => absurd rfl z) fun z => absurd rfl z
  | none =>
    have at_ : ∀ b u, (fun b => if b = a then some (HO.frz { cls := .type "list", data := .seq vs.toArray } (.lst (ns.map V.int))) else none) b = some u → b = a ∧ u = HO.frz { cls := .type "list", data := .seq vs.toArray } (.lst (ns.map V.int)) := by
      intro b u z
      by_cases hb : b = a
      · exact ⟨hb, (Option.some.inj ((if_pos hb).symm.trans z)).symm⟩
      · cases (if_neg hb).symm.trans z
    refine go (fun b => if b = a then some (.frz { cls := .type "list", data := .seq vs.toArray } (.lst (ns.map V.int))) else none) (fun b => ?_) (.inl (.inr ⟨{ cls := .type "list", data := .seq vs.toArray }, if_pos rfl⟩)) (fun b u z => ?_) (fun b z => ?_) fun _ => hk
    · by_cases hb : b = a
      · exact .inr ⟨_, _, if_pos hb⟩
      · exact .inl (if_neg hb)
    · obtain ⟨e1, e2⟩ := at_ b u z
      subst e1
      subst e2
      exact ⟨ha, by rw [List.length_map]; exact hl, vs, _, rv, ha⟩
    · by_cases hb : b = a
      · exact hb
      · exact absurd (if_neg hb) z
end
theorem walkG {l : PySem.W.OpenLaw} {n k : Nat} {q : Program} {loose : List Str} {XP : (Str → Option Value) → Heap → Prop} {YP : World → Heap → Prop} {d : DefRec} {K : Params → PySem.W.Frag} {sp : PySem.W.Frag → Sp} {x : Str}
    (hn : l.most = some n) (hn2 : n ≤ sizeLine) (hdf : d.params.defaults = []) (hr : Room k callerA) (hY : ∀ (w : World) (h : Heap), YP w h → (K w.params).In h)
    (F : ∀ (w : World) (mg : Str → Option Value) (fa : Addr) (h : Heap), (K w.params).In h → h.Ns mainGlobals mg → mg d.name = some (.ref fa) →
      ∃ fd : FuncData, (∀ (s : Shared) (u : Value), BindsTo s fd ⟨[u], []⟩ [(x, u)]) ∧ ∀ base : Heap, (K w.params).In base → base.Ns mainGlobals mg → FnG l.prog w (K w.params) mg base k fa fd [x] (sp (K w.params)))
    (hsp : ∀ (K : PySem.W.Frag) (H : Hp) (a : Addr) (ns : List Int), ns.length ≤ n → Only H → SqL K H a (ns.map V.int) → sp K [.ref a] H (fun v _ => v = .bl true) fun _ _ _ => False) :
    PySem.W.WalkO q loose XP YP l.row.toRowW d [] (fun f vs => PySem.call f vs) := by
  refine Att.attach_call hn hdf fun w s₀ s₁ mg mb fa o pm cd doc a vs ns G Y ho hd hcd hmg hobj hints hlen hg => ?_
  obtain ⟨fd, hb, hF⟩ := F w mg fa _ (hY w _ Y) G.T.g hmg
  exact law_callG (hY w _ Y) G.T.g G.T.b G.T.builtins G.T.nolimit hg hobj hints (Nat.le_trans hlen hn2) hr hF hb fun H hO hS => hsp _ H a ns hlen hO hS
section
variable [KFrag] {X : Cx} [HK X]
/-- repr(x) of data without dicts -/
def reprOk (d : D) : Bool := d.showable && !d.hasDict && decide (d.shown.length ≤ line) && decide (d.depth ≤ 60)
def reprD : List D → Option D
  | [.str x] => if (reprText x).length ≤ line then some (.str (reprText x)) else none
  | [.int i] => if i.natAbs.log2 < 1920 then some (.str (toString i)) else none
  | [.bool b] => some (.str (if b then "True" else "False"))
  | [.none] => some (.str "None")
  | [.list ds] => if reprOk (.list ds) = true then some (.str (PyData.shown (.list ds))) else none
  | [.tuple ds] => if reprOk (.tuple ds) = true then some (.str (PyData.shown (.tuple ds))) else none
  | _ => none
theorem reprOk_of {d : D} (h : reprOk d = true) : d.showable = true ∧ d.hasDict = false ∧ d.shown.length ≤ line ∧ d.depth ≤ 60 := by
  unfold reprOk at h
  simp only [Bool.and_eq_true, Bool.not_eq_true', decide_eq_true_eq] at h
  exact ⟨h.1.1.1, h.1.1.2, h.1.2, h.2⟩
theorem repr_ref {pins : List (Addr × Obj)} {s : Shared} {σ : L2.St} {H : Hp} {Q : VK} {A : Addr → Prop} {a : Addr} {d : D} (hgd : X.A.guards = some []) (hu : X.A.units + 64 < cLine) (I : Inv X pins σ H s) (f : Fz H A (.ref a) d) (ok : reprOk d = true)
    (q : Q (.str d.shown) H) : wpAny (model X.prog X.w) X.A (call (.builtin "repr") [.ref a]) (EP X pins σ Q) X.xe s := by
  obtain ⟨as, rd⟩ := Dp.reads I d (.ref a) (.ref a) f.dp rfl
  obtain ⟨h1, h2, h3, h4⟩ := reprOk_of ok
  exact repr_of_reads' rd h1 (fun z => by rw [h2] at z; cases z) hgd (by omega) (fun _ _ e => e) (fun h' u tk hk => ⟨.str d.shown, H, I.kept (t' := tk) hk, ⟨u, rfl⟩, q⟩) (by rw [line_eq]; exact h3)
theorem dc_repr (hgd : X.A.guards = some []) (hu : X.A.units + 64 < cLine) : DCall X (.builtin "repr") reprD := by
  intro pins s σ H xs us Q I r h
  obtain ⟨A, ds, z, bt, fz, e, q⟩ := h
  cases fz with
  | nil => cases e
  | cons h1 t =>
    cases t with
    | cons _ _ => cases h1 <;> cases e
    | nil =>
      obtain ⟨u, rfl, ru⟩ := vals1 r
      cases h1 with
      | non => cases e; cases ru; exact PySem.P.repr_of_none ⟨.str _, H, I.tok _, ⟨_, rfl⟩, q _ _ (Same.refl _) (.str _)⟩
      | bl b => cases e; cases ru; exact PySem.P.repr_of_bool ⟨.str _, H, I.tok _, ⟨_, rfl⟩, q _ _ (Same.refl _) (.str _)⟩
      | int i =>
        obtain ⟨t, rfl⟩ := ru
        simp only [reprD] at e
        split at e
        · rename_i hi
          cases e
          exact PySem.P.repr_of_int hi ⟨.str _, H, I.tok _, ⟨_, rfl⟩, q _ _ (Same.refl _) (.str _)⟩
        · cases e
      | str x =>
        obtain ⟨t, rfl⟩ := ru
        simp only [reprD] at e
        split at e
        · rename_i hi
          cases e
          exact PySem.P.repr_of_str ⟨.str _, H, I.tok _, ⟨_, rfl⟩, q _ _ (Same.refl _) (.str _)⟩ (by rw [line_eq]; exact hi)
        · cases e
      | @lst a xs ds f1 f2 =>
        cases ru
        simp only [reprD] at e
        split at e
        · rename_i hi
          cases e
          exact repr_ref hgd hu I (.lst f1 f2) hi (q _ _ (Same.refl _) (.str _))
        · cases e
      | @tup a xs ds f1 f2 =>
        cases ru
        simp only [reprD] at e
        split at e
        · rename_i hi
          cases e
          exact repr_ref hgd hu I (.tup f1 f2) hi (q _ _ (Same.refl _) (.str _))
        · cases e
end
end DL
namespace DL
open PySem PySem.Spec PyProof.Rows L2
/-! ### zip(t, u, strict=True), tuples of one length -/
abbrev IsZipS (h : Heap) (z TI TO : Addr) (f0 : Value) : Prop :=
  h.get? z = some { cls := .type "zip", dict := none, data := .fields #[f0, .bool false, .bool true, .ref TI, .ref TO], slots := #[] }
section
variable {prog : Program} {w : World} {A : Around} {E : Value → Shared → Prop} {s : Shared}
theorem noe_item {it l : Addr} {i : Nat} {items : Array Value} {x : Value} {Q : Option Value → Shared → Prop} (hit : s.heap.IsTupleIter it l i) (hl : s.heap.IsTuple l items) (hx : items[i]? = some x)
    (hQ : ∀ h', h'.IsTupleIter it l (i + 1) → Heap.SameBut it s.heap h' → Q (some x) { s with heap := h' }) : wpAny (model prog w) A (Builtin.SmallTypes.nextOrEnd (.ref it)) Q E s := by
  unfold Builtin.SmallTypes.nextOrEnd
  exact wpAny_bind (wpAny_attempt (RZ.nextOf_tuple_item hit hl hx fun h' a b => wpAny_pure (hQ h' a b)))
theorem noe_end {it l : Addr} {i : Nat} {items : Array Value} {Q : Option Value → Shared → Prop} (hh : A.handled = none) (hit : s.heap.IsTupleIter it l i) (hl : s.heap.IsTuple l items) (hx : items[i]? = none)
    (hQ : ∀ h', Heap.ExtBut it s.heap h' → Q none { s with heap := h' }) : wpAny (model prog w) A (Builtin.SmallTypes.nextOrEnd (.ref it)) Q E s := by
  unfold Builtin.SmallTypes.nextOrEnd
  refine wpAny_bind (wpAny_attempt (RZ.nextOf_tuple_end hh hit hl hx fun h' e hk he => ?_))
  obtain ⟨o, ho, hc⟩ := he
  exact wpAny_bind (wpAny_isInstance (T := "StopIteration") (b := true) ⟨o, ho, hc⟩ isSubtype_stop (wpAny_pure (hQ h' hk)))
theorem zipS_item {z TI TO i1 i2 l1 l2 : Addr} {k : Nat} {xs ys : Array Value} {x y a b : Value} {Q : Value → Shared → Prop} (D : ZipApart z TI TO i1 i2 l1 l2)
    (hz : IsZipS s.heap z TI TO .none) (hTI : IsPair s.heap TI (.ref i1) (.ref i2)) (hTO : IsPair s.heap TO a b)
    (h1 : s.heap.IsTupleIter i1 l1 k) (h2 : s.heap.IsTupleIter i2 l2 k) (hl1 : s.heap.IsTuple l1 xs) (hl2 : s.heap.IsTuple l2 ys) (hx : xs[k]? = some x) (hy : ys[k]? = some y)
    (hQ : ∀ h', IsZipS h' z TI TO (rawInt s.heap.objs.size) → IsPair h' TO x y → h'.IsTupleIter i1 l1 (k + 1) → h'.IsTupleIter i2 l2 (k + 1) → IsPair h' s.heap.objs.size x y → h'.objs.size = s.heap.objs.size + 1 →
      (∀ c o, c ≠ z → c ≠ TO → c ≠ i1 → c ≠ i2 → s.heap.get? c = some o → h'.get? c = some o) → Q (.ref s.heap.objs.size) { s with heap := h' }) :
    wpAny (model prog w) A (Builtin.«zip.__next__» ⟨[.ref z], []⟩) (fun fin s' => ∃ v, fin = .done (.ret v) ∧ Q v s') E s := by
  show wpAny _ _ (field (.ref z) 2 >>= _) _ _ _
  refine wpAny_bind (wpAny_field hz rfl (x := .bool true) rfl ?_)
  show wpAny _ _ (field (.ref z) 3 >>= _) _ _ _
  refine wpAny_bind (wpAny_field hz rfl (x := .ref TI) rfl (wpAny_bind (wpAny_seqItems hTI rfl ?_)))
  show wpAny _ _ (Builtin.SmallTypes.ownedTupleIsFree (.ref z) >>= _) _ _ _
  refine wpAny_bind ?_
  unfold Builtin.SmallTypes.ownedTupleIsFree
  refine wpAny_bind (wpAny_field hz rfl (x := .none) rfl (wpAny_pure ?_))
  simp only [if_true]
  refine wpAny_bind (wpAny_rule (wpAny_bind (wpAny_field hz rfl (x := .ref TO) rfl (wpAny_bind (wpAny_setField_rec hz (by simp) fun g1 hz1 hs1 => ?_)))))
  replace hz1 : IsZipS g1 z TI TO .ellipsis := hz1
  refine wpAny_bind ?_
  simp only [List.zipIdx_cons, List.zipIdx_nil, List.forIn_cons, List.forIn_nil]
  refine wpAny_bind (wpAny_bind (wpAny_onRaise ?_))
  show wpAny _ _ (Builtin.SmallTypes.nextOrEnd (.ref i1)) _ _ _
  refine noe_item (h1.extBut hs1.extBut D.i1z) (hl1.extBut hs1.extBut D.l1z) hx fun g2 h12 hs2 => ?_
  have hT2 : IsPair g2 TO a b := hs2.extBut _ _ D.TOi1 (hs1.extBut _ _ D.TOz hTO)
  refine wpAny_bind (wpAny_seqItems hT2 rfl (wpAny_bind (wpAny_updateSeq_pair hT2 fun g3 hT3 hs3 => ?_)))
  replace hT3 : IsPair g3 TO x b := hT3
  refine wpAny_bind (wpAny_letGo (wpAny_pure ?_))
  refine wpAny_bind (wpAny_bind (wpAny_onRaise ?_))
  show wpAny _ _ (Builtin.SmallTypes.nextOrEnd (.ref i2)) _ _ _
  refine noe_item (((h2.extBut hs1.extBut D.i2z).extBut hs2.extBut D.i12.symm).extBut hs3.extBut D.TOi2.symm) (((hl2.extBut hs1.extBut D.l2z).extBut hs2.extBut D.l2i1).extBut hs3.extBut D.l2TO) hy fun g4 h24 hs4 => ?_
  have hT4 : IsPair g4 TO x b := hs4.extBut _ _ D.TOi2 hT3
  refine wpAny_bind (wpAny_seqItems hT4 rfl (wpAny_bind (wpAny_updateSeq_pair hT4 fun g5 hT5 hs5 => ?_)))
  replace hT5 : IsPair g5 TO x y := hT5
  refine wpAny_bind (wpAny_letGo (wpAny_pure (wpAny_pure ?_)))
  refine wpAny_bind (wpAny_seqItems hT5 rfl (wpAny_bind (wpAny_newTuple ?_)))
  have hsz : g5.objs.size = s.heap.objs.size := by rw [hs5.1, hs4.1, hs3.1, hs2.1, hs1.1]
  have hz5 : IsZipS g5 z TI TO .ellipsis := hs5.extBut _ _ D.TOz.symm (hs4.extBut _ _ D.i2z.symm (hs3.extBut _ _ D.TOz.symm (hs2.extBut _ _ D.i1z.symm hz1)))
  have hk5 : ∀ c o, c ≠ z → c ≠ TO → c ≠ i1 → c ≠ i2 → s.heap.get? c = some o → g5.get? c = some o := fun c o c1 c2 c3 c4 e =>
    hs5.extBut _ _ c2 (hs4.extBut _ _ c4 (hs3.extBut _ _ c2 (hs2.extBut _ _ c3 (hs1.extBut _ _ c1 e))))
  have h15 : g5.IsTupleIter i1 l1 (k + 1) := ((h12.extBut hs3.extBut D.TOi1.symm).extBut hs4.extBut D.i12).extBut hs5.extBut D.TOi1.symm
  have h25 : g5.IsTupleIter i2 l2 (k + 1) := h24.extBut hs5.extBut D.TOi2.symm
  have hzlt : z < g5.objs.size := Heap.lt_size hz5
  show wpAny _ _ (Builtin.SmallTypes.ownedTupleHandOut (.ref z) (.ref g5.objs.size) >>= _) _ _ _
  refine wpAny_bind ?_
  unfold Builtin.SmallTypes.ownedTupleHandOut
  have hz6 : IsZipS (g5.push { cls := .type "tuple", data := .seq #[x, y] }) z TI TO .ellipsis := Heap.get?_push_of_some _ hz5
  refine wpAny_bind (wpAny_setField_rec hz6 (by simp) fun g7 hz7 hs7 => ?_)
  replace hz7 : IsZipS g7 z TI TO (rawInt g5.objs.size) := hz7
  refine wpAny_setField_rec hz7 (by simp) fun g8 hz8 hs8 => ?_
  replace hz8 : IsZipS g8 z TI TO (rawInt g5.objs.size) := hz8
  have up : ∀ c o, c ≠ z → g5.get? c = some o → g8.get? c = some o := fun c o c1 e => hs8.extBut _ _ c1 (hs7.extBut _ _ c1 (Heap.get?_push_of_some _ e))
  have hT8 : IsPair g8 g5.objs.size x y := hs8.extBut _ _ (Nat.ne_of_gt hzlt) (hs7.extBut _ _ (Nat.ne_of_gt hzlt) (Heap.get?_push_size _ rfl))
  have n8 : g8.objs.size = g5.objs.size + 1 := by rw [hs8.1, hs7.1, Heap.size_push]
  rw [hsz] at hz8 hT8 n8
  refine wpAny_pure ⟨_, rfl, ?_⟩
  show Q (.ref g5.objs.size) _
  rw [hsz]
  exact hQ g8 hz8 (up _ _ D.TOz hT5) (h15.at fun o e => up _ o D.i1z e) (h25.at fun o e => up _ o D.i2z e) hT8 n8 fun c o c1 c2 c3 c4 e => up c o c1 (hk5 c o c1 c2 c3 c4 e)
theorem zipS_end {z TI TO i1 i2 l1 l2 : Addr} {k : Nat} {xs ys : Array Value} {a b : Value} {Q : PySem.Fin → Shared → Prop} (hh : A.handled = none) (D : ZipApart z TI TO i1 i2 l1 l2)
    (hz : IsZipS s.heap z TI TO .none) (hTI : IsPair s.heap TI (.ref i1) (.ref i2)) (hTO : IsPair s.heap TO a b)
    (h1 : s.heap.IsTupleIter i1 l1 k) (h2 : s.heap.IsTupleIter i2 l2 k) (hl1 : s.heap.IsTuple l1 xs) (hl2 : s.heap.IsTuple l2 ys) (hx : xs[k]? = none) (hy : ys[k]? = none)
    (hE : ∀ h' e, (∀ c o, c ≠ z → c ≠ TO → c ≠ i1 → c ≠ i2 → s.heap.get? c = some o → h'.get? c = some o) → (∃ o, h'.get? e = some o ∧ o.cls = .type "StopIteration") → E (.ref e) { s with heap := h' }) :
    wpAny (model prog w) A (Builtin.«zip.__next__» ⟨[.ref z], []⟩) Q E s := by
  show wpAny _ _ (field (.ref z) 2 >>= _) _ _ _
  refine wpAny_bind (wpAny_field hz rfl (x := .bool true) rfl ?_)
  show wpAny _ _ (field (.ref z) 3 >>= _) _ _ _
  refine wpAny_bind (wpAny_field hz rfl (x := .ref TI) rfl (wpAny_bind (wpAny_seqItems hTI rfl ?_)))
  show wpAny _ _ (Builtin.SmallTypes.ownedTupleIsFree (.ref z) >>= _) _ _ _
  refine wpAny_bind ?_
  unfold Builtin.SmallTypes.ownedTupleIsFree
  refine wpAny_bind (wpAny_field hz rfl (x := .none) rfl (wpAny_pure ?_))
  simp only [if_true]
  refine wpAny_bind (wpAny_rule (wpAny_bind (wpAny_field hz rfl (x := .ref TO) rfl (wpAny_bind (wpAny_setField_rec hz (by simp) fun g1 hz1 hs1 => ?_)))))
  replace hz1 : IsZipS g1 z TI TO .ellipsis := hz1
  refine wpAny_bind ?_
  simp only [List.zipIdx_cons, List.zipIdx_nil, List.forIn_cons, List.forIn_nil]
  refine wpAny_bind (wpAny_bind (wpAny_onRaise ?_))
  show wpAny _ _ (Builtin.SmallTypes.nextOrEnd (.ref i1)) _ _ _
  refine noe_end hh (h1.extBut hs1.extBut D.i1z) (hl1.extBut hs1.extBut D.l1z) hx fun g2 hs2 => ?_
  have hz2 : IsZipS g2 z TI TO .ellipsis := hs2 _ _ D.i1z.symm hz1
  refine wpAny_bind (wpAny_setField_rec hz2 (by simp) fun g3 hz3 hs3 => ?_)
  have k3 : ∀ c o, c ≠ z → c ≠ i1 → s.heap.get? c = some o → g3.get? c = some o := fun c o c1 c2 e => hs3.extBut _ _ c1 (hs2 _ _ c2 (hs1.extBut _ _ c1 e))
  have e2 : ∀ {Q : Option Value → Shared → Prop}, (∀ g4, (∀ c o, c ≠ i2 → g3.get? c = some o → g4.get? c = some o) → Q none { s with heap := g4 }) → wpAny (model prog w) A (Builtin.SmallTypes.nextOrEnd (.ref i2)) Q E { s with heap := g3 } := fun {Q} q =>
    noe_end (s := { s with heap := g3 }) hh (h2.at fun o e => k3 i2 o D.i2z D.i12.symm e) (hl2.at fun o e => k3 l2 o D.l2z D.l2i1 e) hy fun g4 h4 => q g4 fun c o hc e => h4 c o hc e
  refine wpAny_bind ?_
  wp_walk using e2
  intro g4 k4
  rw [if_neg (show ¬ ((none : Option Value).isSome = true) from Bool.false_ne_true)]
  refine wpAny_pure ?_
  show wpAny _ _ (pure _) _ _ _
  refine wpAny_pure (wpAny_bind (wpAny_rule ?_))
  show wpAny _ _ (newExc (.type "StopIteration") [] >>= _) _ _ _
  refine wpAny_bind ?_
  simp only [newExc, newTuple]
  refine wpAny_bind (wpAny_newObj_type ?_ (by size_fits))
  refine wpAny_bind (m := firstArgMember _ _) (wpAny_of_eq (a := Value.none) (by first | rfl | (simp only [firstArgMember]; rfl)) ?_)
  refine wpAny_newObj_type ?_ (by size_fits)
  simp only [raiseNew]
  refine wpAny_bind (wpAny_handled ?_)
  first | rw [show A.in1.handled = none from hh] | rw [hh]
  refine wpAny_bind (wpAny_pure (wpAny_throw ?_))
  exact hE _ _ (fun c o c1 c2 c3 c4 e => Heap.get?_push_of_some _ (Heap.get?_push_of_some _ (k4 c o c4 (k3 c o c1 c3 e)))) ⟨_, Heap.get?_push_size _ rfl, rfl⟩
theorem nextS_item {z TI TO i1 i2 l1 l2 : Addr} {k : Nat} {xs ys : Array Value} {x y a b : Value} {Q : Option Value → Shared → Prop} (D : ZipApart z TI TO i1 i2 l1 l2)
    (hz : IsZipS s.heap z TI TO .none) (hTI : IsPair s.heap TI (.ref i1) (.ref i2)) (hTO : IsPair s.heap TO a b)
    (h1 : s.heap.IsTupleIter i1 l1 k) (h2 : s.heap.IsTupleIter i2 l2 k) (hl1 : s.heap.IsTuple l1 xs) (hl2 : s.heap.IsTuple l2 ys) (hx : xs[k]? = some x) (hy : ys[k]? = some y)
    (hQ : ∀ h', IsZipS h' z TI TO (rawInt s.heap.objs.size) → IsPair h' TO x y → h'.IsTupleIter i1 l1 (k + 1) → h'.IsTupleIter i2 l2 (k + 1) → IsPair h' s.heap.objs.size x y → h'.objs.size = s.heap.objs.size + 1 →
      (∀ c o, c ≠ z → c ≠ TO → c ≠ i1 → c ≠ i2 → s.heap.get? c = some o → h'.get? c = some o) → Q (some (.ref s.heap.objs.size)) { s with heap := h' }) : wpAny (model prog w) A (pyNext (.ref z)) Q E s := by
  have hT : s.TypeIs (.ref z) "zip" := ⟨_, hz, rfl⟩
  unfold pyNext
  exact wpAny_bind (wpAny_attempt (wpAny_callSpecial?_slot (name := Str.ofString "__next__") hT PySem.F.slot_zip_next (wpAny_call_entry PySem.F.slot_zip_next hT PySem.F.entry_zip_next
    (zipS_item D hz hTI hTO h1 h2 hl1 hl2 hx hy fun h' a1 a2 a3 a4 a5 a6 a7 => wpAny_pure (hQ h' a1 a2 a3 a4 a5 a6 a7)) (PySem.F.args_zip_next_1 _))))
theorem nextS_end {z TI TO i1 i2 l1 l2 : Addr} {k : Nat} {xs ys : Array Value} {a b : Value} {Q : Option Value → Shared → Prop} (hh : A.handled = none) (D : ZipApart z TI TO i1 i2 l1 l2)
    (hz : IsZipS s.heap z TI TO .none) (hTI : IsPair s.heap TI (.ref i1) (.ref i2)) (hTO : IsPair s.heap TO a b)
    (h1 : s.heap.IsTupleIter i1 l1 k) (h2 : s.heap.IsTupleIter i2 l2 k) (hl1 : s.heap.IsTuple l1 xs) (hl2 : s.heap.IsTuple l2 ys) (hx : xs[k]? = none) (hy : ys[k]? = none)
    (hQ : ∀ h', (∀ c o, c ≠ z → c ≠ TO → c ≠ i1 → c ≠ i2 → s.heap.get? c = some o → h'.get? c = some o) → Q none { s with heap := h' }) : wpAny (model prog w) A (pyNext (.ref z)) Q E s := by
  have hT : s.TypeIs (.ref z) "zip" := ⟨_, hz, rfl⟩
  unfold pyNext
  refine wpAny_bind (wpAny_attempt (wpAny_callSpecial?_slot (name := Str.ofString "__next__") hT PySem.F.slot_zip_next (wpAny_call_entry PySem.F.slot_zip_next hT PySem.F.entry_zip_next
    (zipS_end (A := A.in1) hh D hz hTI hTO h1 h2 hl1 hl2 hx hy fun h' e hk he => ?_) (PySem.F.args_zip_next_1 _))))
  obtain ⟨o, ho, hc⟩ := he
  exact wpAny_bind (wpAny_isInstance (T := "StopIteration") (b := true) ⟨o, ho, hc⟩ isSubtype_stop (wpAny_pure (hQ _ hk)))
end
theorem ty_zip_strict (a b c : Value) : checkTypeCall "zip" ⟨[a, b], [(Str.ofString "strict", c)]⟩ = pure () := by kernel_rfl
theorem new_zip_strict (a b c : Value) : checkBuiltinCall "zip.__new__" ⟨[.type "zip", a, b], [(Str.ofString "strict", c)]⟩ = pure () := by kernel_rfl
theorem init_zip_strict (o a b c : Value) : argsOk "object.__init__" ⟨[o, a, b], [(Str.ofString "strict", c)]⟩ := by unfold argsOk; kernel_rfl
abbrev zs1 (h : Heap) (l1 : Addr) : Heap := h.push { cls := .type "tuple_iterator", data := .fields #[.ref l1, .int 0 0] }
abbrev zs2 (h : Heap) (l1 l2 : Addr) : Heap := (zs1 h l1).push { cls := .type "tuple_iterator", data := .fields #[.ref l2, .int 0 0] }
abbrev zs3 (h : Heap) (l1 l2 : Addr) : Heap := (zs2 h l1 l2).push { cls := .type "tuple", data := .seq #[.ref h.objs.size, .ref (zs1 h l1).objs.size] }
abbrev zs4 (h : Heap) (l1 l2 : Addr) : Heap := (zs3 h l1 l2).push { cls := .type "tuple", data := .seq #[.none, .none] }
abbrev zs5 (h : Heap) (l1 l2 : Addr) : Heap := (zs4 h l1 l2).push { cls := .type "zip", data := .fields #[.none, .bool false, .bool true, .ref (zs2 h l1 l2).objs.size, .ref (zs3 h l1 l2).objs.size] }
theorem meets_zipS (l1 l2 : Addr) (xs ys : Array Value) :
    Meets (Builtin.«zip.__new__» ⟨[.type "zip", .ref l1, .ref l2], [(Str.ofString "strict", .bool true)]⟩) (fun _ R s => s.heap.IsTuple l1 xs ∧ s.heap.IsTuple l2 ys ∧
      R (.ok (.ret (.ref (zs4 s.heap l1 l2).objs.size))) { s with heap := zs5 s.heap l1 l2 }) :=
  .of_wp fun prog w A R s h => by
    obtain ⟨hp, g, d, tk, os⟩ := s
    obtain ⟨hl1, hl2, h⟩ := h
    have hsub := sub_zip
    have hL1 : Heap.IsTuple (Shared.heap ⟨hp, g, d, tk, os⟩) l1 xs := hl1
    have hL2 : Heap.IsTuple (Shared.heap ⟨hp.push { cls := .type "tuple_iterator", data := .fields #[.ref l1, .int 0 0] }, g, d, tk, os⟩) l2 ys := Heap.IsTuple.push hl2 _
    have e2 : (Str.ofString "strict" != ("strict" : Str)) = false := by decide +kernel
    wp_walk using wpAny_pyIter_tuple hL1, wpAny_pyIter_tuple hL2
    exact ⟨_, rfl, h⟩
theorem call_zipS {prog : Program} {w : World} {A : Around} {E : Value → Shared → Prop} {s : Shared} {l1 l2 : Addr} {xs ys : Array Value} {Q : Value → Shared → Prop} (hl1 : s.heap.IsTuple l1 xs) (hl2 : s.heap.IsTuple l2 ys)
    (h : ∀ h', IsZipS h' (s.heap.objs.size + 4) (s.heap.objs.size + 2) (s.heap.objs.size + 3) .none → IsPair h' (s.heap.objs.size + 2) (.ref s.heap.objs.size) (.ref (s.heap.objs.size + 1)) →
      IsPair h' (s.heap.objs.size + 3) .none .none → h'.IsTupleIter s.heap.objs.size l1 0 → h'.IsTupleIter (s.heap.objs.size + 1) l2 0 →
      (∀ c o, s.heap.get? c = some o → h'.get? c = some o) → Q (.ref (s.heap.objs.size + 4)) { s with heap := h' }) :
    wpAny (model prog w) A (call (.type "zip") [.ref l1, .ref l2] [(Str.ofString "strict", .bool true)]) Q E s := by
  refine callType_newKw PySem.F.called_zip (by decide) (ty_zip_strict _ _ _) (new_zip_strict _ _ _) (fun obj => init_zip_strict obj _ _ _) PySem.F.entry_zip_new (meets_zipS l1 l2 xs ys) ⟨hl1, hl2, ?_⟩
  have z1 : (zs1 s.heap l1).objs.size = s.heap.objs.size + 1 := Heap.size_push ..
  have z2 : (zs2 s.heap l1 l2).objs.size = s.heap.objs.size + 2 := by rw [Heap.size_push, z1]
  have z3 : (zs3 s.heap l1 l2).objs.size = s.heap.objs.size + 3 := by rw [Heap.size_push, z2]
  have z4 : (zs4 s.heap l1 l2).objs.size = s.heap.objs.size + 4 := by rw [Heap.size_push, z3]
  have g5 : (zs5 s.heap l1 l2).get? (zs4 s.heap l1 l2).objs.size = some _ := Heap.get?_push_size _ rfl
  have g4 : (zs5 s.heap l1 l2).get? (zs3 s.heap l1 l2).objs.size = some _ := Heap.get?_push_of_some _ (Heap.get?_push_size _ rfl)
  have g3 : (zs5 s.heap l1 l2).get? (zs2 s.heap l1 l2).objs.size = some _ := Heap.get?_push_of_some _ (Heap.get?_push_of_some _ (Heap.get?_push_size _ rfl))
  have g2 : (zs5 s.heap l1 l2).get? (zs1 s.heap l1).objs.size = some _ := Heap.get?_push_of_some _ (Heap.get?_push_of_some _ (Heap.get?_push_of_some _ (Heap.get?_push_size _ rfl)))
  have g1 : (zs5 s.heap l1 l2).get? s.heap.objs.size = some _ := Heap.get?_push_of_some _ (Heap.get?_push_of_some _ (Heap.get?_push_of_some _ (Heap.get?_push_of_some _ (Heap.get?_push_size _ rfl))))
  show _ ∧ _
  rw [z2, z3, z4] at g5
  rw [z1, z2] at g3
  rw [z3] at g4
  rw [z1] at g2
  rw [z4]
  exact ⟨⟨_, g5, rfl⟩, h _ g5 g3 g4 ⟨_, g1, rfl, rfl⟩ ⟨_, g2, rfl, rfl⟩ fun c o x =>
    Heap.get?_push_of_some _ (Heap.get?_push_of_some _ (Heap.get?_push_of_some _ (Heap.get?_push_of_some _ (Heap.get?_push_of_some _ x))))⟩
section
variable {prog : Program} {w : World} {A : Around} {E : Value → Shared → Prop} {s : Shared}
theorem wpAny_letGoS {elts : List Expr} {x1 : Nat} {pos : Pos} {z TI TO T : Addr} {Q : Unit → Shared → Prop} (hz : IsZipS s.heap z TI TO (rawInt T))
    (hQ : ∀ h', IsZipS h' z TI TO .none → Heap.SameBut z s.heap h' → Q () { s with heap := h' }) : wpAny (model prog w) A (letOwnedTupleGo (.Tuple elts x1 pos) (.ref z) (.ref T)) Q E s := by
  unfold letOwnedTupleGo
  refine wpAny_bind (wpAny_load hz ?_)
  show wpAny _ _ (if (["enumerate", "zip", "dict_itemiterator", "dict_reverseitemiterator", "odict_iterator", "itertools.zip_longest", "itertools.pairwise"].contains "zip" &&
      (#[rawInt T, .bool false, .bool true, .ref TI, .ref TO] : Array Value)[0]? == some (rawInt T)) = true then _ else _) Q E s
  rw [if_pos (by simp)]
  refine wpAny_bind (wpAny_rule ?_)
  show wpAny _ _ (setField (.ref z) 0 .none) Q E s
  exact wpAny_setField_rec hz (by simp) fun h' a b => hQ h' a b
theorem wpAny_iterS {z TI TO : Addr} {f0 : Value} {Q : Value → Shared → Prop} (hz : IsZipS s.heap z TI TO f0) (h : Q (.ref z) s) : wpAny (model prog w) A (pyIter (.ref z)) Q E s := by
  have hT : s.TypeIs (.ref z) "zip" := ⟨_, hz, rfl⟩
  refine wpAny_pyIter_slot hT PySem.F.slot_zip_iter (wpAny_call_entry PySem.F.slot_zip_iter hT PySem.F.entry_zip_iter ?_ (PySem.F.args_zip_iter_1 _))
  show wpAny _ _ (ret (.ref z)) _ _ s
  exact wpAny_pure ⟨_, rfl, "zip", _, hT, PySem.F.slot_zip_next.lookup, h⟩
end
/-! what is walked -/
theorem min_none {us : List Value} {i : Nat} (h : us.length ≤ i) : us.toArray[i]? = none := by
  simp
  omega
def ItzS (K : PySem.W.Frag) (a b : Addr) : It :=
  ⟨fun i H => ∃ (xs ys : List V) (x y : V), SqT K H a xs ∧ SqT K H b ys ∧ xs[i]? = some x ∧ ys[i]? = some y,
    fun i H v H' => ∃ T x y, v = .ref T ∧ H T = none ∧ H' = upd H T (.tup [x, y]) ∧ (∀ xs, SqT K H a xs → xs[i]? = some x) ∧ ∀ ys, SqT K H b ys → ys[i]? = some y,
    fun i H => ∃ xs ys : List V, SqT K H a xs ∧ SqT K H b ys ∧ xs.length ≤ i ∧ ys.length ≤ i⟩
theorem of5 {c z TI TO i1 i2 : Addr} (h : c ∈ [z, TI, TO, i1, i2]) : c = z ∨ c = TI ∨ c = TO ∨ c = i1 ∨ c = i2 := by simpa using h
theorem turn_zipS {P : Program} {w : World} {K : PySem.W.Frag} {elts : List Expr} {kk : Nat} {tpos : Pos} {a b z TI TO i1 i2 : Addr} (D : ZipApart z TI TO i1 i2 a b) :
    Turn P w K (.Tuple elts kk tpos) (ItzS K a b) [z, TI, TO, i1, i2] z (fun i h => IsZipS h z TI TO .none ∧ IsPair h TI (.ref i1) (.ref i2) ∧ (∃ x y, IsPair h TO x y) ∧ h.IsTupleIter i1 a i ∧ h.IsTupleIter i2 b i) where
  mem := by simp
  obj := fun i h st c hc => by
    obtain ⟨hz, hTI, ⟨x, y, hTO⟩, ⟨o1, e1, _, d1⟩, ⟨o2, e2, _, d2⟩⟩ := st
    rcases of5 hc with q | q | q | q | q
    · rw [q]; exact ⟨_, hz, fun v q => nomatch q⟩
    · rw [q]; exact ⟨_, hTI, fun v q => nomatch q⟩
    · rw [q]; exact ⟨_, hTO, fun v q => nomatch q⟩
    · rw [q]; exact ⟨o1, e1, fun v q => by rw [d1] at q; cases q⟩
    · rw [q]; exact ⟨o2, e2, fun v q => by rw [d2] at q; cases q⟩
  keep := fun i h h' st k => by
    obtain ⟨hz, hTI, ⟨x, y, hTO⟩, h1, h2⟩ := st
    exact ⟨k z (by simp) _ hz, k TI (by simp) _ hTI, ⟨x, y, k TO (by simp) _ hTO⟩, h1.at fun o q => k i1 (by simp) o q, h2.at fun o q => k i2 (by simp) o q⟩
  item := by
    intro X hP hw hK hc i pins s σ H E I hf st hg
    subst hP hw hK
    obtain ⟨hz, hTI, ⟨x0, y0, hTO⟩, h1, h2⟩ := st
    obtain ⟨xs, ys, x, y, hqx, hqy, hx, hy⟩ := hg
    obtain ⟨its, rv, p, _⟩ := I.tuple hqx
    obtain ⟨its2, rv2, p2, _⟩ := I.tuple hqy
    obtain ⟨u, hu, ru⟩ := rv.get hx
    obtain ⟨u2, hu2, ru2⟩ := rv2.get hy
    have hzl : z < s.heap.objs.size := Heap.lt_size hz
    refine nextS_item D hz hTI hTO h1 h2 p p2 (x := u) (y := u2) (by simpa using hu) (by simpa using hu2) fun h' z' TO' h1' h2' hT hsz hk => ?_
    refine ⟨_, rfl, wpAny_letGoS z' fun h'' z'' sb => ?_⟩
    have hT2 : h''.get? s.heap.objs.size = some { cls := .type "tuple", data := .seq #[u, u2] } := (sb.2 _ (Nat.ne_of_gt hzl)).trans hT
    have new : ObjOk X.prog X.w (upd H s.heap.objs.size (.tup [x, y])) h'' s.heap.objs.size (.tup [x, y]) :=
      ⟨by show 2 ≤ sizeLine; decide, [u, u2], .cons ru (.cons ru2 .nil), ⟨_, hT2, rfl, _, rfl⟩⟩
    have I1 : Inv X pins σ (upd H s.heap.objs.size (.tup [x, y])) { s with heap := h'' } :=
      I.turnedNew (t' := s.toks) (ch := [z, TI, TO, i1, i2]) (fun c o hb q => (sb.2 c (fun q' => hb (by simp [q']))).trans (hk c o (fun q' => hb (by simp [q'])) (fun q' => hb (by simp [q'])) (fun q' => hb (by simp [q'])) (fun q' => hb (by simp [q'])) q)) hf (Nat.le_refl _) new
    refine ⟨.ref s.heap.objs.size, _, I1, rfl, ⟨_, x, y, rfl, I.hok.fresh (Nat.le_refl _), rfl, fun l hl => by rw [I.tuple_inj hl hqx]; exact hx, fun l hl => by rw [I.tuple_inj hl hqy]; exact hy⟩, ⟨z'', ?_, ⟨u, u2, ?_⟩, ?_, ?_⟩, fun c hcm => ?_⟩
    · exact (sb.2 _ D.TIz).trans (hk _ _ D.TIz D.TITO D.TIi1 D.TIi2 hTI)
    · exact (sb.2 _ D.TOz).trans TO'
    · exact h1'.at fun o q => (sb.2 _ D.i1z).trans q
    · exact h2'.at fun o q => (sb.2 _ D.i2z).trans q
    · have hlt : c < s.heap.objs.size := by
        rcases of5 hcm with q | q | q | q | q
        · rw [q]; exact hzl
        · rw [q]; exact Heap.lt_size hTI
        · rw [q]; exact Heap.lt_size hTO
        · rw [q]; obtain ⟨_, e1, _⟩ := h1; exact Heap.lt_size e1
        · rw [q]; obtain ⟨_, e2, _⟩ := h2; exact Heap.lt_size e2
      rw [upd_ne (Nat.ne_of_lt hlt)]
      exact (hf c hcm).1
  done := by
    intro X hP hw hK hc i pins s σ H E I hf st hg
    subst hP hw hK
    obtain ⟨hz, hTI, ⟨x0, y0, hTO⟩, h1, h2⟩ := st
    obtain ⟨xs, ys, hqx, hqy, n1, n2⟩ := hg
    obtain ⟨its, rv, p, _⟩ := I.tuple hqx
    obtain ⟨its2, rv2, p2, _⟩ := I.tuple hqy
    have l1 := rv.length
    have l2 := rv2.length
    exact nextS_end (I.ok.hd hc) D hz hTI hTO h1 h2 p p2 (min_none (by omega)) (min_none (by omega)) fun h' hk => ⟨rfl, I.turnedL (t' := s.toks) (ch := [z, TI, TO, i1, i2]) (fun c o hb q =>
      hk c o (fun q' => hb (by simp [q'])) (fun q' => hb (by simp [q'])) (fun q' => hb (by simp [q'])) (fun q' => hb (by simp [q'])) q) hf⟩
  self := fun A i s Q E st h => wpAny_iterS st.1 h
section
variable {M : Model} {A : Around} {E : Value → Shared → Prop} {s : Shared} {env : Env}
/-- a type called with names -/
theorem callWith_tyK {pos : Pos} {T : String} {e : Expr} {rest : List Expr} {kws : List Keyword} {Q : Value → Shared → Prop}
    (h : wpAny M A (spliced (backTo pos (starEach (e :: rest) env))) (fun vs s₁ => wpAny M A (evalAll ((backToKw pos (keywordEach kws env)).map (·.2)))
      (fun kvs s₂ => wpAny M A (call (.type T) vs (((backToKw pos (keywordEach kws env)).filterMap (·.1)).zip kvs)) Q E s₂) E s₁) E s)
    (he : backTo pos (starEach (e :: rest) env) = (false, eval e env) :: backTo pos (starEach rest env)) (hp : (backTo pos (starEach (e :: rest) env)).any (·.1) = false)
    (ha : (backToKw pos (keywordEach kws env)).all (·.1.isSome) = true) (hk : (backToKw pos (keywordEach kws env)).any (·.1.isNone) = false) :
    wpAny M A (callWith pos (.type T) [] (backTo pos (starEach (e :: rest) env)) (backToKw pos (keywordEach kws env))) Q E s := by
  unfold callWith
  have h2 : wpAny M A (evalArgs (.type T) true (backTo pos (starEach (e :: rest) env)) (backToKw pos (keywordEach kws env))) (fun a s₁ => wpAny M A (call (.type T) ([] ++ a.pos) a.kw) Q E s₁) E s := by
    rw [he] at h ⊢
    exact evalArgs_kwB ha h
  refine wpAny_bind (wpAny_holding (wpAny_mono h2 (fun a s₁ h₁ => wpAny_bind (wpAny_standAt ?_)) fun _ _ x => x))
  simp only [hp, hk, Bool.or_false]
  exact wpAny_bind (wpAny_pure (wpAny_bind (wpAny_mono h₁ (fun r s₂ hr => wpAny_bind (wpAny_holding (wpAny_point (wpAny_pure hr)))) fun _ _ x => x)))
end
def iZipS (K : PySem.W.Frag) (ta : TA) : TI := fun σ H R => ta σ H fun vs H1 => ∃ a b xs ys, vs = [.ref a, .ref b] ∧ SqT K H1 a xs ∧ SqT K H1 b ys ∧ R (ItzS K a b) H1
theorem pi_zipS {X : Cx} {e e2 : Expr} {ta : TA} {p pos tpos kp cp : Pos} {elts : List Expr} {kk kc : Nat} (hg : Gl X "zip") (hm : X.mg "zip" = none) (ha : PA X [e, e2] ta)
    (he : backTo pos (starEach [e, e2] X.env) = (false, eval e X.env) :: backTo pos (starEach [e2] X.env) := by rfl) (hp : (backTo pos (starEach [e, e2] X.env)).any (·.1) = false := by rfl) :
    PI X (.Tuple elts kk tpos) (.Call (.Name "zip" p) [e, e2] [⟨some "strict", .Constant (.bool true) kc cp, kp⟩] pos) (iZipS X.K ta) := by
  refine ⟨fun pins s σ H R I h => ?_⟩
  refine wpAny_Call_Name_kw (ld_blt I hg hm PyProof.Rows.boot_zip ?_)
  refine callWith_tyK (thn (ha.run pos pins s σ H _ I h) fun us s1 ⟨vs, H1, I1, r1, q1⟩ => ?_) he hp rfl rfl
  refine kws_cons (wpAny_pure (kws_nil ?_))
  obtain ⟨a, b, xs, ys, ex, hqx, hqy, q⟩ := q1
  subst ex
  cases r1 with
  | cons r rr =>
    cases rr with
    | cons r' rr =>
      cases rr
      cases r
      cases r'
      have fresh5 : ∀ c, c ∈ [s1.heap.objs.size + 4, s1.heap.objs.size + 2, s1.heap.objs.size + 3, s1.heap.objs.size, s1.heap.objs.size + 1] → FpOk X pins H1 c := fun c hcm => by
        have hle : s1.heap.objs.size ≤ c := by
          rcases of5 hcm with z | z | z | z | z
          · rw [z]; exact Nat.le_add_right _ _
          · rw [z]; exact Nat.le_add_right _ _
          · rw [z]; exact Nat.le_add_right _ _
          · rw [z]; exact Nat.le_refl _
          · rw [z]; exact Nat.le_add_right _ _
        exact I1.fpOk hle (I1.hok.fresh hle)
      obtain ⟨its, rv, p1, _⟩ := I1.tuple hqx
      obtain ⟨its2, rv2, p2, _⟩ := I1.tuple hqy
      obtain ⟨o1, ho1, _⟩ := id p1
      obtain ⟨o2, ho2, _⟩ := id p2
      refine call_zipS (show s1.heap.IsTuple a its.toArray from p1) (show s1.heap.IsTuple b its2.toArray from p2) fun h' hz hTI hTO h1 h2 hk => wpAny_iterS hz ?_
      exact ⟨s1.heap.objs.size + 4, [s1.heap.objs.size + 4, s1.heap.objs.size + 2, s1.heap.objs.size + 3, s1.heap.objs.size, s1.heap.objs.size + 1], _, _, H1, rfl, I1.kept (t' := s1.toks) hk, turn_zipS (PySem.W.ktu_apart s1.heap.objs.size a b (Heap.lt_size ho1) (Heap.lt_size ho2)), ⟨hz, hTI, ⟨_, _, hTO⟩, h1, h2⟩, fresh5, q⟩
theorem walk_zipS {K : PySem.W.Frag} {a b : Addr} {xs ys : List V} {n : Nat} (h1 : xs.length = n) (h2 : ys.length = n) : Walk (ItzS K a b) n (fun H => SqT K H a xs ∧ SqT K H b ys) (YPair (fun i => xs[i]?) (fun i => ys[i]?)) := by
  refine ⟨fun i _ hi q => ?_, fun _ q => ⟨xs, ys, q.1, q.2, by omega, by omega⟩, fun i H v H' _ q y => ?_⟩
  · have h1 : i < xs.length := by omega
    have h2 : i < ys.length := by omega
    exact ⟨xs, ys, xs[i], ys[i], q.1, q.2, by simp [h1], by simp [h2]⟩
  · obtain ⟨T, x, z, h1, h2, h3, h4, h5⟩ := y
    exact ⟨T, x, z, h1, h2, h3, h4 xs q.1, h5 ys q.2⟩
section
variable [KFrag]
theorem itr_zipS {X : Cx} [HK X] {B : Addr → Prop} {μ : List Addr} {s : CS} {H : Hp} {a b : Addr} {xs ys : List V} {ds es : List D} (hl : ds.length = es.length) (h : FT H (Av B μ s) a xs) (f : Fzs H (Av B μ s) xs ds) (h2 : FT H (Av B μ s) b ys) (f2 : Fzs H (Av B μ s) ys es) : ItR B μ s H (ItzS X.K a b) (zipD ds es) := by
  refine ⟨fun H => SqT X.K H a xs ∧ SqT X.K H b ys, YPair (fun i => xs[i]?) (fun i => ys[i]?), ?_, fun H' A' k bt => ⟨(h.kp k.keep k.new).sq, (h2.kp k.keep k.new).sq⟩, fun i H' A' v H'' k bt hi y => ?_⟩
  · exact walk_zipS (by rw [zipD_len, f.len]; omega) (by rw [zipD_len, f2.len]; omega)
  · obtain ⟨T, x, y, rfl, hT, rfl, e1, e2⟩ := y
    obtain ⟨d, e3, e4⟩ := (f.kp k).getV e1
    obtain ⟨d2, e5, e6⟩ := (f2.kp k).getV e2
    exact ⟨same_upd hT, _, zipD_at e3 e5, Fz.newT bt hT (.cons e4 (.cons e6 .nil))⟩
def zipSW : List W → CS → R (List D)
  | [.d (.tuple a), .d (.tuple b)], s => if a.length = b.length then .ok (zipD a b) s else .bad
  | _, _ => .bad
def fZipS (fs : En → CS → R (List W)) (ρ : En) (s : CS) : R (List D) := (fs ρ s).bind zipSW
theorem di_zipS {X : Cx} [HK X] {T : TX} {Wx : WXc} {e e2 : Expr} {fs : En → CS → R (List W)} {p pos tpos kp cp : Pos} {elts : List Expr} {kk kc : Nat} (hg : Gl X "zip") (hm : X.mg "zip" = none) (ha : DA X T Wx [e, e2] fs)
    (he : backTo pos (starEach [e, e2] X.env) = (false, eval e X.env) :: backTo pos (starEach [e2] X.env) := by rfl) (hp : (backTo pos (starEach [e, e2] X.env)).any (·.1) = false := by rfl) :
    DI X T Wx (.Tuple elts kk tpos) (.Call (.Name "zip" p) [e, e2] [⟨some "strict", .Constant (.bool true) kc cp, kp⟩] pos) (fZipS fs) :=
  PI_imp (pi_zipS hg hm ha he hp) fun σ H Q ⟨B, μ, s, ρ, r, e, q⟩ => tD_bind r e q fun w s1 v μ1 H1 st1 r1 e1 rel1 q1 => by
    have rel1 : RWs B μ1 s1 H1 v w := rel1
    unfold zipSW at q1
    split at q1
    · split at q1
      · rename_i hl
        cases rel1 with
        | cons g t =>
          cases t with
          | cons g2 t =>
            cases t
            have g : Fz H1 (Av B μ1 s1) _ (.tuple _) := g
            have g2 : Fz H1 (Av B μ1 s1) _ (.tuple _) := g2
            cases g with
            | @tup a xs _ h1 f1 =>
              cases g2 with
              | @tup b ys _ h2 f2 => exact ⟨a, b, xs, ys, rfl, h1.sq, h2.sq, Fin.here (a := List D) q1 r1 (itr_zipS hl h1 f1 h2 f2)⟩
      · exact q1.elim
    · exact q1.elim
end
end DL
namespace DL
open PySem PySem.Spec PyProof.Rows L2
/-! ### min of a list or a tuple of numbers -/
def minI : Int → List Int → Int
  | n, [] => n
  | n, x :: r => minI (if x < n then x else n) r
theorem minI_mem : ∀ (n : Int) (r : List Int), minI n r = n ∨ minI n r ∈ r
  | n, [] => .inl rfl
  | n, x :: r => by
    unfold minI
    rcases minI_mem (if x < n then x else n) r with h | h
    · rw [h]
      split
      · exact .inr List.mem_cons_self
      · exact .inl rfl
    · exact .inr (List.mem_cons_of_mem _ h)
theorem minI_le : ∀ (n : Int) (r : List Int), minI n r ≤ n ∧ ∀ y ∈ r, minI n r ≤ y
  | n, [] => ⟨Int.le_refl _, fun y h => by cases h⟩
  | n, x :: r => by
    obtain ⟨h1, h2⟩ := minI_le (if x < n then x else n) r
    unfold minI
    have h3 : (if x < n then x else n) ≤ n ∧ (if x < n then x else n) ≤ x := by split <;> omega
    refine ⟨Int.le_trans h1 h3.1, fun y hy => ?_⟩
    rcases List.mem_cons.mp hy with rfl | hy
    · exact Int.le_trans h1 h3.2
    · exact h2 y hy
theorem minI_is {n m : Int} {r : List Int} (h1 : m ∈ n :: r) (h2 : ∀ y, y ∈ n :: r → m ≤ y) : m = minI n r := by
  obtain ⟨a, b⟩ := minI_le n r
  have c : m ≤ minI n r := by
    rcases minI_mem n r with h | h
    · rw [h]; exact h2 n List.mem_cons_self
    · exact h2 _ (List.mem_cons_of_mem _ h)
  rcases List.mem_cons.mp h1 with rfl | h
  · omega
  · have := b m h
    omega
def minA : List D → Option D
  | [.int i, .int j] => some (.int (if j < i then j else i))
  | [.tuple ds] => match intsD ds with
    | some (n :: r) => some (.int (minI n r))
    | _ => none
  | [.list ds] => match intsD ds with
    | some (n :: r) => some (.int (minI n r))
    | _ => none
  | _ => none
section
variable {prog : Program} {w : World} {A : Around} {E : Value → Shared → Prop} {s : Shared} {l : Addr} {its : List Value} {ns : List Int} {Q : Value → Shared → Prop}
theorem min_tup (hh : A.handled = none) (hl : s.heap.IsTuple l its.toArray) (hi : IntsAre its ns) (hne : 0 < ns.length)
    (h : ∀ h' tk M t', (∀ b o, s.heap.get? b = some o → h'.get? b = some o) → M ∈ ns → (∀ a, a ∈ ns → M ≤ a) → Q (.int M t') { s with heap := h', toks := tk }) : wpAny (model prog w) A (call (.builtin "min") [.ref l]) Q E s := by
  obtain ⟨xs, e⟩ := hi.allInts.items
  have hn : numsOf (intItems xs).toList = ns := by rw [← e]; exact hi.numsOf
  rw [nums_intItems] at hn
  subst hn
  rw [e] at hl
  have hsz : 0 < xs.size := by simpa using hne
  have hlt : l < s.heap.objs.size := by
    obtain ⟨_, q, _⟩ := id hl
    exact Heap.lt_size q
  refine call_min_walk (wpAny_pyIter_tuple hl ?_)
  refine ⟨s.heap.objs.size, [s.heap.objs.size, l], [s.heap.objs.size], _, _, _, _, rfl, Walks.tuple (A := A.in1) hh s.heap.objs.size l (Nat.ne_of_lt hlt) (intItems xs), ⟨⟨_, Heap.get?_push_size _ rfl, rfl, rfl⟩, Heap.IsTuple.push hl _⟩, fun b hb => ?_, by simpa [intItems] using hsz, CmpOf.ints_lt (numAt xs) (fun _ _ => intItems_at), fun v h' tk hP hk => ?_⟩
  · show b < (s.heap.push _).objs.size
    rw [Heap.size_push]
    have q : b = s.heap.objs.size ∨ b = l := by simpa using hb
    rcases q with q | q
    · rw [q]; exact Nat.lt_succ_self _
    · rw [q]; exact Nat.lt_succ_of_lt hlt
  · obtain ⟨t, rfl⟩ := intItems_at (by simpa [intItems] using hP)
    obtain ⟨h1, h2⟩ := argBest_lt (numAt xs) (xs.size - 1)
    refine h h' tk _ t (fun b o e => hk b o (fun hm => ?_) (Heap.get?_push_of_some _ e)) ?_ fun a ha => ?_
    · have := Heap.lt_size e
      have q : b = s.heap.objs.size := by simpa using hm
      rw [q] at this
      exact Nat.lt_irrefl _ this
    · rw [numAt_eq]; exact PySem.getD_mem (by rw [List.length_map, Array.length_toList]; omega)
    · obtain ⟨j, hj, rfl⟩ := mem_getD ha
      rw [List.length_map, Array.length_toList] at hj
      rw [← numAt_eq]; exact h2 j (by omega)
end
section
variable [KFrag] {X : Cx} [HK X]
theorem dc_minA (hc : X.calm = true) : DCall X (.builtin "min") minA := by
  intro pins s σ H xs us Q I r h
  obtain ⟨A, ds, z, bt, fz, e, q⟩ := h
  cases fz with
  | nil => cases e
  | cons h1 t =>
    cases t with
    | cons h2 t2 =>
      cases t2 with
      | cons _ _ => cases h1 <;> cases h2 <;> cases e
      | nil =>
        cases h1 with
        | int i =>
          cases h2 with
          | int j => cases e; exact call_min2 hc pins s σ H _ us Q I r ⟨i, j, rfl, q _ _ (Same.refl _) (.int _)⟩
          | _ => cases e
        | _ => cases h2 <;> cases e
    | nil =>
      cases h1 with
      | @tup a xs ds f1 f2 =>
        simp only [minA] at e
        cases zi : intsD ds with
        | none => rw [zi] at e; cases e
        | some l =>
          cases l with
          | nil => rw [zi] at e; cases e
          | cons n r2 =>
            rw [zi] at e
            cases e
            have ex := ints_fz f2 zi
            subst ex
            obtain ⟨its, rv, hl, _⟩ := I.tuple (f1.sq (X := X))
            rw [Vals.ref1 r]
            exact min_tup (I.ok.hd hc) (show s.heap.IsTuple a its.toArray from hl) rv.ints (by simp) fun h' tk m t' hk h1 h2 => ⟨.int _, H, I.kept hk, ⟨_, rfl⟩, minI_is h1 h2 ▸ q _ _ (Same.refl _) (.int _)⟩
      | @lst a xs ds f1 f2 =>
        simp only [minA] at e
        cases zi : intsD ds with
        | none => rw [zi] at e; cases e
        | some l =>
          cases l with
          | nil => rw [zi] at e; cases e
          | cons n r2 =>
            rw [zi] at e
            cases e
            have ex := ints_fz f2 zi
            subst ex
            exact cr_min hc pins s σ H _ us Q I r ⟨a, n :: r2, rfl, f1.sq, by simp, fun m h1 h2 => minI_is h1 h2 ▸ q _ _ (Same.refl _) (.int _)⟩
      | _ => cases e
/-! ### x in a list or a tuple of data -/
def inDD (d e : D) : Option D := match e with
  | .list ds => if SeqAt.shaped d = true ∧ SeqAt.shaped (.list ds) = true then some (.bool (ds.any fun z => eqF 8 z d)) else none
  | .tuple ds => if SeqAt.shaped d = true ∧ SeqAt.shaped (.tuple ds) = true then some (.bool (ds.any fun z => eqF 8 z d)) else none
  | _ => none
def ninDD (d e : D) : Option D := match inDD d e with
  | some (.bool b) => some (.bool (!b))
  | _ => none
theorem dop_in (hu : X.A.units + 65 < cLine) : DOp X (compareOp .In) inDD := by
  intro pins s σ H x y v u Q I rx ry h
  obtain ⟨A, dx, dy, z, bt, fx, fy, e, q⟩ := h
  cases fy with
  | @lst b ys es h2 f2 =>
    simp only [inDD, eqF_eq] at e
    split at e
    · rename_i hs
      cases e
      exact op_inD hu pins s σ H _ _ v u Q I rx ry ⟨dx, es, fx.dp, .lst h2.sq f2.dp, hs.1, hs.2, q _ _ (Same.refl _) (.bl _)⟩
    · cases e
  | @tup b ys es h2 f2 =>
    simp only [inDD, eqF_eq] at e
    split at e
    · rename_i hs
      cases e
      obtain ⟨as, r1⟩ := Dp.reads I dx x v fx.dp rx
      obtain ⟨bs, r2⟩ := Dp.reads I (.tuple es) (.ref b) u (Fz.dp (.tup h2 f2)) ry
      exact SeqAt.in_tuple_reads r2 r1 (SeqAt.canLay_of_shaped hs.2) (SeqAt.canLay_of_shaped hs.1) (room_in_shaped hs.1 hu) ⟨.bl _, H, I, rfl, q _ _ (Same.refl _) (.bl _)⟩
    · cases e
  | _ => cases e
theorem dop_nin (hu : X.A.units + 65 < cLine) : DOp X (compareOp .NotIn) ninDD := by
  intro pins s σ H x y v u Q I rx ry h
  obtain ⟨A, dx, dy, z, bt, fx, fy, e, q⟩ := h
  cases fy with
  | @lst b ys es h2 f2 =>
    simp only [ninDD, inDD, eqF_eq] at e
    split at e
    · rename_i z1 hz
      split at hz
      · rename_i hs
        cases hz
        cases e
        exact op_notInD hu pins s σ H _ _ v u Q I rx ry ⟨dx, es, fx.dp, .lst h2.sq f2.dp, hs.1, hs.2, q _ _ (Same.refl _) (.bl _)⟩
      · cases hz
    · cases e
  | @tup b ys es h2 f2 =>
    simp only [ninDD, inDD, eqF_eq] at e
    split at e
    · rename_i z1 hz
      split at hz
      · rename_i hs
        cases hz
        cases e
        obtain ⟨as, r1⟩ := Dp.reads I dx x v fx.dp rx
        obtain ⟨bs, r2⟩ := Dp.reads I (.tuple es) (.ref b) u (Fz.dp (.tup h2 f2)) ry
        exact SeqAt.notIn_tuple_reads r2 r1 (SeqAt.canLay_of_shaped hs.2) (SeqAt.canLay_of_shaped hs.1) (room_in_shaped hs.1 hu) ⟨.bl _, H, I, rfl, q _ _ (Same.refl _) (.bl _)⟩
      · cases hz
    · cases e
  | _ => cases e
end
section
variable [KFrag] {X : Cx} [HK X] {T : TX} {cs i : Nat} {ad : Addr} {cls : Value} {dx : Option Addr} {e : Expr} {f : D → En → CS → R W} {pos : Pos}
/-- name = .. within an except suite -/
theorem xs_set {j : Nat} {x : Str} {pos' : Pos} (hN' : X.N.Nodup) (hi : X.N[j]? = some x) (hx : Loc X.env.scope x) (h : XE1 X T cs i ad cls dx e f) (hs : swapsWith e (some (.Name x pos')) pos.line X.env = pure false := by rfl) (hf : X.fn x = true ∨ X.env.scope.names.lookup x = some .local := by first | exact .inl rfl | exact .inr rfl | assumption) :
    PSs X [.Assign [.Name x pos'] e pos] (tSu T cs i ad cls dx (fun x => gAsg (hN j) (f x))) := PSs_imp (pss_one (ps_set hN' hi hx h hs hf)) fun D σ H ⟨B, μ, s, ρ, x, r, e, hσ, hx, q⟩ =>
  tX_bindT r e hσ hx q fun w s1 v μ1 H1 _ r1 e1 x1 rel1 q1 => q1 _ μ1 H1 Stp.refl r1 (e1.set rel1 j)
end
theorem units65 {k : Nat} {A : Around} (r : Room k A) : A.units + 65 < cLine := by
  have := r.un
  omega
theorem law_spG [KFrag] {T : TX} {K : PySem.W.Frag} {r : List W → CS → R W} (hK : K = KFrag.K) (h : LawTrue r) : ∀ vs H Q E, spLaw K vs H Q E → spD T 1 r vs H Q E := fun vs H Q E z => by
  obtain ⟨e, B, μ, s, ws, σ, a, b, c⟩ := law_sp (T := T) hK h vs H Q E z
  exact ⟨e, B, μ, s, ws, σ, a, b, noX_un c⟩
/-! ### a call without arguments -/
section
variable [KFrag] {X : Cx} [HK X] {T : TX} {Wx : WXc} {f : Addr} {fd : FuncData} {ps : List Str} {k : Nat} {h : List W → CS → R W} {x : Str} {p pos : Pos}
theorem pe_callG0 {sp : Sp} (hgd : X.A.guards = some []) (tk : Takes X Wx) (F : FnG X.prog X.w X.K X.mg X.base k f fd ps sp) (hr : Room k X.A) (hg : Gl X x) (hm : X.mg x = some (.ref f)) (hk : PySem.W.keepIn X.K (.ref f) = true) (hb : Binds X.K fd ps [])
    (hdb : (x == ("__debug__" : Str)) = false := by decide) : PE X (.Call (.Name x p) [] [] pos) (tCallS sp (WE Wx) tNil) where
  run := fun pins s σ H Q I q => by
    refine wpAny_Call_Name_kw (ld_glob I hg hm (PySem.W.callWith_K0 I.kIn hk ?_) hdb)
    have q : sp [] H Q (WE Wx σ) := q
    have bd := hb s [] I.kIn (by simpa using F.len _ _ _ _ q)
    rw [List.append_nil] at bd
    refine wpAny_call (codeAny_mono (F.run X.A X.stack s H ⟨[], []⟩ [] [] Q (WE Wx σ) hgd hr I.env0 bd .nil q) fun z s2 hz => ?_)
    cases z with
    | error u => exact passAt tk σ pins H s u s2 I hz
    | ok fl =>
      cases fl with
      | ret u => exact I.after hz
      | next => exact hz.elim
      | brk => exact hz.elim
      | cont => exact hz.elim
theorem de_callPG0 (hgd : X.A.guards = some []) (tk : Takes X Wx) (F : FnG X.prog X.w X.K X.mg X.base k f fd ps (spD T 0 h)) (hr : Room k X.A) (hg : Gl X x) (hm : X.mg x = some (.ref f)) (hk : PySem.W.keepIn X.K (.ref f) = true) (hb : Binds X.K fd ps [])
    (hdb : (x == ("__debug__" : Str)) = false := by decide) : DE X T Wx (.Call (.Name x p) [] [] pos) (fCallP 0 (noX h) fNil) := PE_imp (pe_callG0 hgd tk F hr hg hm hk hb hdb) fun σ H Q ⟨B, μ, s, ρ, r, e, q⟩ => by
  have q : Fin T Wx B μ s H σ Q (pureR (noX h) [] s) := q
  exact ⟨rfl, Av B μ s, [], [], [], σ, r.pure, .nil, noX_un (pure_fin (Wy := fun _ _ _ _ => False) (σ' := σ) r q)⟩
end
/-! ### a new list out of two, that may change -/
def catC (w u : W) (s : CS) : R W := match w, u with
  | .d (.list a), .d (.list b) => if a.length + b.length ≤ line then .ok (.c s.length) (s ++ [.lst (a ++ b)]) else .bad
  | _, _ => .bad
def fCatC (fa fb : En → CS → R W) (ρ : En) (s : CS) : R W := (fa ρ s).bind fun x s => (fb ρ s).bind fun y s => catC x y s
theorem de_catC [KFrag] {X : Cx} {T : TX} {Wx : WXc} {a b : Expr} {fa fb : En → CS → R W} {pos : Pos} (ha : DE X T Wx a fa) (hb : DE X T Wx b fb) : DE X T Wx (.BinOp a .Add b pos) (fCatC fa fb) := PE_imp (pe_op op_cat ha hb) fun σ H Q ⟨B, μ, s, ρ, r, e, q⟩ =>
  tD_bind r e q fun w s1 v μ1 H1 st1 r1 e1 rel1 q1 => tD_bind r1 e1 q1 fun u s2 v2 μ2 H2 st2 r2 e2 rel2 q2 => by
    unfold catC at q2
    split at q2
    · split at q2
      · rename_i hl
        have ra : Fz H2 (Av B μ2 s2) v (.list _) := Rp.stp (a := W) (b := V) st2 rel1
        have rb : Fz H2 (Av B μ2 s2) v2 (.list _) := rel2
        cases ra with
        | @lst p1 xs _ h1 f1 =>
          cases rb with
          | @lst p2 ys _ h2 f2 =>
            refine ⟨_, _, xs, ys, rfl, rfl, h1.1, h2.1, by rw [f1.len, f2.len, line_eq]; exact hl, fun p hp => ?_⟩
            obtain ⟨sr, st⟩ := newC r2 hp (f1.app f2)
            refine q2 _ _ _ st sr ⟨p, rfl, ?_⟩
            rw [← r2.len]
            simp
      · exact q2.elim
    · exact q2.elim
end DL
namespace DL
open PySem PySem.Spec PyProof.Rows L2
/-! ### dicts whose keys are tuples -/
section
variable [KFrag] {P : Program} {w : World} {H : Hp} {h : Heap} {A : Addr → Prop}
theorem FT.at_ {a : Addr} {xs : List V} (ok : HOk P w H h) (ki : KFrag.K.In h) (f : FT H A a xs) : ∃ (its : List Value), Vals xs its ∧ ∃ (o : Obj) (n : Nat), h.get? a = some o ∧ o.cls = .type "tuple" ∧ o.data = .seq its.toArray n := by
  rcases f with f | ⟨o, its, n, h1, h2, h3, _, h4⟩
  · obtain ⟨_, its, rv, o, h1, h2, n, h3⟩ := (show ObjOk P w H h _ (.tup _) from ok _ _ f.1)
    exact ⟨its, rv, o, n, h1, h2, h3⟩
  · exact ⟨its.toList, h4, o, n, ki _ _ h1, h2, by simpa using h3⟩
mutual
theorem nkey_is (ok : HOk P w H h) (ki : KFrag.K.In h) : ∀ {v : V} {d : D} {u : Value} {k : NestedKey}, Fz H A v d → RelV v u → nkey d = some k → NestedIs h k u
  | _, _, _, _, .non, r, e => by
    simp only [nkey] at e
    cases e
    cases (show _ = Value.none from r)
    exact .none
  | _, _, _, _, .bl b, r, e => by
    simp only [nkey] at e
    cases e
    cases (show _ = Value.bool b from r)
    exact .bool rfl
  | _, _, _, _, .int i, r, e => by
    simp only [nkey] at e
    cases e
    obtain ⟨t, rfl⟩ := (show ∃ t, _ = Value.int i t from r)
    exact .int i t
  | _, _, _, _, .str x, r, e => by
    simp only [nkey] at e
    cases e
    obtain ⟨t, rfl⟩ := (show ∃ t, _ = Value.str x t from r)
    exact .text x t
  | _, _, _, _, .lst _ _, r, e => by
    simp only [nkey] at e
    cases e
  | _, _, _, _, .tup f t, r, e => by
    simp only [nkey] at e
    obtain ⟨ks, e1, rfl⟩ := Option.map_eq_some_iff.mp e
    cases (show _ = Value.ref _ from r)
    obtain ⟨its, rv, o, n, h1, h2, h3⟩ := f.at_ ok ki
    exact .tup h1 h2 h3 (nkeys_is ok ki t (by simpa using rv) e1)
theorem nkeys_is (ok : HOk P w H h) (ki : KFrag.K.In h) : ∀ {v : List V} {d : List D} {u : List Value} {k : List NestedKey}, Fzs H A v d → Vals v u → nkeys d = some k → NestedAll h k u
  | _, _, _, _, .nil, r, e => by
    simp only [nkeys] at e
    cases e
    cases r
    exact .nil
  | _, _, _, _, .cons f t, r, e => by
    simp only [nkeys] at e
    cases r with
    | cons r1 r2 =>
      split at e
      · rename_i z1 z2
        cases e
        exact .cons (nkey_is ok ki f r1 z1) (nkeys_is ok ki t r2 z2)
      · cases e
end
abbrev KR : List (NestedKey × Addr × V) → List (NestedKey × Addr × Value) → Prop := Paired (fun (e : NestedKey × Addr × V) (x : NestedKey × Addr × Value) => e.1 = x.1 ∧ e.2.1 = x.2.1 ∧ RelV e.2.2 x.2.2)
theorem KPs.len {H : Hp} {A : Addr → Prop} : ∀ {es : List (NestedKey × Addr × V)} {ds : List (D × D)}, KPs H A es ds → es.length = ds.length
  | _, _, .nil => rfl
  | _, _, .cons _ _ _ _ t => by rw [List.length_cons, List.length_cons, KPs.len t]
theorem KPs_is (ok : HOk P w H h) (ki : KFrag.K.In h) : ∀ {es : List (NestedKey × Addr × V)} {ds : List (D × D)} {xs : List (NestedKey × Addr × Value)}, KPs H A es ds → KR es xs → ∀ x ∈ xs, (nestedKind P w).is h x.1 x.2.1
  | _, _, _, .nil, .nil, x, hx => nomatch hx
  | _, _, _, .cons e1 e2 f g t, .cons r1 r2, x, hx => by
    rcases List.mem_cons.mp hx with z | z
    · subst z
      rw [← r1.1, ← r1.2.1]
      exact ⟨nkey_is ok ki f (u := .ref _) rfl e1, e2⟩
    · exact KPs_is ok ki t r2 x z
theorem dct_of {a : Addr} {es : List (NestedKey × Addr × V)} {ds : List (D × D)} (ok : HOk P w H h) (ki : KFrag.K.In h) (e : H a = some (DObj w a es)) (kp : KPs H A es ds) :
    es.length ≤ sizeLine ∧ (a == sysModules) = false ∧ ∃ xs, KR es xs ∧ h.DictOfH (nestedKind P w) a xs := by
  obtain ⟨⟨z1, z2, xs, rel, o, eps, ep, h1, h2, h3, h4, h5⟩, _, _⟩ := (show ObjOk P w H h a (DObj w a es) from ok _ _ e)
  exact ⟨z2, z1, xs, rel, o, eps, ep, h1, h2, h3, h4, KPs_is ok ki kp rel, h5⟩
theorem dct_ok {H' : Hp} {h' : Heap} {a : Addr} {es : List (NestedKey × Addr × V)} {xs : List (NestedKey × Addr × Value)} (z : es.length ≤ sizeLine) (hd : (a == sysModules) = false) (rel : KR es xs) (dd : h'.DictOfH (nestedKind P w) a xs) :
    ObjOk P w H' h' a (DObj w a es) := by
  obtain ⟨o, eps, ep, h1, h2, h3, h4, _, h5⟩ := dd
  refine ⟨⟨hd, z, xs, rel, o, eps, ep, h1, h2, h3, h4, h5⟩, ⟨o, h1⟩, fun g1 g2 q k => ?_⟩
  obtain ⟨y1, y2, ys, r, u, fs, fp, e1, e2⟩ := q
  exact ⟨y1, y2, ys, r, u, fs, fp, k _ e1, e2⟩
end

/-! the operations on keys and values -/
mutual
theorem eqv_key : ∀ {x y : D} {k l : NestedKey}, nkey x = some k → nkey y = some l → PyData.eqv x y = NestedKey.beq k l
  | .none, y, k, l, e, f => by
    simp only [nkey] at e; cases e
    cases y <;> simp only [nkey] at f <;> first | (cases f; rfl) | cases f | (obtain ⟨ks, _, rfl⟩ := Option.map_eq_some_iff.mp f; rfl)
  | .bool b, y, k, l, e, f => by
    simp only [nkey] at e; cases e
    cases y with
    | bool c => simp only [nkey] at f; cases f; cases b <;> cases c <;> rfl
    | int j => simp only [nkey] at f; cases f; simp only [PyData.eqv, NestedKey.beq]; cases b <;> rfl
    | tuple ys => simp only [nkey] at f; obtain ⟨ks, _, rfl⟩ := Option.map_eq_some_iff.mp f; rfl
    | none => simp only [nkey] at f; cases f; rfl
    | str s => simp only [nkey] at f; cases f; rfl
    | _ => simp only [nkey] at f; cases f
  | .int i, y, k, l, e, f => by
    simp only [nkey] at e; cases e
    cases y with
    | bool c => simp only [nkey] at f; cases f; simp only [PyData.eqv, NestedKey.beq]; cases c <;> rfl
    | int j => simp only [nkey] at f; cases f; simp only [PyData.eqv, NestedKey.beq]; rfl
    | tuple ys => simp only [nkey] at f; obtain ⟨ks, _, rfl⟩ := Option.map_eq_some_iff.mp f; rfl
    | none => simp only [nkey] at f; cases f; rfl
    | str s => simp only [nkey] at f; cases f; rfl
    | _ => simp only [nkey] at f; cases f
  | .str x, y, k, l, e, f => by
    simp only [nkey] at e; cases e
    cases y with
    | str s =>
      simp only [nkey] at f; cases f; simp only [PyData.eqv, NestedKey.beq]
      exact Bool.eq_iff_iff.mpr (by simp)
    | tuple ys => simp only [nkey] at f; obtain ⟨ks, _, rfl⟩ := Option.map_eq_some_iff.mp f; rfl
    | none => simp only [nkey] at f; cases f; rfl
    | bool c => simp only [nkey] at f; cases f; rfl
    | int c => simp only [nkey] at f; cases f; rfl
    | _ => simp only [nkey] at f; cases f
  | .tuple xs, y, k, l, e, f => by
    simp only [nkey] at e
    obtain ⟨ks, e1, rfl⟩ := Option.map_eq_some_iff.mp e
    cases y with
    | tuple ys =>
      simp only [nkey] at f
      obtain ⟨ls, f1, rfl⟩ := Option.map_eq_some_iff.mp f
      simp only [PyData.eqv, NestedKey.beq]
      exact eqvAll_key e1 f1
    | none => simp only [nkey] at f; cases f; rfl
    | bool c => simp only [nkey] at f; cases f; rfl
    | int c => simp only [nkey] at f; cases f; rfl
    | str c => simp only [nkey] at f; cases f; rfl
    | _ => simp only [nkey] at f; cases f
  | .list xs, y, k, l, e, f => by simp only [nkey] at e; cases e
  | .dict xs, y, k, l, e, f => by simp only [nkey] at e; cases e
theorem eqvAll_key : ∀ {xs ys : List D} {ks ls : List NestedKey}, nkeys xs = some ks → nkeys ys = some ls → PyData.eqvAll xs ys = NestedKey.beqAll ks ls
  | [], ys, ks, ls, e, f => by
    simp only [nkeys] at e; cases e
    cases ys with
    | nil => simp only [nkeys] at f; cases f; rfl
    | cons y ys =>
      simp only [nkeys] at f
      split at f
      · cases f; rfl
      · cases f
  | x :: xs, ys, ks, ls, e, f => by
    simp only [nkeys] at e
    split at e
    · rename_i z1 z2
      cases e
      cases ys with
      | nil => simp only [nkeys] at f; cases f; rfl
      | cons y ys =>
        simp only [nkeys] at f
        split at f
        · rename_i y1 y2
          cases f
          simp only [PyData.eqvAll, NestedKey.beqAll]
          rw [eqv_key z1 y1, eqvAll_key z2 y2]
        · cases f
    · cases e
end
/-- what stands under a key -/
def lookD : List (D × D) → D → Option D
  | [], _ => none
  | p :: r, k => if eqF 8 p.1 k = true then some p.2 else lookD r k
/-- .. put there -/
def putD : List (D × D) → D → D → List (D × D)
  | [], k, v => [(k, v)]
  | p :: r, k, v => if eqF 8 p.1 k = true then (p.1, v) :: r else p :: putD r k v
/-- a key that may be asked for -/
def keyOk (d : D) : Bool := match d with
  | .tuple _ => match nkey d with
    | some k => decide (k.depth ≤ 8)
    | none => false
  | _ => false
theorem keyOk_of {d : D} (h : keyOk d = true) : ∃ xs k, d = .tuple xs ∧ nkey d = some k ∧ k.depth ≤ 8 := by
  unfold keyOk at h
  split at h
  · split at h
    · rename_i z
      exact ⟨_, _, rfl, z, of_decide_eq_true h⟩
    · cases h
  · cases h
section
variable [KFrag] {P : Program} {w : World} {H : Hp} {h : Heap} {A : Addr → Prop}
theorem look_kp : ∀ {es : List (NestedKey × Addr × V)} {ds : List (D × D)} {xs : List (NestedKey × Addr × Value)} {d : D} {k : NestedKey}, KPs H A es ds → KR es xs → nkey d = some k →
    (∀ y, lookD ds d = some y → ∃ p v, atKey xs k = some p ∧ RelV v p.2 ∧ Fz H A v y) ∧ (lookD ds d = none → atKey xs k = none)
  | _, _, _, _, _, .nil, .nil, _ => ⟨fun _ e => (nomatch e), fun _ => rfl⟩
  | _, _, _, d, k, .cons (x := x) (y := z) e1 e2 f g t, .cons (b := b) (l₂ := xs) r1 r2, e => by
    obtain ⟨i1, i2⟩ := look_kp t r2 e
    have q := eqv_key e1 e
    have hb : atKey (b :: xs) k = if decide (b.1 = k) = true then some b.2 else atKey xs k := by
      unfold atKey
      rw [List.find?_cons]
      cases decide (b.1 = k) <;> simp
    rw [hb, ← r1.1, NestedKey.decide_eq, ← q]
    unfold lookD
    rw [eqF_eq]
    cases PyData.eqv x d with
    | true => exact ⟨fun y hy => by cases hy; exact ⟨_, _, rfl, r1.2.2, g⟩, fun hy => by cases hy⟩
    | false => exact ⟨i1, i2⟩
theorem stored_cons {b : NestedKey × Addr × Value} {xs : List (NestedKey × Addr × Value)} {k : NestedKey} {a : Addr} {u : Value} (hn : ((b :: xs).map (·.1)).Nodup) :
    storedH (b :: xs) k a u = if b.1 = k then (b.1, b.2.1, u) :: xs else b :: storedH xs k a u := by
  have hb : atKey (b :: xs) k = if decide (b.1 = k) = true then some b.2 else atKey xs k := by
    unfold atKey
    rw [List.find?_cons]
    cases decide (b.1 = k) <;> simp
  unfold storedH
  rw [hb]
  by_cases h : b.1 = k
  · rw [if_pos h, if_pos (by simp [h]), List.map_cons]
    have e : putAt k u b = (b.1, b.2.1, u) := by unfold putAt; rw [if_pos h]
    rw [e]
    congr 1
    have hn' := (List.nodup_cons.mp (by rw [← List.map_cons]; exact hn)).1
    refine (List.map_congr_left fun x hx => ?_).trans (List.map_id _)
    unfold putAt
    rw [if_neg fun z => hn' (by rw [h, ← z]; exact List.mem_map_of_mem hx)]
    rfl
  · rw [if_neg h, if_neg (show ¬ decide (b.1 = k) = true by simpa using h)]
    split
    · rw [List.map_cons]
      unfold putAt
      rw [if_neg h]
    · rfl
theorem put_kp : ∀ {es : List (NestedKey × Addr × V)} {ds : List (D × D)} {xs : List (NestedKey × Addr × Value)} {d y : D} {k : NestedKey} {a : Addr} {v : V} {u : Value}, KPs H A es ds → KR es xs → (xs.map (·.1)).Nodup →
    nkey d = some k → k.depth ≤ 8 → Fz H A (.ref a) d → Fz H A v y → RelV v u → ∃ es', KPs H A es' (putD ds d y) ∧ KR es' (storedH xs k a u) ∧ es'.length ≤ es.length + 1
  | _, _, _, d, y, k, a, v, u, .nil, .nil, _, e1, e2, f, g, r => ⟨[(k, a, v)], .cons e1 e2 f g .nil, .cons ⟨rfl, rfl, r⟩ .nil, Nat.le_refl _⟩
  | _, _, _, d, y, k, a, v, u, .cons (k := k0) (a := a0) (v := v0) (x := x) (y := z) (es := es) (ds := ds) c1 c2 cf cg t, .cons (b := b) (l₂ := xs) r1 r2, hn, e1, e2, f, g, r => by
    have q := eqv_key c1 e1
    rw [stored_cons hn, ← r1.1]
    unfold putD
    rw [eqF_eq]
    by_cases h : k0 = k
    · have h2 : PyData.eqv x d = true := by rw [q, h]; exact NestedKey.beq_self _
      rw [if_pos h]
      simp only [h2, if_true]
      exact ⟨(k0, a0, v) :: es, .cons c1 c2 cf g t, .cons ⟨rfl, r1.2.1, r⟩ r2, by simp⟩
    · have h2 : PyData.eqv x d = false := by
        rw [q]
        cases w : NestedKey.beq k0 k with
        | false => rfl
        | true => exact absurd (NestedKey.eq_of_beq _ _ w) h
      rw [if_neg h]
      simp only [h2, if_false, Bool.false_eq_true]
      obtain ⟨es', i1, i2, i3⟩ := put_kp t r2 (List.nodup_cons.mp (by rw [← List.map_cons]; exact hn)).2 e1 e2 f g r
      exact ⟨(k0, a0, v0) :: es', .cons c1 c2 cf cg i1, .cons r1 i2, by simp; omega⟩
theorem dct_rd {a : Addr} {es : List (NestedKey × Addr × V)} {ds : List (D × D)} (ok : HOk P w H h) (ki : KFrag.K.In h) (e : Rd H a (DObj w a es)) (kp : KPs H A es ds) :
    es.length ≤ sizeLine ∧ (a == sysModules) = false ∧ ∃ xs, KR es xs ∧ h.DictOfH (nestedKind P w) a xs := by
  obtain ⟨⟨z1, z2, xs, rel, o, eps, ep, h1, h2, h3, h4, h5⟩, _, _⟩ := (show ObjOk P w H h a (DObj w a es) from rd_of ok e)
  exact ⟨z2, z1, xs, rel, o, eps, ep, h1, h2, h3, h4, KPs_is ok ki kp rel, h5⟩
end
/-- a dict that may be read -/
def NRd [KFrag] (w : World) (H : Hp) (A : Addr → Prop) (x : V) (ds : List (D × D)) : Prop := ∃ a es, x = .ref a ∧ Rd H a (DObj w a es) ∧ KPs H A es ds
section
variable [KFrag] {X : Cx} [HK X] {pins : List (Addr × Obj)} {σ : L2.St} {H : Hp} {s : Shared} {B : Around} {E : Value → Shared → Prop} {A : Addr → Prop} {x y : V} {u r : Value} {ds : List (D × D)} {d z : D} {a : Addr}
theorem kin (I : Inv X pins σ H s) : KFrag.K.In s.heap := by rw [← HK.eq (X := X)]; exact I.kIn
theorem nest_room {P : Program} {w : World} (hu : B.units + 64 < cLine) : (nestedKind P w).room B.in1 := by
  show B.units + 1 + 8 < cLine
  omega
theorem n_key (I : Inv X pins σ H s) (f : Fz H A y d) (ry : RelV y u) (hk : keyOk d = true) : ∃ a k, y = .ref a ∧ u = .ref a ∧ nkey d = some k ∧ k.depth ≤ 8 ∧ (nestedKind X.prog X.w).is s.heap k a := by
  obtain ⟨xs, k, rfl, e, hd⟩ := keyOk_of hk
  have q := nkey_is I.hok (kin I) f ry e
  cases f with
  | tup f1 f2 =>
    cases (show u = Value.ref _ from ry)
    exact ⟨_, k, rfl, rfl, e, hd, q, hd⟩
theorem n_get {Q : Value → Shared → Prop} (hu : B.units + 64 < cLine) (I : Inv X pins σ H s) (g : NRd X.w H A (.ref a) ds) (f : Fz H A y d) (ry : RelV y u) (hk : keyOk d = true) (hl : lookD ds d = some z)
    (h : ∀ v w' s', Fz H A v z → Inv X pins σ H s' → RelV v w' → Q w' s') : wpAny (model X.prog X.w) B (getItem (.ref a) u) Q E s := by
  obtain ⟨a', es, e, rd, kp⟩ := g
  cases e
  obtain ⟨b, k, rfl, rfl, e1, e2, hi⟩ := n_key I f ry hk
  obtain ⟨_, hs, xs, rel, dd⟩ := dct_rd I.hok (kin I) rd kp
  obtain ⟨p, v, e3, rv, fv⟩ := (look_kp kp rel e1).1 z hl
  exact wpAny_getItem_heap (nest_room hu) hi dd e3 (h v _ _ fv (I.tok _) rv)
theorem n_in {Q : Value → Shared → Prop} (hu : B.units + 64 < cLine) (I : Inv X pins σ H s) (g : NRd X.w H A (.ref a) ds) (f : Fz H A y d) (ry : RelV y u) (hk : keyOk d = true)
    (h : ∀ s', Inv X pins σ H s' → Q (.bool (lookD ds d).isSome) s') : wpAny (model X.prog X.w) B (compareOp .In u (.ref a)) Q E s := by
  obtain ⟨a', es, e, rd, kp⟩ := g
  cases e
  obtain ⟨b, k, rfl, rfl, e1, e2, hi⟩ := n_key I f ry hk
  obtain ⟨_, hs, xs, rel, dd⟩ := dct_rd I.hok (kin I) rd kp
  refine wpAny_in_heap (nest_room hu) hi hs dd ?_
  have q : (atKey xs k).isSome = (lookD ds d).isSome := by
    cases z : lookD ds d with
    | none => rw [(look_kp kp rel e1).2 z]; rfl
    | some y => obtain ⟨p, v, e3, _⟩ := (look_kp kp rel e1).1 y z; rw [e3]; rfl
  rw [q]
  exact h _ (I.tok _)
theorem n_notIn {Q : Value → Shared → Prop} (hu : B.units + 64 < cLine) (I : Inv X pins σ H s) (g : NRd X.w H A (.ref a) ds) (f : Fz H A y d) (ry : RelV y u) (hk : keyOk d = true)
    (h : ∀ s', Inv X pins σ H s' → Q (.bool (!(lookD ds d).isSome)) s') : wpAny (model X.prog X.w) B (compareOp .NotIn u (.ref a)) Q E s := by
  obtain ⟨a', es, e, rd, kp⟩ := g
  cases e
  obtain ⟨b, k, rfl, rfl, e1, e2, hi⟩ := n_key I f ry hk
  obtain ⟨_, hs, xs, rel, dd⟩ := dct_rd I.hok (kin I) rd kp
  refine wpAny_notIn_heap (nest_room hu) hi hs dd ?_
  have q : (atKey xs k).isSome = (lookD ds d).isSome := by
    cases z : lookD ds d with
    | none => rw [(look_kp kp rel e1).2 z]; rfl
    | some y => obtain ⟨p, v, e3, _⟩ := (look_kp kp rel e1).1 y z; rw [e3]; rfl
  rw [q]
  exact h _ (I.tok _)
theorem n_put {es : List (NestedKey × Addr × V)} {v : V} {Q : Unit → Shared → Prop} (hu : B.units + 64 < cLine) (I : Inv X pins σ H s) (e : H a = some (DObj X.w a es)) (kp : KPs H A es ds) (f : Fz H A y d) (ry : RelV y u) (hk : keyOk d = true)
    (fv : Fz H A v z) (rv : RelV v r) (hz : ds.length < line) (h : ∀ es' s', KPs H A es' (putD ds d z) → Inv X pins σ (upd H a (DObj X.w a es')) s' → Q () s') : wpAny (model X.prog X.w) B (setItem (.ref a) u r) Q E s := by
  obtain ⟨b, k, rfl, rfl, e1, e2, hi⟩ := n_key I f ry hk
  obtain ⟨hl, hs, xs, rel, dd⟩ := dct_of I.hok (kin I) e kp
  have hle : es.length = ds.length := kp.len
  have hxs : xs.length ≤ sizeLine := by rw [← Paired.length rel]; exact hl
  obtain ⟨_, _, _, _, _, _, _, _, hn⟩ := id dd
  obtain ⟨es', k1, k2, k3⟩ := put_kp kp rel hn e1 e2 f fv rv
  refine wpAny_setItem_heap (hsz := hxs) (nest_room hu) hi dd fun h' dd' hsb => h es' _ k1 ?_
  have he : ∃ q, h'.get? a = some q := let ⟨q, _, _, hq, _⟩ := dd'; ⟨q, hq⟩
  refine d_write I (by rw [e]; exact True.intro) hsb he (dct_ok ?_ hs k2 dd')
  rw [sizeLine_eq]
  unfold line at hz
  omega
end
end DL
namespace DL
open PySem PySem.Spec PyProof.Rows L2
/-! ### dicts whose keys are tuples: expressions and statements -/
theorem dobj_empty [KFrag] {P : Program} {w : World} {H : Hp} (h : Heap) (hb : sysModules < h.objs.size) : ObjOk P w H (h.push { cls := .type "dict", data := .dict #[] }) h.objs.size (DObj w h.objs.size []) :=
  dct_ok (P := P) (Nat.zero_le _) (beq_eq_false_iff_ne.mpr (Ne.symm (Nat.ne_of_lt hb))) .nil ⟨_, #[], 0, Heap.get?_push_size _ rfl, ⟨rfl, rfl, rfl⟩, rfl, rfl, (fun _ h => by cases h), List.nodup_nil⟩
section
variable [KFrag] {X : Cx} [HK X] {o i e value : Expr} {pos pos' tpos : Pos} {td ty tv : TE}
theorem pe_nnew : PE X (.Dict [] [] pos) (fun _ H Q => ∀ p, H p = none → Q (.ref p) (upd H p (DObj X.w p []))) := ⟨fun pins s σ H Q I h =>
  wpAny_Dict_empty ⟨.ref s.heap.objs.size, _, I.laid (a := s.heap.objs.size) (o := DObj X.w s.heap.objs.size []) (t' := s.toks) (fun _ _ q => Heap.get?_push_of_some _ q) (Nat.le_refl _) (dobj_empty s.heap I.big), rfl, h _ (I.hok.fresh (Nat.le_refl _))⟩⟩
/-- {k: v} -/
theorem pe_nnew1 (hu : X.A.units + 64 < cLine) (hk : PE X i ty) (hv : PE X value tv) : PE X (.Dict [some i] [value] pos) (fun σ H Q => ∀ p, H p = none → ty σ (upd H p (DObj X.w p [])) fun x H1 => tv σ H1 fun y H2 => H2 p = some (DObj X.w p []) ∧
    ∃ A d z, Fz H2 A x d ∧ keyOk d = true ∧ Fz H2 A y z ∧ ∀ es', KPs H2 A es' [(d, z)] → Q (.ref p) (upd H2 p (DObj X.w p es'))) := by
  refine ⟨fun pins s σ H Q I q => ?_⟩
  have hn := I.hok.fresh (Nat.le_refl s.heap.objs.size)
  have I1 := I.laid (a := s.heap.objs.size) (o := DObj X.w s.heap.objs.size []) (h' := s.heap.push { cls := .type "dict", data := .dict #[] }) (t' := s.toks) (fun _ _ q => Heap.get?_push_of_some _ q) (Nat.le_refl _) (dobj_empty s.heap I.big)
  rw [arm_eval_Dict, show (evalEachOpt [some i] X.env).zip ((evalEach [value] X.env).map fun v => do let x ← v; standAt pos; pure x) = (pairTrees [some i] [value] X.env pos).map (fun p => (some p.1, p.2)) from rfl,
    dictDisplay_pairs (pairTrees [some i] [value] X.env pos) (by simp [pairTrees]) (by simp [pairTrees])]
  refine wpAny_bind (wpAny_standAt (wpAny_bind (wpAny_subDictH (knd := nestedKind X.prog X.w) (Q := fun d s' => wpAny (model X.prog X.w) X.A (pure (Value.ref d)) _ _ s') (by show X.A.units + 8 < cLine; omega) (by simp [pairTrees]) ?_)))
  refine pairTrees_cons_walk (thn (hk.run pins _ σ _ _ I1 (q _ hn)) fun u s1 ⟨x, H1, I1, ru, q1⟩ => thn (hv.run pins s1 σ H1 _ I1 q1) fun w2 s2 ⟨y, H2, I2, rv, ep, A, d, z, fx, hd, fy, q2⟩ => pairTrees_nil_walk ?_)
  obtain ⟨b, k, rfl, rfl, e1, e2, hi⟩ := n_key I2 fx ru hd
  obtain ⟨hl, hs, xs, rel, dd⟩ := dct_of (A := fun _ => False) I2.hok (kin I2) ep .nil
  cases rel
  refine ⟨[(k, b, w2)], ⟨rfl, rfl, hi, True.intro⟩, dd, fun h' tk dd' hsb => wpAny_pure ⟨.ref s.heap.objs.size, _, ?_, rfl, q2 [(k, b, y)] (.cons e1 e2 fx fy .nil)⟩⟩
  have he : ∃ q, h'.get? s.heap.objs.size = some q := let ⟨q, _, _, hq, _⟩ := dd'; ⟨q, hq⟩
  refine d_write I2 (by rw [ep]; exact True.intro) hsb he (dct_ok (by rw [sizeLine_eq]; simp) hs (.cons ⟨rfl, rfl, rv⟩ .nil) dd')
def tNGet [KFrag] (w : World) (td ty : TE) : TE := fun σ H Q => td σ H fun x H1 => ty σ H1 fun y H2 => ∃ A ds d z, NRd w H2 A x ds ∧ Fz H2 A y d ∧ keyOk d = true ∧ lookD ds d = some z ∧ ∀ v, Fz H2 A v z → Q v H2
theorem n_typeIs {pins : List (Addr × Obj)} {σ : L2.St} {H : Hp} {s : Shared} {A : Addr → Prop} {a : Addr} {ds : List (D × D)} (I : Inv X pins σ H s) (g : NRd X.w H A (.ref a) ds) : s.TypeIs (.ref a) "dict" := by
  obtain ⟨a', es, e, rd, kp⟩ := g
  cases e
  obtain ⟨_, _, xs, _, dd⟩ := dct_rd I.hok (kin I) rd kp
  exact dd.typeIs
theorem pe_nget (hu : X.A.units + 64 < cLine) (ho : PE X o td) (hi : PE X i ty) (hs : NoSl i) : PE X (.Subscript o i pos) (tNGet X.w td ty) := by
  refine ⟨fun pins s σ H Q I h => ?_⟩
  refine subD_of PySem.F.slot_dict_getitem.lookup hs (thn (ho.run pins s σ H _ I h) fun u s1 ⟨x, H1, I1, rx, q1⟩ => thn (hi.run pins s1 σ H1 _ I1 q1) fun iv s2 ⟨y, H2, I2, ry, A, ds, d, z, g, f, hk, hl, q2⟩ => ?_)
  obtain ⟨a, es, rfl, g2⟩ := id g
  obtain rfl : u = Value.ref a := rx
  exact ⟨n_typeIs I2 g, n_get hu I2 g f ry hk hl fun v w' s3 fv I3 rw' => ⟨v, H2, I3, rw', q2 v fv⟩⟩
def tNIn [KFrag] (neg : Bool) (w : World) (ty td : TE) : TE := fun σ H Q => ty σ H fun y H1 => td σ H1 fun x H2 => ∃ A ds d, NRd w H2 A x ds ∧ Fz H2 A y d ∧ keyOk d = true ∧ Q (.bl (xor neg (lookD ds d).isSome)) H2
theorem pc_nin (hu : X.A.units + 64 < cLine) (hi : PE X i ty) (ho : PE X o td) : PC X .In i o (tNIn false X.w ty td) := by
  refine ⟨fun pins s σ H Q I h => ?_⟩
  refine thn (hi.run pins s σ H _ I h) fun iv s1 ⟨y, H1, I1, ry, q1⟩ => thn (ho.run pins s1 σ H1 _ I1 q1) fun u s2 ⟨x, H2, I2, rx, A, ds, d, g, f, hk, q2⟩ => ?_
  obtain ⟨a, es, rfl, g2⟩ := id g
  obtain rfl : u = Value.ref a := rx
  refine n_in hu I2 g f ry hk fun s3 I3 => ⟨.bl (lookD ds d).isSome, H2, I3, rfl, ?_⟩
  rw [Bool.false_xor] at q2
  exact q2
theorem pc_nnotin (hu : X.A.units + 64 < cLine) (hi : PE X i ty) (ho : PE X o td) : PC X .NotIn i o (tNIn true X.w ty td) := by
  refine ⟨fun pins s σ H Q I h => ?_⟩
  refine thn (hi.run pins s σ H _ I h) fun iv s1 ⟨y, H1, I1, ry, q1⟩ => thn (ho.run pins s1 σ H1 _ I1 q1) fun u s2 ⟨x, H2, I2, rx, A, ds, d, g, f, hk, q2⟩ => ?_
  obtain ⟨a, es, rfl, g2⟩ := id g
  obtain rfl : u = Value.ref a := rx
  refine n_notIn hu I2 g f ry hk fun s3 I3 => ⟨.bl (!(lookD ds d).isSome), H2, I3, rfl, ?_⟩
  rw [Bool.true_xor] at q2
  exact q2
/-- d[y] = v -/
def sNPut [KFrag] (w : World) (td ty tv : TE) : TS := fun D σ H => tv σ H fun v H1 => td σ H1 fun x H2 => ty σ H2 fun y H3 => ∃ A a es ds d z, x = .ref a ∧ H3 a = some (DObj w a es) ∧ KPs H3 A es ds ∧ Fz H3 A y d ∧ keyOk d = true ∧ Fz H3 A v z ∧ ds.length < line ∧
  ∀ es', KPs H3 A es' (putD ds d z) → D.nx σ (upd H3 a (DObj w a es'))
theorem ps_nput (hu : X.A.units + 64 < cLine) (ho : PE X o td) (hi : PE X i ty) (hv : PE X value tv) (hs : swapsWith value (some (.Subscript o i pos')) pos.line X.env = pure false) :
    PS X (.Assign [.Subscript o i pos'] value pos) (sNPut X.w td ty tv) := by
  refine ⟨fun pins s σ H D I h => ?_⟩
  refine wpAny_Assign_Subscript (thn (hv.run pins s σ H _ I h) fun r s1 ⟨v, H1, I1, rv, q1⟩ => thn (ho.run pins s1 σ H1 _ I1 q1) fun u s2 ⟨x, H2, I2, rx, q2⟩ => thn (hi.run pins s2 σ H2 _ I2 q2) fun iv s3 ⟨y, H3, I3, ry, A, a, es, ds, d, z, ex, e, kp, f, hk, fv, hz, q3⟩ => ?_) hs
  subst ex
  obtain rfl : u = Value.ref a := rx
  exact n_put hu I3 e kp f ry hk fv rv hz fun es' s4 k1 I4 => ⟨σ, _, I4, q3 es' k1⟩
/-- an object that no one changes any more -/
theorem pe_lockV {t : TE} (h : PE X e t) : PE X e (fun σ H Q => t σ H fun v H1 => Q v H1 ∨ ∃ a u, v = .ref a ∧ H1 a = some u ∧ Mut (some u) ∧ ∀ od, Q v (upd H1 a (.frz od u))) := ⟨fun pins s σ H Q I z =>
  thn (h.run pins s σ H _ I z) fun w s1 ⟨v, H1, I1, rv, q⟩ => q.elim (fun q => ⟨v, H1, I1, rv, q⟩) fun ⟨a, u, ev, ea, mu, q⟩ => let ⟨od, I2⟩ := I1.lock ea mu; ⟨v, _, I2, rv, q od⟩⟩
end
/-! walking the keys -/
def Itn (w : World) (d : Addr) (o : Obj) (es : List (NestedKey × Addr × V)) : It :=
  ⟨fun i H => H d = some (.frz o (DObj w d es)) ∧ i < es.length, fun i H x H' => H' = H ∧ ∃ e, es[i]? = some e ∧ x = .ref e.2.1, fun i H => H d = some (.frz o (DObj w d es)) ∧ es.length ≤ i⟩
theorem walk_n {w : World} {d : Addr} {o : Obj} {es : List (NestedKey × Addr × V)} : Walk (Itn w d o es) es.length (fun H => H d = some (.frz o (DObj w d es))) (fun i H x H' => H' = H ∧ ∃ e, es[i]? = some e ∧ x = .ref e.2.1) :=
  ⟨fun _ _ hi q => ⟨q, hi⟩, fun _ q => ⟨q, Nat.le_refl _⟩, fun _ _ _ _ _ _ y => y⟩
theorem frzN [KFrag] {X : Cx} {pins : List (Addr × Obj)} {σ : L2.St} {H : Hp} {s : Shared} {d : Addr} {o : Obj} {es : List (NestedKey × Addr × V)} (I : Inv X pins σ H s) (h : H d = some (.frz o (DObj X.w d es))) :
    (d == sysModules) = false ∧ s.heap.get? d = some o ∧ o.ExactDict ∧ ∃ (eps : Array DictEntry) (ep : Nat), o.data = .dict eps ep ∧ eps.size = es.length ∧ ∀ (i : Nat) e, es[i]? = some e → ∃ en : DictEntry, eps[i]? = some en ∧ en.key = .ref e.2.1 := by
  obtain ⟨hg, ⟨z1, z2, xs, rel, o', eps, ep, h1, h2, h3, h4, h5⟩, _, _⟩ := (show ObjOk X.prog X.w H s.heap d (.frz o (DObj X.w d es)) from I.hok _ _ h)
  rw [hg] at h1
  cases h1
  have hsz : eps.size = xs.length := by rw [← Array.length_toList, h4, List.length_map]
  refine ⟨z1, hg, h2, eps, ep, h3, hsz.trans (Paired.length rel).symm, fun i e he => ?_⟩
  obtain ⟨x, hx, r1, r2, r3⟩ := paired_get rel he
  refine ⟨_, by rw [← Array.getElem?_toList, h4, List.getElem?_map, hx]; rfl, ?_⟩
  show Value.ref x.2.1 = _
  rw [r2]
theorem turn_n [KFrag] {P : Program} {w : World} {K : PySem.W.Frag} {tg : Expr} {d : Addr} {o : Obj} {eps : Array DictEntry} {ep : Nat} {es : List (NestedKey × Addr × V)} (it : Addr) (hod : o.data = .dict eps ep) : Turn P w K tg (Itn w d o es) [it] it (fun i h => h.IsKeyIter it d i es.length ep) where
  mem := by simp
  obj := fun i h st b hb => by
    have e : b = it := by simpa using hb
    subst e
    obtain ⟨oi, e, c, dd⟩ := st
    exact ⟨oi, e, fun v z => by rw [dd] at z; cases z⟩
  keep := fun i h h' st k => st.at fun oi e => k it (by simp) oi e
  item := by
    intro X hP hw hK hc i pins s σ H E I hf st hg
    subst hP hw hK
    obtain ⟨hd, hi⟩ := hg
    obtain ⟨f0, f1, f2, f3, f4, f5⟩ := hf it (by simp)
    obtain ⟨hs, hgd, hx, es', ep', hdt, hsz, ent⟩ := frzN I hd
    obtain ⟨rfl, rfl⟩ := dict_ep hod hdt
    obtain ⟨en, hen, hkey⟩ := ent i es[i] (List.getElem?_eq_getElem hi)
    refine next_key_item st hgd hdt hsz hen fun h' st' sb => ?_
    have I1 : Inv X pins σ H { s with heap := h' } := I.turned (t' := s.toks) (fun b ob hb e => (sb.2 b hb).trans e) f0 f1 f3 f4 f5
    obtain ⟨oi, e, c, dd⟩ := id st'
    exact ⟨en.key, rfl, go_of (s := { s with heap := h' }) e c dd (by decide) ⟨.ref es[i].2.1, H, I1, hkey, ⟨rfl, _, List.getElem?_eq_getElem hi, rfl⟩, st', fun b hb => (hf b hb).1⟩⟩
  done := by
    intro X hP hw hK hc i pins s σ H E I hf st hg
    subst hP hw hK
    obtain ⟨hd, hi⟩ := hg
    obtain ⟨f0, f1, f2, f3, f4, f5⟩ := hf it (by simp)
    obtain ⟨hs, hgd, hx, es', ep', hdt, hsz, ent⟩ := frzN I hd
    obtain ⟨rfl, rfl⟩ := dict_ep hod hdt
    exact next_key_end (I.ok.hd hc) st hgd hdt hsz hi fun h' eb => ⟨rfl, I.turned (t' := s.toks) (fun b ob hb e => eb b ob hb e) f0 f1 f3 f4 f5⟩
  self := fun A i s Q E st h => by
    refine wpAny_pyIter_slot st.typeIs F.slot_dict_keyiterator_iter (wpAny_call_entry F.slot_dict_keyiterator_iter st.typeIs F.entry_dict_keyiterator_iter ?_ (F.args_dict_keyiterator_iter_1 _))
    show wpAny _ _ (ret (.ref it)) _ _ s
    exact wpAny_pure ⟨_, rfl, "dict_keyiterator", _, st.typeIs, F.slot_dict_keyiterator_next.lookup, h⟩
theorem pi_n [KFrag] {X : Cx} {tg e : Expr} {td : TE} (he : PE X e td) : PI X tg e (fun σ H R => td σ H fun x H1 => ∃ d o es, x = .ref d ∧ H1 d = some (.frz o (DObj X.w d es)) ∧ R (Itn X.w d o es) H1) := by
  refine ⟨fun pins s σ H R I h => ?_⟩
  refine thn (he.run pins s σ H _ I h) fun u s1 ⟨x, H1, I1, rx, d, o, es, ex, hd, q⟩ => ?_
  subst ex
  obtain rfl : u = Value.ref d := rx
  obtain ⟨hs, hgd, hx, eps, ep, hdt, hsz, ent⟩ := frzN I1 hd
  refine iter_keys hs hgd hx hdt (pi_one (tk := s1.toks) I1 _ (turn_n _ hdt) ⟨_, Heap.get?_push_size _ rfl, rfl, ?_⟩ q)
  rw [hsz] <;> rfl
end DL
namespace DL
open PySem PySem.Spec PyProof.Rows L2
section
variable [KFrag]
/-! ### dicts whose keys are tuples, over cells -/
def dctOf (w : W) (s : CS) : Option (List (D × D)) := match w with
  | .c n => match s[n]? with
    | some (.dct ds) => if unm ds = true then some ds else none
    | _ => none
  | .fd ds => if unm ds = true then some ds else none
  | _ => none
theorem CellOk.un {μ : List Addr} {H : Hp} {A : Addr → Prop} {a : Addr} {ds : List (D × D)} (h : CellOk μ H A a (.dct ds)) (u : unm ds = true) : ∃ es, H a = some (DObj KFrag.w a es) ∧ KPs H A es ds :=
  h.elim (fun h => h) fun ⟨_, _, e, _⟩ => absurd u (by rw [e]; exact unm_mark)
theorem CellOk.mk {μ : List Addr} {H : Hp} {A : Addr → Prop} {a : Addr} {r : List (D × D)} (h : CellOk μ H A a (.dct (mark :: r))) : ∃ ks, H a = some (.dK ks) ∧ IKs H A ks r := by
  rcases h with ⟨_, _, k⟩ | ⟨ks, r', e, q⟩
  · cases k with
    | cons e1 _ f _ _ => cases f
  · cases e
    exact ⟨ks, q⟩
theorem dctOf_rd {B : Addr → Prop} {μ : List Addr} {s : CS} {H : Hp} {x : V} {w : W} {ds : List (D × D)} (r : SR B μ s H) (h : RW B μ s H x w) (e : dctOf w s = some ds) : NRd KFrag.w H (Av B μ s) x ds := by
  unfold dctOf at e
  split at e
  · rename_i n
    split at e
    · rename_i z
      split at e
      · rename_i hu
        cases e
        obtain ⟨a, rfl, ha⟩ := h
        obtain ⟨es, ea, kp⟩ := CellOk.un (r.cell n a _ ha z) hu
        exact ⟨a, es, rfl, .inl ea, kp⟩
      · cases e
    · cases e
  · split at e
    · rename_i hu
      cases e
      obtain ⟨a, o, es, rfl, ea, _, kp⟩ := FD.un h hu
      exact ⟨a, es, rfl, .inr ⟨o, ea⟩, kp⟩
    · cases e
  · cases e
theorem RW.data {B : Addr → Prop} {μ : List Addr} {s : CS} {H : Hp} {x : V} {d : D} (h : RW B μ s H x (.d d)) : Fz H (Av B μ s) x d := h
def fNewD (_ : En) (s : CS) : R W := .ok (.c s.length) (s ++ [.dct []])
def dNew1 (n : Nat) (u v : W) (s : CS) : R W := match u, v with
  | .d k, .d x => match s[n]? with
    | some (.dct []) => if keyOk k = true then .ok (.c n) (s.set n (.dct [(k, x)])) else .bad
    | _ => .bad
  | _, _ => .bad
def fNewD1 (f g : En → CS → R W) (ρ : En) (s : CS) : R W := (f ρ (s ++ [.dct []])).bind fun u s1 => (g ρ s1).bind fun v s2 => dNew1 s.length u v s2
def dGet (w u : W) (s : CS) : R W := match dctOf w s, u with
  | some ds, .d k => if keyOk k = true then (match lookD ds k with
    | some z => .ok (.d z) s
    | none => .bad) else .bad
  | _, _ => .bad
def fDGet (f g : En → CS → R W) (ρ : En) (s : CS) : R W := (f ρ s).bind fun w s => (g ρ s).bind fun u s => dGet w u s
def dIn (neg : Bool) (u w : W) (s : CS) : R W := match dctOf w s, u with
  | some ds, .d k => if keyOk k = true then .ok (.d (.bool (xor neg (lookD ds k).isSome))) s else .bad
  | _, _ => .bad
def fDIn (neg : Bool) (f g : En → CS → R W) (ρ : En) (s : CS) : R W := (f ρ s).bind fun u s => (g ρ s).bind fun w s => dIn neg u w s
def dPut (v w u : W) (s : CS) (ρ : En) : RT := match v, w, u with
  | .d x, .c n, .d k => match s[n]? with
    | some (.dct ds) => if keyOk k = true ∧ ds.length < line ∧ unm ds = true then .nx ρ (s.set n (.dct (putD ds k x))) else .bad
    | _ => .bad
  | _, _, _ => .bad
def gDPut (fv f g : En → CS → R W) (ρ : En) (s : CS) : RT := (fv ρ s).toT ρ fun v s => (f ρ s).toT ρ fun w s => (g ρ s).toT ρ fun u s => dPut v w u s ρ
def fFrzD (i : Nat) (ρ : En) (s : CS) : R W := match ρ[i]? with
  | some (some (.c n)) => match s[n]? with
    | some (.dct ds) => .ok (.fd ds) (s.set n .dead)
    | _ => .bad
  | some (some w) => .ok w s
  | _ => .bad
def keysW : W → CS → R (List D)
  | .fd ds, s => if unm ds = true then .ok (ds.map (·.1)) s else .bad
  | _, _ => .bad
def fItK (f : En → CS → R W) (ρ : En) (s : CS) : R (List D) := (f ρ s).bind keysW
section
variable {X : Cx} [HK X] {T : TX} {Wx : WXc} {e e2 e3 tg : Expr} {f g fv : En → CS → R W} {pos p2 : Pos}
theorem de_newD (hw : X.w = KFrag.w) : DE X T Wx (.Dict [] [] pos) fNewD := PE_imp pe_nnew fun σ H Q ⟨B, μ, s, ρ, r, e, q⟩ p hp => by
  obtain ⟨a, b⟩ := newCc (o := DObj X.w p []) (c := .dct []) r hp fun H' A' k e => .inl ⟨[], by rw [← hw]; exact e, .nil⟩
  refine q _ _ _ b a ⟨p, rfl, ?_⟩
  rw [← r.len]
  simp
theorem de_newD1 (hw : X.w = KFrag.w) (hu : X.A.units + 64 < cLine) (hf : DE X T Wx e f) (hg : DE X T Wx e2 g) : DE X T Wx (.Dict [some e] [e2] pos) (fNewD1 f g) := PE_imp (pe_nnew1 hu hf hg) fun σ H Q ⟨B, μ, s, ρ, r, er, q⟩ p hp => by
  obtain ⟨a, b⟩ := newCc (o := DObj X.w p []) (c := .dct []) r hp fun H' A' k e => .inl ⟨[], by rw [← hw]; exact e, .nil⟩
  have q : Fin T Wx B (μ ++ [p]) (s ++ [.dct []]) (upd H p (DObj X.w p [])) σ Q ((f ρ (s ++ [.dct []])).bind fun u s1 => (g ρ s1).bind fun v s2 => dNew1 s.length u v s2) := Fin.stp b q
  have hm : (μ ++ [p])[s.length]? = some p := by rw [← r.len]; simp
  refine tD_bind a (er.stp b) q fun u s1 x μ1 H1 st1 r1 e1 rel1 q1 => tD_bind r1 e1 q1 fun v s2 y μ2 H2 st2 r2 e2 rel2 q2 => ?_
  unfold dNew1 at q2
  split at q2
  · rename_i k z
    split at q2
    · rename_i hz
      split at q2
      · rename_i hk
        have hm2 : μ2[s.length]? = some p := by
          obtain ⟨t, rfl⟩ := (st1.trans st2).pre
          rw [List.getElem?_append_left (List.getElem?_eq_some_iff.mp hm).1]
          exact hm
        obtain ⟨es, ea, kp⟩ := CellOk.un (r2.cell _ p _ hm2 hz) rfl
        cases kp
        refine ⟨by rw [hw]; exact ea, Av B μ2 s2, k, z, RW.stp st2 rel1, hk, rel2, fun es' kp' => ?_⟩
        obtain ⟨a1, a2⟩ := putCc (o := DObj X.w p es') (c1 := .dct [(k, z)]) r2 hm2 hz (by simp) fun H' A' kk e => .inl ⟨es', by rw [← hw]; exact e, kp'.kp kk⟩
        exact q2 _ _ _ a2 a1 ⟨p, rfl, hm2⟩
      · exact q2.elim
    · exact q2.elim
  · exact q2.elim
theorem de_dget (hw : X.w = KFrag.w) (hu : X.A.units + 64 < cLine) (ha : DE X T Wx e f) (hb : DE X T Wx e2 g) (hs : NoSl e2 := by exact fun _ _ => rfl) : DE X T Wx (.Subscript e e2 pos) (fDGet f g) :=
  PE_imp (pe_nget hu ha hb hs) fun σ H Q ⟨B, μ, s, ρ, r, e, q⟩ => tD_bind r e q fun w s1 x μ1 H1 st1 r1 e1 rel1 q1 => tD_bind r1 e1 q1 fun u s2 y μ2 H2 st2 r2 e2 rel2 q2 => by
    have rel1 := RW.stp st2 rel1
    unfold dGet at q2
    split at q2
    · rename_i ds k hd
      split at q2
      · rename_i hk
        split at q2
        · rename_i z hz
          exact ⟨Av B μ2 s2, ds, k, z, by rw [hw]; exact dctOf_rd r2 rel1 hd, rel2, hk, hz, fun v fv => Fin.here (a := W) (w := .d z) q2 r2 fv⟩
        · exact q2.elim
      · exact q2.elim
    · exact q2.elim
theorem dIn_use (hw : X.w = KFrag.w) {neg : Bool} {σ : L2.St} {H : Hp} {Q : VK} (q : tD T Wx (fDIn neg f g) σ H Q) : tNIn neg X.w (tD T Wx f) (tD T Wx g) σ H Q := by
  obtain ⟨B, μ, s, ρ, r, e, q⟩ := q
  refine tD_bind r e q fun u s1 y μ1 H1 st1 r1 e1 rel1 q1 => tD_bind r1 e1 q1 fun w s2 x μ2 H2 st2 r2 e2 rel2 q2 => ?_
  unfold dIn at q2
  split at q2
  · rename_i ds k hd
    split at q2
    · rename_i hk
      exact ⟨Av B μ2 s2, ds, k, by rw [hw]; exact dctOf_rd r2 rel2 hd, RW.stp st2 rel1, hk, Fin.here (a := W) q2 r2 (Fz.bl _)⟩
    · exact q2.elim
  · exact q2.elim
theorem de_din (hw : X.w = KFrag.w) (hu : X.A.units + 64 < cLine) (ha : DE X T Wx e f) (hb : DE X T Wx e2 g) (hm : behindInMarks .In e2 = false := by first | exact nomark _ | rfl) : DE X T Wx (.Compare e [.In] [e2] pos) (fDIn false f g) :=
  PE_imp (pe_cmp (pc_nin hu ha hb) hm) fun _ _ _ => dIn_use hw
theorem de_dnin (hw : X.w = KFrag.w) (hu : X.A.units + 64 < cLine) (ha : DE X T Wx e f) (hb : DE X T Wx e2 g) (hm : behindInMarks .NotIn e2 = false := by first | exact nomark _ | rfl) : DE X T Wx (.Compare e [.NotIn] [e2] pos) (fDIn true f g) :=
  PE_imp (pe_cmp (pc_nnotin hu ha hb) hm) fun _ _ _ => dIn_use hw
theorem tB_imp {t t' : TE} (k : ∀ σ H Q, t' σ H Q → t σ H Q) {σ : L2.St} {H : Hp} {Q : Bool → Hp → Prop} (h : tB t' σ H Q) : tB t σ H Q := k _ _ _ h
theorem dt_din (hw : X.w = KFrag.w) (hu : X.A.units + 64 < cLine) (ha : DE X T Wx e f) (hb : DE X T Wx e2 g) (hm : behindInMarks .In e2 = false := by first | exact nomark _ | rfl) : DT X T Wx (.Compare e [.In] [e2] pos) (fB (fDIn false f g)) :=
  PT_imp (pt_cmp (pc_nin hu ha hb) hm) fun _ _ _ q => tB_imp (fun _ _ _ => dIn_use hw) (tB_use q)
theorem dt_dnin (hw : X.w = KFrag.w) (hu : X.A.units + 64 < cLine) (ha : DE X T Wx e f) (hb : DE X T Wx e2 g) (hm : behindInMarks .NotIn e2 = false := by first | exact nomark _ | rfl) : DT X T Wx (.Compare e [.NotIn] [e2] pos) (fB (fDIn true f g)) :=
  PT_imp (pt_cmp (pc_nnotin hu ha hb) hm) fun _ _ _ q => tB_imp (fun _ _ _ => dIn_use hw) (tB_use q)
theorem ds_dput (hw : X.w = KFrag.w) (hu : X.A.units + 64 < cLine) (hv : DE X T Wx e3 fv) (ha : DE X T Wx e f) (hb : DE X T Wx e2 g) (hs : swapsWith e3 (some (.Subscript e e2 p2)) pos.line X.env = pure false := by rfl) : DS X T Wx (.Assign [.Subscript e e2 p2] e3 pos) (gDPut fv f g) :=
  PS_imp (ps_nput hu ha hb hv hs) fun D σ H ⟨B, μ, s, ρ, r, e, q⟩ =>
  tD_bindT r e q fun v s1 x μ1 H1 st1 r1 e1 rel1 q1 => tD_bindT r1 e1 q1 fun w s2 y μ2 H2 st2 r2 e2 rel2 q2 => tD_bindT r2 e2 q2 fun u s3 z μ3 H3 st3 r3 e3 rel3 q3 => by
    unfold dPut at q3
    split at q3
    · rename_i x0 n k
      split at q3
      · rename_i ds hs
        split at q3
        · rename_i hk
          obtain ⟨a, ev, ha⟩ := RW.stp st3 rel2
          obtain ⟨es, ea, kp⟩ := CellOk.un (r3.cell n a _ ha hs) hk.2.2
          refine ⟨Av B μ3 s3, a, es, ds, k, x0, ev, by rw [hw]; exact ea, kp, rel3, hk.1, RW.stp (st2.trans st3) rel1, hk.2.1, fun es' kp' => ?_⟩
          obtain ⟨a1, a2⟩ := putCc (o := DObj X.w a es') (c1 := .dct (putD ds k x0)) r3 ha hs (by simp) fun H' A' kk e => .inl ⟨es', by rw [← hw]; exact e, kp'.kp kk⟩
          exact q3 σ _ _ a2 a1 (e3.stp a2)
        · exact q3.elim
      · exact q3.elim
    · exact q3.elim
theorem de_frzD {i : Nat} (h : PE X e (tVar i)) : DE X T Wx e (fFrzD i) := PE_imp (pe_lockV h) fun σ H Q ⟨B, μ, s, ρ, r, e, q⟩ => by
  unfold fFrzD at q
  cases z : ρ[i]? with
  | none => simp only [z] at q; exact q.elim
  | some o =>
    cases o with
    | none => simp only [z] at q; exact q.elim
    | some w =>
      obtain ⟨v, h1, h2⟩ := e.at_ i w z
      refine ⟨v, h1, ?_⟩
      cases w with
      | d x => simp only [z] at q; exact .inl (Fin.here q r h2)
      | sc ns => simp only [z] at q; exact .inl (Fin.here q r h2)
      | fd ns => simp only [z] at q; exact .inl (Fin.here q r h2)
      | rg ns ms => simp only [z] at q; exact .inl (Fin.here q r h2)
      | c n =>
        simp only [z] at q
        obtain ⟨a, ev, ha⟩ := h2
        subst ev
        split at q
        · rename_i ds hs
          have na : ¬ Av B μ (s.set n .dead) a := fun z => by
            rcases z with z | ⟨m, c, e1, e2, e3⟩
            · exact r.nb n a ha z
            · have hm : n = m := r.inj n m a ha e1
              subst hm
              rw [List.getElem?_set_self (List.getElem?_eq_some_iff.mp hs).1] at e2
              cases e2
              exact e3 rfl
          rcases r.cell n a _ ha hs with ⟨es, ea, kp⟩ | ⟨ks, t, et, ea, kp⟩
          · refine .inr ⟨a, _, rfl, ea, True.intro, fun od => ?_⟩
            obtain ⟨a1, a2⟩ := putCc (o := .frz od (DObj KFrag.w a es)) (c1 := .dead) r ha hs (by simp) fun H' A' kk e => trivial
            exact q _ _ _ a2 a1 (.inl ⟨a, od, es, rfl, upd_same, na, kp.kp a2.kp⟩)
          · refine .inr ⟨a, _, rfl, ea, True.intro, fun od => ?_⟩
            obtain ⟨a1, a2⟩ := putCc (o := .frz od (.dK ks)) (c1 := .dead) r ha hs (by simp) fun H' A' kk e => trivial
            exact q _ _ _ a2 a1 (.inr ⟨a, od, ks, t, et, rfl, upd_same, na, kp.kp a2.kp⟩)
        · exact q.elim
theorem KPs.get {H : Hp} {A : Addr → Prop} : ∀ {es : List (NestedKey × Addr × V)} {ds : List (D × D)} {i : Nat} {x : NestedKey × Addr × V}, KPs H A es ds → es[i]? = some x → ∃ y, ds[i]? = some y ∧ Fz H A (.ref x.2.1) y.1
  | _, _, _, _, .nil, e => by simp at e
  | _, _, 0, x, .cons _ _ f _ _, e => by simp at e; subst e; exact ⟨_, rfl, f⟩
  | _, _, i + 1, x, .cons _ _ _ _ t, e => by
    obtain ⟨y, h1, h2⟩ := KPs.get (i := i) (x := x) t (by simpa using e)
    exact ⟨y, by simpa using h1, h2⟩
theorem di_keys (hw : X.w = KFrag.w) (h : DE X T Wx e f) : DI X T Wx tg e (fItK f) := PI_imp (pi_n h) fun σ H Q ⟨B, μ, s, ρ, r, e, q⟩ =>
  tD_bind r e q fun w s1 v μ1 H1 st1 r1 e1 rel1 q1 => by
    unfold keysW at q1
    split at q1
    · rename_i ds
      split at q1
      case isFalse => exact q1.elim
      rename_i hu
      obtain ⟨a, o, es, ev, ea, na, kp⟩ := FD.un rel1 hu
      refine ⟨a, o, es, ev, by rw [hw]; exact ea, Fin.here (a := List D) q1 r1 ⟨fun H => H a = some (.frz o (DObj X.w a es)), fun i H x H' => H' = H ∧ ∃ e, es[i]? = some e ∧ x = .ref e.2.1, ?_, fun H' A' k bt => ?_, fun i H' A' v H'' k bt hi y => ?_⟩⟩
      · rw [List.length_map, ← kp.len]; exact walk_n
      · rw [hw]; exact k.keep _ _ ea na
      · obtain ⟨rfl, e, ee, rfl⟩ := y
        obtain ⟨d, d1, d2⟩ := (kp.kp k).get ee
        exact ⟨Same.refl _, d.1, by rw [List.getElem?_map, d1]; rfl, d2⟩
    · exact q1.elim
/-! a module's text -/
theorem de_gstr {x y : Str} {t : Tok} {pos : Pos} (hg : Gl X x) (hm : X.mg x = some (.str y t)) (hd : (x == ("__debug__" : Str)) = false := by decide) : DE X T Wx (.Name x pos) (fC (.str y)) :=
  de_const (v := .str y) (pe_glob hg hm (show ∃ t', Value.str y t = Value.str y t' from ⟨t, rfl⟩) hd) fun _ _ => .str y
end
end
end DL
namespace DL
open PySem PySem.Spec PyProof.Rows L2
open MeetsSeq MeetsSeq2 MeetsSeq3 SeqRoads2 SeqAt PySem.W
/-! ### t < u, where only what is ahead of the first difference need be alike -/
section
theorem ltFirst (la lb : Addr) (us ws : Array Value) (m m2 : Nat) (di di2 : Option Addr) (so so2 : Array (Option Value)) (q p : Nat → Bool) :
    Meets (Builtin.«tuple.__lt__» ⟨[.ref la, .ref lb], []⟩)
      (fun A R s => s.heap.get? la = some { cls := .type "tuple", dict := di, data := .seq us m, slots := so } ∧ s.heap.get? lb = some { cls := .type "tuple", dict := di2, data := .seq ws m2, slots := so2 } ∧
        (∀ j (h1 : j < us.size) (h2 : j < ws.size), EqAt A.in1 s us[j] ws[j] (q j)) ∧ (∀ j (h1 : j < us.size) (h2 : j < ws.size), (∀ i, i < j → q i = true) → q j = false → RcLt A.in1 s us[j] ws[j] (p j)) ∧
        R (.ok (.ret (.bool (firstLt q p (decide (us.size < ws.size)) (List.range (min us.size ws.size)))))) s) :=
  .of_wp fun prog w A R s H => by
    obtain ⟨h0, gg, dd, tt, oo⟩ := s; obtain ⟨ea, eb, hq, hp, hR⟩ := H
    have sub := AutoSeq1.sub_tuple_tuple
    have zl : (us.toList.zip ws.toList).length = min us.size ws.size := by simp
    wp_walk using wpAny_loadPart' ea, wpAny_loadPart' eb, wpAny_forIn_list _ (fun more acc s' => acc.1 = none ∧ s' = ⟨h0, gg, dd, tt, oo⟩ ∧ ∃ k, more = (us.toList.zip ws.toList).drop k ∧ (∀ i, i < k → q i = true) ∧
      R (.ok (.ret (.bool (firstLt q p (decide (us.size < ws.size)) ((List.range (min us.size ws.size)).drop k))))) ⟨h0, gg, dd, tt, oo⟩) _
    case turn =>
      rintro ⟨va, vb⟩ more acc s' ⟨z0, rfl, k, z1, z2, z3⟩
      have kl : k < (us.toList.zip ws.toList).length := by
        by_cases g : k < (us.toList.zip ws.toList).length
        · exact g
        · rw [List.drop_of_length_le (Nat.le_of_not_lt g)] at z1; cases z1
      have km : k < min us.size ws.size := by rw [← zl]; exact kl
      have k1 : k < us.size := by omega
      have k2 : k < ws.size := by omega
      rw [List.drop_eq_getElem_cons kl] at z1
      injection z1 with z4 z5
      obtain rfl : va = us[k] := by simpa using congrArg Prod.fst z4
      obtain rfl : vb = ws[k] := by simpa using congrArg Prod.snd z4
      rw [show (List.range (min us.size ws.size)).drop k = k :: (List.range (min us.size ws.size)).drop (k + 1) by simp [List.drop_eq_getElem_cons, km]] at z3
      refine wpAny_bind (hq k k1 k2 prog w _ _ ?_)
      cases qk : q k with
      | true =>
        rw [firstLt_yes qk] at z3
        wp_walk
        refine ⟨rfl, rfl, k + 1, z5, fun i hi => ?_, z3⟩
        by_cases ik : i = k
        · rw [ik]; exact qk
        · exact z2 i (by omega)
      | false =>
        rw [firstLt_no qk] at z3
        rw [if_pos (show (!false) = true from rfl)]
        refine wpAny_bind (wpAny_rule (wpAny_bind (hp k k1 k2 z2 qk prog w _ _ (wpAny_bind (wpAny_pure (wpAny_pure ?_))))))
        wp_walk
        exact ⟨_, rfl, z3⟩
    case fin =>
      rintro ⟨c1, c2⟩ s' ⟨z0, rfl, k, z1, z2, z3⟩
      obtain rfl : c1 = none := z0
      have kg : min us.size ws.size ≤ k := by
        by_cases g : k < (us.toList.zip ws.toList).length
        · rw [List.drop_eq_getElem_cons g] at z1; cases z1
        · rw [← zl]; omega
      rw [List.drop_of_length_le (by simpa using kg)] at z3
      wp_walk
      exact ⟨_, rfl, by simpa [Builtin.Tuple.tupleCompareSizes, firstLt] using z3⟩
    case h =>
      exact ⟨rfl, rfl, 0, rfl, (fun i hi => absurd hi (Nat.not_lt_zero i)), by simpa using hR⟩
theorem rcFirst {A : Around} {s : Shared} {la lb : Addr} {us ws : Array Value} {q p : Nat → Bool} (ha : s.heap.IsTuple la us) (hb : s.heap.IsTuple lb ws) (hu : A.units < cLine)
    (hq : ∀ j (h1 : j < us.size) (h2 : j < ws.size), EqAt A.in1 s us[j] ws[j] (q j)) (hp : ∀ j (h1 : j < us.size) (h2 : j < ws.size), (∀ i, i < j → q i = true) → q j = false → RcLt A.in1 s us[j] ws[j] (p j)) :
    RcLt A s (.ref la) (.ref lb) (firstLt q p (decide (us.size < ws.size)) (List.range (min us.size ws.size))) := fun prog w E Q h => by
  obtain ⟨⟨k1, d1, x1, s1⟩, g1, c1, n1, e1⟩ := id ha
  obtain ⟨⟨k2, d2, x2, s2⟩, g2, c2, n2, e2⟩ := id hb
  simp only at c1 e1 c2 e2
  subst c1 e1 c2 e2
  exact richCompare_meets_room (op := .Lt) ⟨_, g1, rfl⟩ ⟨_, g2, rfl⟩ F.slot_tuple_lt F.entry_tuple_lt (F.args_tuple_lt_2 _ _) (ltFirst la lb us ws n1 n2 d1 d2 s1 s2 q p)
    ⟨g1, g2, hq, hp, show Value.bool _ ≠ Value.notImplemented ∧ Q (.bool _) s from ⟨(fun z => nomatch z), h⟩⟩ hu
end
/-- numbers, truth values, texts, None and tuples of such, to a depth -/
def plD : Nat → D → Bool
  | _, .none => true
  | _, .bool _ => true
  | _, .int _ => true
  | _, .str _ => true
  | n + 1, .tuple xs => xs.all (plD n)
  | _, _ => false
theorem pl_all {n : Nat} (ih : ∀ d, plD n d = true → ∃ k, nkey d = some k ∧ k.depth ≤ n) : ∀ xs : List D, xs.all (plD n) = true → ∃ ks, nkeys xs = some ks ∧ NestedKey.depthAll ks ≤ n
  | [], _ => ⟨[], rfl, Nat.zero_le _⟩
  | x :: xs, h => by
    rw [List.all_cons, Bool.and_eq_true] at h
    obtain ⟨k, h1, h2⟩ := ih x h.1
    obtain ⟨ks, h3, h4⟩ := pl_all ih xs h.2
    exact ⟨k :: ks, by simp only [nkeys, h1, h3], by simp only [NestedKey.depthAll]; omega⟩
theorem pl_key : ∀ (n : Nat) (d : D), plD n d = true → ∃ k, nkey d = some k ∧ k.depth ≤ n
  | n, .none, _ => ⟨.none, rfl, Nat.zero_le _⟩
  | n, .bool b, _ => ⟨_, rfl, Nat.zero_le _⟩
  | n, .int i, _ => ⟨_, rfl, Nat.zero_le _⟩
  | n, .str x, _ => ⟨_, rfl, Nat.zero_le _⟩
  | 0, .tuple xs, h => by simp [plD] at h
  | n + 1, .tuple xs, h => by
    obtain ⟨ks, h1, h2⟩ := pl_all (pl_key n) xs (by simpa [plD] using h)
    exact ⟨.tup ks, by simp only [nkey, h1, Option.map_some], by simp only [NestedKey.depth]; omega⟩
  | n, .list xs, h => by cases n <;> simp [plD] at h
  | n, .dict xs, h => by cases n <;> simp [plD] at h
/-- t < u -/
def ltL (lt : D → D → Option Bool) : List D → List D → Option Bool
  | [], ys => some (!ys.isEmpty)
  | _ :: _, [] => some false
  | x :: xs, y :: ys => if eqF 8 x y = true then ltL lt xs ys else lt x y
def ltX : Nat → D → D → Option Bool
  | _, .int i, .int j => some (decide (i < j))
  | _, .str x, .str y => some (decide (x.cps.toList < y.cps.toList))
  | n + 1, .tuple xs, .tuple ys => ltL (ltX n) xs ys
  | _, _, _ => none
theorem firstLt_shift (q p : Nat → Bool) (fin : Bool) (n : Nat) : firstLt q p fin (List.range (n + 1)) = if q 0 = true then firstLt (fun j => q (j + 1)) (fun j => p (j + 1)) fin (List.range n) else p 0 := by
  rw [List.range_succ_eq_map]
  show (if q 0 = true then firstLt q p fin ((List.range n).map Nat.succ) else p 0) = _
  rw [show (List.range n).map Nat.succ = (List.range n).map (· + 1) from rfl, firstLt_map]
/-- the first difference, by positions -/
theorem ltL_first (lt : D → D → Option Bool) : ∀ (xs ys : List D) (k : Bool), ltL lt xs ys = some k →
    firstLt (fun j => PyData.eqv (xs.getD j .none) (ys.getD j .none)) (fun j => (lt (xs.getD j .none) (ys.getD j .none)).getD false) (decide (xs.length < ys.length)) (List.range (min xs.length ys.length)) = k ∧
    ∀ j, j < xs.length → j < ys.length → (∀ i, i < j → PyData.eqv (xs.getD i .none) (ys.getD i .none) = true) → PyData.eqv (xs.getD j .none) (ys.getD j .none) = false → ∃ b, lt (xs.getD j .none) (ys.getD j .none) = some b
  | [], ys, k, h => by
    unfold ltL at h
    cases h
    refine ⟨?_, fun j h => absurd h (Nat.not_lt_zero j)⟩
    cases ys <;> simp [firstLt]
  | x :: xs, [], k, h => by
    unfold ltL at h
    cases h
    exact ⟨by simp [firstLt], fun j _ h => absurd h (Nat.not_lt_zero j)⟩
  | x :: xs, y :: ys, k, h => by
    unfold ltL at h
    rw [eqF_eq] at h
    have em : min (x :: xs).length (y :: ys).length = min xs.length ys.length + 1 := by simp only [List.length_cons]; omega
    rw [em, firstLt_shift]
    simp only [List.getD_cons_zero, List.getD_cons_succ]
    split at h
    · rename_i e
      obtain ⟨i1, i2⟩ := ltL_first lt xs ys k h
      rw [if_pos e]
      refine ⟨by rw [← i1]; simp, fun j => ?_⟩
      cases j with
      | zero => intro _ _ _ z; simp only [List.getD_cons_zero] at z; rw [e] at z; cases z
      | succ j =>
        intro h1 h2 h3 h4
        simp only [List.getD_cons_succ] at h4 ⊢
        exact i2 j (by simpa using h1) (by simpa using h2) (fun i hi => by simpa using h3 (i + 1) (by omega)) h4
    · rename_i e
      rw [if_neg e, h]
      refine ⟨rfl, fun j => ?_⟩
      cases j with
      | zero => intro _ _ _ _; exact ⟨k, by simpa using h⟩
      | succ j =>
        intro h1 h2 h3 h4
        have := h3 0 (by omega)
        simp only [List.getD_cons_zero] at this
        exact absurd this e
section
variable [KFrag] {P : Program} {w : World} {H : Hp} {s : Shared} {A : Addr → Prop}
theorem Fzs.get2 {xs : List V} {ds : List D} {us : List Value} (f : Fzs H A xs ds) (r : Vals xs us) {j : Nat} (h : j < us.length) : ∃ v, Fz H A v (ds.getD j .none) ∧ RelV v us[j] ∧ ds.getD j .none ∈ ds := by
  have h1 : j < xs.length := by rw [r.length]; exact h
  obtain ⟨d, e1, e2⟩ := f.getV (List.getElem?_eq_getElem h1)
  have e3 : ds.getD j .none = d := by rw [List.getD_eq_getElem?_getD, e1]; rfl
  rw [e3]
  obtain ⟨u, e4, e5⟩ := r.get (List.getElem?_eq_getElem h1)
  have e6 : us[j] = u := by
    have := List.getElem?_eq_getElem h
    rw [this] at e4
    exact Option.some.inj e4
  rw [e6]
  exact ⟨_, e2, e5, List.mem_of_getElem? e1⟩
theorem rcLtX (ok : HOk P w H s.heap) (ki : KFrag.K.In s.heap) : ∀ (n : Nat) (da db : D) (B : Around) (x y : V) (a b : Value) (k : Bool), Fz H A x da → Fz H A y db → RelV x a → RelV y b → plD n da = true → plD n db = true → ltX n da db = some k → B.units + 2 * n + 1 < cLine → RcLt B s a b k := by
  intro n
  induction n with
  | zero =>
    intro da db B x y a b k fa fb ra rb pa pb h hu
    cases fa <;> cases fb <;> first | (simp [ltX] at h; done) | skip
    · rename_i i j
      obtain ⟨t, rfl⟩ := (show ∃ t, a = Value.int i t from ra)
      obtain ⟨t2, rfl⟩ := (show ∃ t, b = Value.int j t from rb)
      simp only [ltX] at h
      cases h
      rw [← dataLt_int]
      exact rcLt_alike _ _ B s _ _ [] [] (.int i t) (.int j t2) rfl (by simp) (by simp [PyData.depth]; omega)
    · rename_i i j
      obtain ⟨t, rfl⟩ := (show ∃ t, a = Value.str i t from ra)
      obtain ⟨t2, rfl⟩ := (show ∃ t, b = Value.str j t from rb)
      simp only [ltX] at h
      cases h
      rw [← dataLt_str]
      exact rcLt_alike _ _ B s _ _ [] [] (.str i t) (.str j t2) rfl (by simp) (by simp [PyData.depth]; omega)
    all_goals simp [plD] at pa
  | succ n ih =>
    intro da db B x y a b k fa fb ra rb pa pb h hu
    cases fa with
    | int i =>
      cases fb with
      | int j =>
        obtain ⟨t, rfl⟩ := (show ∃ t, a = Value.int i t from ra)
        obtain ⟨t2, rfl⟩ := (show ∃ t, b = Value.int j t from rb)
        simp only [ltX] at h
        cases h
        rw [← dataLt_int]
        exact rcLt_alike _ _ B s _ _ [] [] (.int i t) (.int j t2) rfl (by simp) (by simp [PyData.depth]; omega)
      | _ => simp [ltX] at h
    | str i =>
      cases fb with
      | str j =>
        obtain ⟨t, rfl⟩ := (show ∃ t, a = Value.str i t from ra)
        obtain ⟨t2, rfl⟩ := (show ∃ t, b = Value.str j t from rb)
        simp only [ltX] at h
        cases h
        rw [← dataLt_str]
        exact rcLt_alike _ _ B s _ _ [] [] (.str i t) (.str j t2) rfl (by simp) (by simp [PyData.depth]; omega)
      | _ => simp [ltX] at h
    | @tup a1 xs ds f1 t1 =>
      cases fb with
      | @tup a2 ys es f2 t2 =>
        cases (show a = Value.ref a1 from ra)
        cases (show b = Value.ref a2 from rb)
        simp only [ltX] at h
        obtain ⟨us, v1, o1, n1, g1, c1, e1⟩ := f1.at_ ok ki
        obtain ⟨ws, v2, o2, n2, g2, c2, e2⟩ := f2.at_ ok ki
        obtain ⟨h1, h2⟩ := ltL_first _ ds es k h
        have l1 : us.length = ds.length := v1.length.symm.trans t1.len
        have l2 : ws.length = es.length := v2.length.symm.trans t2.len
        have qa : ∀ d ∈ ds, plD n d = true := by have := pa; simpa [plD] using this
        have qb : ∀ d ∈ es, plD n d = true := by have := pb; simpa [plD] using this
        have q := rcFirst (A := B) (s := s) (la := a1) (lb := a2) (us := us.toArray) (ws := ws.toArray) (q := fun j => PyData.eqv (ds.getD j .none) (es.getD j .none)) (p := fun j => (ltX n (ds.getD j .none) (es.getD j .none)).getD false)
          ⟨o1, g1, c1, n1, e1⟩ ⟨o2, g2, c2, n2, e2⟩ (by omega) (fun j j1 j2 => ?_) (fun j j1 j2 z1 z2 => ?_)
        · have e : firstLt (fun j => PyData.eqv (ds.getD j .none) (es.getD j .none)) (fun j => (ltX n (ds.getD j .none) (es.getD j .none)).getD false) (decide (us.toArray.size < ws.toArray.size)) (List.range (min us.toArray.size ws.toArray.size)) = k := by
            rw [← h1]
            simp only [List.size_toArray, l1, l2]
          rw [e] at q
          exact q
        · have j1' : j < us.length := by simpa using j1
          have j2' : j < ws.length := by simpa using j2
          obtain ⟨v, r1, r2, r3⟩ := t1.get2 v1 j1'
          obtain ⟨u, r4, r5, r6⟩ := t2.get2 v2 j2'
          obtain ⟨k1, p1, p2⟩ := pl_key n _ (qa _ r3)
          obtain ⟨k2, p3, p4⟩ := pl_key n _ (qb _ r6)
          show EqAt B.in1 s us[j] ws[j] _
          rw [eqv_key p1 p3]
          refine eqAt_key k1 k2 B.in1 s _ _ (nkey_is ok ki r1 r2 p1) (nkey_is ok ki r4 r5 p3) ?_
          show B.units + 1 + min k1.depth k2.depth < cLine
          omega
        · have j1' : j < us.length := by simpa using j1
          have j2' : j < ws.length := by simpa using j2
          obtain ⟨v, r1, r2, r3⟩ := t1.get2 v1 j1'
          obtain ⟨u, r4, r5, r6⟩ := t2.get2 v2 j2'
          obtain ⟨c, hc⟩ := h2 j (by omega) (by omega) z1 z2
          show RcLt B.in1 s us[j] ws[j] _
          rw [hc]
          refine ih _ _ B.in1 v u _ _ c r1 r4 r2 r5 (qa _ r3) (qb _ r6) hc ?_
          show B.units + 1 + 2 * n + 1 < cLine
          omega
      | _ => simp [ltX] at h
    | _ => cases fb <;> simp [ltX] at h
end
end DL
namespace DL
open PySem PySem.Spec PyProof.Rows L2
/-! ### heappush, heappop -/
theorem ent_sift : entryFor table "_heapq.heapify.sift" = some Builtin.«_heapq.heapify.sift» := entryFor_of_fast (by kernel_rfl)
theorem ent_push : entryFor table "_heapq.heappush" = some Builtin.«_heapq.heappush» := entryFor_of_fast (by kernel_rfl)
theorem ent_pop : entryFor table "_heapq.heappop" = some Builtin.«_heapq.heappop» := entryFor_of_fast (by kernel_rfl)
theorem pl_sift : plainId "_heapq.heapify.sift" = true := by decide +kernel
theorem pl_push : plainId "_heapq.heappush" = true := by decide +kernel
theorem pl_pop : plainId "_heapq.heappop" = true := by decide +kernel
theorem kd_push : builtinKind "_heapq.heappush" = none := by decide +kernel
theorem kd_pop : builtinKind "_heapq.heappop" = none := by decide +kernel
theorem ar_push (a b : Value) : argsOk "_heapq.heappush" ⟨[a, b], []⟩ := by unfold argsOk; kernel_rfl
theorem ar_pop (a : Value) : argsOk "_heapq.heappop" ⟨[a], []⟩ := by unfold argsOk; kernel_rfl
/-- two items change places -/
def swp {α : Type} (i j : Nat) (xs : List α) : List α := match xs[i]?, xs[j]? with
  | some x, some y => (xs.set i y).set j x
  | _, _ => xs
/-- is the item at i less than that at j -/
def hLt (ds : List D) (i j : Nat) : Option Bool := match ds[i]?, ds[j]? with
  | some x, some y => if plD 8 x = true then (if plD 8 y = true then ltX 8 x y else none) else none
  | _, _ => none
def hUp : Nat → List D → Nat → Option (List D)
  | 0, _, _ => none
  | n + 1, ds, pos => if pos = 0 then some ds else match hLt ds pos ((pos - 1) / 2) with
    | some true => hUp n (swp ((pos - 1) / 2) pos ds) ((pos - 1) / 2)
    | some false => some ds
    | none => none
def hDown : Nat → List D → Nat → Option (List D)
  | 0, _, _ => none
  | n + 1, ds, pos => if pos < ds.length / 2 then (if 2 * pos + 1 + 1 < ds.length then (match hLt ds (2 * pos + 1) (2 * pos + 1 + 1) with
      | some true => hDown n (swp (2 * pos + 1) pos ds) (2 * pos + 1)
      | some false => hDown n (swp (2 * pos + 1 + 1) pos ds) (2 * pos + 1 + 1)
      | none => none) else hDown n (swp (2 * pos + 1) pos ds) (2 * pos + 1)) else hUp (n + 1) ds pos
theorem swp_len {α : Type} (i j : Nat) (xs : List α) : (swp i j xs).length = xs.length := by
  unfold swp
  split <;> simp
def itM (a : Addr) : Sem (Array Value) := do
  let some us ← seqItems? (.ref a)
    | unsupported "internal:_heapq"
  return us
def atM (us : Array Value) (i : Nat) : Sem Value := match us[i]? with
  | some u => pure u
  | none => unsupported "internal:_heapq.index"
def swM (a : Addr) (i j : Nat) : Sem Unit := itM a >>= fun us => atM us i >>= fun u => atM us j >>= fun v => updateSeq a fun zs => (zs.setIfInBounds i v).setIfInBounds j u
section
variable {M : Model} {B : Around} {E : Value → Shared → Prop} {s : Shared}
theorem it_wp {a : Addr} {o : Obj} {us : Array Value} {n : Nat} {Q : Array Value → Shared → Prop} (ho : s.heap.get? a = some o) (hd : o.data = .seq us n) (h : Q us s) : wpAny M B (itM a) Q E s := wpAny_bind (wpAny_seqItems ho hd (wpAny_pure h))
theorem at_wp {us : Array Value} {i : Nat} {v : Value} {Q : Value → Shared → Prop} (h : us[i]? = some v) (q : Q v s) : wpAny M B (atM us i) Q E s := by
  unfold atM
  rw [h]
  exact wpAny_pure q
end
section
variable [KFrag] {X : Cx} [HK X] {pins : List (Addr × Obj)} {σ : L2.St} {H : Hp} {s : Shared} {B : Around} {E : Value → Shared → Prop} {A : Addr → Prop} {a : Addr} {xs : List V} {ds : List D}
theorem lst_at (I : Inv X pins σ H s) (e : H a = some (.lst xs)) : xs.length ≤ sizeLine ∧ ∃ (us : List Value) (n : Nat), Vals xs us ∧ s.heap.get? a = some { cls := .type "list", data := .seq us.toArray n } := I.hok a _ e
theorem upd_id {o : HO} (e : H a = some o) : upd H a o = H := by
  funext b
  by_cases h : b = a
  · rw [h, upd_same, e]
  · rw [upd_ne h]
theorem Vals.set {v : V} {u : Value} (r : RelV v u) : ∀ {vs : List V} {us : List Value} (j : Nat), Vals vs us → Vals (vs.set j v) (us.set j u)
  | _, _, _, .nil => .nil
  | _, _, 0, .cons _ t => .cons r t
  | _, _, j + 1, .cons h t => .cons h (Vals.set r j t)
theorem vals_at {us : List Value} (r : Vals xs us) {i : Nat} {x : V} (h : xs[i]? = some x) : ∃ u, us[i]? = some u ∧ RelV x u := r.get h
/-- the list's object is written -/
theorem lst_write {us : List Value} {n : Nat} {ys : List V} {ws : List Value} {f : Array Value → Array Value} (I : Inv X pins σ H s) (e : H a = some (.lst xs)) (ho : s.heap.get? a = some { cls := .type "list", data := .seq us.toArray n })
    (hf : f us.toArray = ws.toArray) (r : Vals ys ws) (hl : ys.length ≤ sizeLine) : Inv X pins σ (upd H a (.lst ys)) { s with heap := s.heap.update a (Obj.mapSeq f) } := by
  have g := Heap.get?_update_self (Obj.mapSeq f) ho rfl
  exact d_write (t' := s.toks) I (by rw [e]; exact True.intro) (Heap.SameBut.update s.heap a _) ⟨_, g⟩ ⟨hl, ws, (if (f us.toArray).size == us.toArray.size then n else n + 1), r, by rw [g, ← hf]; rfl⟩
theorem kp_updA {A : Addr → Prop} {a : Addr} {o : HO} (h : A a) : Kp H (upd H a o) A A :=
  ⟨fun a x e n => by rw [upd_ne (fun z => n (by rw [z]; exact h))]; exact e, fun _ _ _ n => n⟩
theorem fzs_set {A : Addr → Prop} {v : V} {x : D} (h : Fz H A v x) : ∀ {vs : List V} {ds : List D} (j : Nat), Fzs H A vs ds → Fzs H A (vs.set j v) (ds.set j x)
  | _, _, _, .nil => .nil
  | _, _, 0, .cons _ t => .cons h t
  | _, _, j + 1, .cons a t => .cons a (fzs_set h j t)
theorem fz_up {o : HO} {A : Addr → Prop} (hA : A a) {vs : List V} {es : List D} (f : Fzs H A vs es) : Fzs (upd H a o) A vs es := f.kp (kp_updA hA)
theorem Fzs.setD {v : V} {d : D} (h : Fz H A v d) {vs : List V} {es : List D} (j : Nat) (f : Fzs H A vs es) : Fzs H A (vs.set j v) (es.set j d) := fzs_set h j f
theorem sw_wp {i j : Nat} {Q : Unit → Shared → Prop} (I : Inv X pins σ H s) (e : H a = some (.lst xs)) (hA : A a) (f : Fzs H A xs ds) (hi : i < ds.length) (hj : j < ds.length)
    (h : ∀ ys s', Inv X pins σ (upd H a (.lst ys)) s' → Fzs (upd H a (.lst ys)) A ys (swp i j ds) → Q () s') : wpAny (model X.prog X.w) B (swM a i j) Q E s := by
  obtain ⟨hl, us, n, r, ho⟩ := lst_at I e
  have li : i < xs.length := by rw [f.len]; exact hi
  have lj : j < xs.length := by rw [f.len]; exact hj
  obtain ⟨u, u1, u2⟩ := vals_at r (List.getElem?_eq_getElem li)
  obtain ⟨v, v1, v2⟩ := vals_at r (List.getElem?_eq_getElem lj)
  obtain ⟨d, d1, d2⟩ := f.getV (List.getElem?_eq_getElem li)
  obtain ⟨g, g1, g2⟩ := f.getV (List.getElem?_eq_getElem lj)
  refine wpAny_bind (it_wp ho rfl (wpAny_bind (at_wp (v := u) (by simpa using u1) (wpAny_bind (at_wp (v := v) (by simpa using v1) ?_)))))
  have hs : swp i j ds = (ds.set i g).set j d := by unfold swp; rw [d1, g1]
  have fin := lst_write (f := fun zs => (zs.setIfInBounds i v).setIfInBounds j u) (ys := (xs.set i xs[j]).set j xs[i]) (ws := (us.set i v).set j u) I e ho (by simp) (Vals.set u2 j (Vals.set v2 i r)) (by simpa using hl)
  refine wpAny_updateSeq ho rfl (h _ _ fin ?_) (by rw [List.size_toArray, ← r.length]; exact hl) (by simp only [Array.size_setIfInBounds, List.size_toArray]; rw [← r.length]; omega)
  rw [hs]
  exact fz_up hA (Fzs.setD d2 j (Fzs.setD g2 i f))
/-- the items at i and j are compared -/
theorem lt_at {k : Bool} {us : List Value} {i j : Nat} (hu : B.units + 40 < cLine) (I : Inv X pins σ H s) (r : Vals xs us) (f : Fzs H A xs ds) (h : hLt ds i j = some k) : ∃ u v, us.toArray[i]? = some u ∧ us.toArray[j]? = some v ∧ SeqAt.RcLt B s u v k := by
  unfold hLt at h
  split at h
  · rename_i d g d1 g1
    split at h
    · rename_i p1
      split at h
      · rename_i p2
        obtain ⟨x, x1, x2⟩ := f.get d1
        obtain ⟨y, y1, y2⟩ := f.get g1
        obtain ⟨u, u1, u2⟩ := vals_at r x1
        obtain ⟨v, v1, v2⟩ := vals_at r y1
        exact ⟨u, v, by simpa using u1, by simpa using v1, rcLtX I.hok (kin I) 8 d g B x y u v k x2 y2 u2 v2 p1 p2 h (by omega)⟩
      · cases h
    · cases h
  · cases h
theorem hLt_lt {k : Bool} {i j : Nat} (h : hLt ds i j = some k) : i < ds.length ∧ j < ds.length := by
  unfold hLt at h
  split at h
  · rename_i d1 g1
    exact ⟨(List.getElem?_eq_some_iff.mp d1).1, (List.getElem?_eq_some_iff.mp g1).1⟩
  · cases h
theorem up_wp {R : Result → Shared → Prop} {res : Value} (hu : B.units + 41 < cLine) (hA : A a) : ∀ (n : Nat) (ds ds' : List D) (pos : Nat) (xs : List V) (H : Hp) (s : Shared), Inv X pins σ H s → H a = some (.lst xs) → Fzs H A xs ds → hUp n ds pos = some ds' →
    (∀ ys s', Inv X pins σ (upd H a (.lst ys)) s' → Fzs (upd H a (.lst ys)) A ys ds' → R (.ok (.ret res)) s') →
    codeAny (model X.prog X.w) B (.builtin "_heapq.heapify.sift" ⟨[.ref a, .bool false, .bool false, .int pos 0, .int 0 0, res, .int (-1) 0], []⟩) R s := by
  intro n
  induction n with
  | zero => intro ds ds' pos xs H s I e f h; cases h
  | succ n ih =>
    intro ds ds' pos xs H s I e f h hR
    obtain ⟨hl, us, m, r, ho⟩ := lst_at I e
    refine codeAny_builtin ent_sift ?_
    rw [Around.under_plainId pl_sift _]
    unfold Builtin.«_heapq.heapify.sift»
    dsimp only
    refine wpAny_bind ?_
    show wpAny _ _ (itM a) _ _ _
    refine it_wp ho rfl ?_
    rw [if_neg Bool.false_ne_true]
    unfold hUp at h
    by_cases hp : pos = 0
    · rw [if_pos hp] at h
      cases h
      subst hp
      rw [if_neg (by simp), if_pos (by decide)]
      refine wpAny_pure ?_
      exact hR xs s (by rw [upd_id e]; exact I) (by rw [upd_id e]; exact f)
    · rw [if_neg hp] at h
      rw [if_pos (show (pos : Int).toNat > (0 : Int).toNat by simp only [Int.toNat_natCast, Int.toNat_zero]; omega)]
      simp only [Int.toNat_natCast]
      cases hk : hLt ds pos ((pos - 1) / 2) with
      | none => rw [hk] at h; cases h
      | some k =>
        obtain ⟨u, v, u1, v1, rc⟩ := lt_at (B := B.in1) (by show B.units + 1 + 40 < cLine; omega) I r f hk
        refine wpAny_bind ?_
        show wpAny _ _ (atM us.toArray pos) _ _ _
        refine at_wp u1 (wpAny_bind ?_)
        show wpAny _ _ (atM us.toArray ((pos - 1) / 2)) _ _ _
        refine at_wp v1 ?_
        rw [if_neg Bool.false_ne_true]
        refine wpAny_bind ?_
        show wpAny _ _ (holding [u, v] _ >>= _) _ _ _
        refine wpAny_bind (wpAny_holding (wpAny_bind (rc X.prog X.w _ _ ?_)))
        show wpAny _ _ (truthy (.bool k)) _ _ _
        refine wpAny_truthy_bool ?_
        refine wpAny_bind ?_
        show wpAny _ _ (itM a) _ _ _
        refine it_wp ho rfl ?_
        rw [if_neg (by simp)]
        refine wpAny_pure ?_
        rw [hk] at h
        obtain ⟨l1, l2⟩ := hLt_lt hk
        cases k with
        | false =>
          cases h
          rw [if_neg Bool.false_ne_true, if_pos (by decide)]
          refine wpAny_pure ?_
          exact hR xs s (by rw [upd_id e]; exact I) (by rw [upd_id e]; exact f)
        | true =>
          rw [if_pos rfl]
          refine wpAny_bind ?_
          show wpAny _ _ (swM a ((pos - 1) / 2) pos) _ _ _
          refine sw_wp I e hA f l2 l1 fun ys s' I' f' => wpAny_pure ⟨plainId_quiet pl_sift _, ?_⟩
          refine ih _ ds' _ ys _ s' I' upd_same f' h fun zs s2 I2 f2 => ?_
          rw [upd_upd] at I2 f2
          exact hR zs s2 I2 f2
theorem down_wp {R : Result → Shared → Prop} {res : Value} (hu : B.units + 41 < cLine) (hA : A a) : ∀ (n : Nat) (ds ds' : List D) (pos : Nat) (xs : List V) (H : Hp) (s : Shared), Inv X pins σ H s → H a = some (.lst xs) → Fzs H A xs ds → hDown n ds pos = some ds' →
    (∀ ys s', Inv X pins σ (upd H a (.lst ys)) s' → Fzs (upd H a (.lst ys)) A ys ds' → R (.ok (.ret res)) s') →
    codeAny (model X.prog X.w) B (.builtin "_heapq.heapify.sift" ⟨[.ref a, .bool false, .bool true, .int pos 0, .int 0 0, res, .int (-1) 0], []⟩) R s := by
  intro n
  induction n with
  | zero => intro ds ds' pos xs H s I e f h; cases h
  | succ n ih =>
    intro ds ds' pos xs H s I e f h hR
    obtain ⟨hl, us, m, r, ho⟩ := lst_at I e
    have lu : us.toArray.size = ds.length := by rw [List.size_toArray, ← r.length]; exact f.len
    refine codeAny_builtin ent_sift ?_
    rw [Around.under_plainId pl_sift _]
    unfold Builtin.«_heapq.heapify.sift»
    dsimp only
    refine wpAny_bind ?_
    show wpAny _ _ (itM a) _ _ _
    refine it_wp ho rfl ?_
    rw [if_pos rfl]
    simp only [Int.toNat_natCast, lu]
    unfold hDown at h
    by_cases hp : pos < ds.length / 2
    · rw [if_pos hp] at h ⊢
      by_cases hq : 2 * pos + 1 + 1 < ds.length
      · rw [if_pos hq] at h ⊢
        cases hk : hLt ds (2 * pos + 1) (2 * pos + 1 + 1) with
        | none => rw [hk] at h; cases h
        | some k =>
          obtain ⟨u, v, u1, v1, rc⟩ := lt_at (B := B.in1) (by show B.units + 1 + 40 < cLine; omega) I r f hk
          refine wpAny_bind ?_
          show wpAny _ _ (atM us.toArray (2 * pos + 1)) _ _ _
          refine at_wp u1 (wpAny_bind ?_)
          show wpAny _ _ (atM us.toArray (2 * pos + 1 + 1)) _ _ _
          refine at_wp v1 ?_
          rw [if_neg Bool.false_ne_true]
          refine wpAny_bind ?_
          show wpAny _ _ (holding [u, v] _ >>= _) _ _ _
          refine wpAny_bind (wpAny_holding (wpAny_bind (rc X.prog X.w _ _ ?_)))
          show wpAny _ _ (truthy (.bool k)) _ _ _
          refine wpAny_truthy_bool ?_
          refine wpAny_bind ?_
          show wpAny _ _ (itM a) _ _ _
          refine it_wp ho rfl ?_
          rw [if_neg (by simp [lu])]
          refine wpAny_pure ?_
          rw [hk] at h
          obtain ⟨l1, l2⟩ := hLt_lt hk
          have l3 : pos < ds.length := by omega
          cases k with
          | true =>
            rw [if_neg (by simp)]
            refine wpAny_bind ?_
            show wpAny _ _ (swM a (2 * pos + 1) pos) _ _ _
            refine sw_wp I e hA f l1 l3 fun ys s' I' f' => wpAny_pure ⟨plainId_quiet pl_sift _, ?_⟩
            refine ih _ ds' _ ys _ s' I' upd_same f' h fun zs s2 I2 f2 => ?_
            rw [upd_upd] at I2 f2
            exact hR zs s2 I2 f2
          | false =>
            rw [if_pos (by simp)]
            refine wpAny_bind ?_
            show wpAny _ _ (swM a (2 * pos + 1 + 1) pos) _ _ _
            refine sw_wp I e hA f l2 l3 fun ys s' I' f' => wpAny_pure ⟨plainId_quiet pl_sift _, ?_⟩
            refine ih _ ds' _ ys _ s' I' upd_same f' h fun zs s2 I2 f2 => ?_
            rw [upd_upd] at I2 f2
            exact hR zs s2 I2 f2
      · rw [if_neg hq] at h ⊢
        refine wpAny_bind ?_
        show wpAny _ _ (swM a (2 * pos + 1) pos) _ _ _
        refine sw_wp I e hA f (by omega) (by omega) fun ys s' I' f' => wpAny_pure ⟨plainId_quiet pl_sift _, ?_⟩
        refine ih _ ds' _ ys _ s' I' upd_same f' h fun zs s2 I2 f2 => ?_
        rw [upd_upd] at I2 f2
        exact hR zs s2 I2 f2
    · rw [if_neg hp] at h ⊢
      exact wpAny_pure ⟨plainId_quiet pl_sift _, up_wp hu hA (n + 1) ds ds' pos xs H s I e f h hR⟩
theorem kp_dn {A : Addr → Prop} {a : Addr} {o : HO} (h : A a) : Kp (upd H a o) H A A :=
  ⟨fun b x e n => by rw [upd_ne (fun z => n (by rw [z]; exact h))] at e; exact e, fun _ _ _ n => n⟩
theorem sub_list : isSubtype (.type "list") (.type "list") = pure true := by rfl
theorem push_wp {x : V} {u : Value} {d : D} {ds' : List D} {Q : Value → Shared → Prop} (hu : B.units + 60 < cLine) (I : Inv X pins σ H s) (e : H a = some (.lst xs)) (hA : A a) (f : Fzs H A xs ds) (fx : Fz H A x d) (rx : RelV x u) (hl : ds.length < line)
    (h : hUp 64 (ds ++ [d]) ds.length = some ds') (hQ : ∀ ys s', Inv X pins σ (upd H a (.lst ys)) s' → Fzs H A ys ds' → Q .none s') : wpAny (model X.prog X.w) B (call (.builtin "_heapq.heappush") [.ref a, u]) Q E s := by
  unfold line at hl
  obtain ⟨_, us, m, r, ho⟩ := lst_at I e
  have lu : us.length = ds.length := r.length.symm.trans f.len
  have ht : s.TypeIs (.ref a) "list" := ⟨_, ho, rfl⟩
  refine call_function_tree kd_push pl_push ent_push (ar_push _ _) ?_
  unfold Builtin.«_heapq.heappush»
  refine wpAny_bind ?_
  refine wpAny_bind (wpAny_pure ?_)
  refine wpAny_bind (m := checkCount "heappush" 2 2 _) (wpAny_pure ?_)
  refine wpAny_bind ?_
  refine wpAny_bind (wpAny_isInstance ht sub_list ?_)
  rw [if_pos rfl]
  refine wpAny_pure (wpAny_pure ?_)
  dsimp only
  refine wpAny_bind (wpAny_updateSeq ho rfl ?_ (by rw [sizeLine_eq, List.size_toArray]; omega) (by simp only [Array.size_push, List.size_toArray]; rw [sizeLine_eq]; omega))
  have I2 := lst_write (f := fun zs => zs.push u) (ys := xs ++ [x]) (ws := us ++ [u]) I e ho (by simp) (r.append (.cons rx .nil)) (by rw [sizeLine_eq, List.length_append, f.len]; simp; omega)
  obtain ⟨_, us2, m2, r2, ho2⟩ := lst_at I2 upd_same
  refine wpAny_bind ?_
  show wpAny _ _ (itM a) _ _ _
  refine it_wp ho2 rfl ?_
  have hp : us2.toArray.size - 1 = ds.length := by
    have := r2.length
    rw [List.length_append, f.len] at this
    rw [List.size_toArray]
    simp at this
    omega
  rw [hp]
  refine wpAny_pure ⟨plainId_quiet pl_sift _, ?_⟩
  refine up_wp (res := .none) (by omega) hA 64 (ds ++ [d]) ds' ds.length (xs ++ [x]) _ _ I2 upd_same (fz_up hA (f.app (.cons fx .nil))) h fun ys s' I3 f3 => ?_
  rw [upd_upd] at I3 f3
  exact hQ ys s' I3 (f3.kp (kp_dn hA))
def hPop : List D → Option (D × List D)
  | [] => none
  | d :: r => if r.isEmpty = true then some (d, []) else match hDown 64 ((d :: r).dropLast.set 0 (r.getLast?.getD d)) 0 with
    | some es => some (d, es)
    | none => none
theorem Vals.dropLast {vs : List V} {us : List Value} (r : Vals vs us) : Vals vs.dropLast us.dropLast := by
  rw [List.dropLast_eq_take, List.dropLast_eq_take, r.length]
  exact r.take _
theorem pop_wp {d : D} {ds' : List D} {Q : Value → Shared → Prop} (hu : B.units + 60 < cLine) (I : Inv X pins σ H s) (e : H a = some (.lst xs)) (hA : A a) (f : Fzs H A xs ds) (h : hPop ds = some (d, ds'))
    (hQ : ∀ v u ys s', Inv X pins σ (upd H a (.lst ys)) s' → Fzs H A ys ds' → Fz H A v d → RelV v u → Q u s') : wpAny (model X.prog X.w) B (call (.builtin "_heapq.heappop") [.ref a]) Q E s := by
  obtain ⟨hl, us, m, r, ho⟩ := lst_at I e
  have lu : us.length = ds.length := r.length.symm.trans f.len
  have ht : s.TypeIs (.ref a) "list" := ⟨_, ho, rfl⟩
  refine call_function_tree kd_pop pl_pop ent_pop (ar_pop _) ?_
  unfold Builtin.«_heapq.heappop»
  show wpAny _ _ (_ >>= _) _ _ _
  refine wpAny_bind ?_
  refine wpAny_bind (wpAny_pure ?_)
  refine wpAny_bind ?_
  refine wpAny_bind (wpAny_isInstance ht sub_list ?_)
  rw [if_pos rfl]
  refine wpAny_pure (wpAny_pure ?_)
  dsimp only
  refine wpAny_bind ?_
  show wpAny _ _ (itM a) _ _ _
  refine it_wp ho rfl ?_
  have hsz : us.length ≤ sizeLine := by rw [← r.length]; exact hl
  obtain ⟨d0, er, rfl⟩ : ∃ d0 er, ds = d0 :: er := by
    cases ds with
    | nil => cases h
    | cons d0 er => exact ⟨_, _, rfl⟩
  unfold hPop at h
  by_cases hz : er = []
  · subst hz
    cases h
    cases f with
    | @cons v vs _ _ f1 f2 =>
    cases f2
    cases r with
    | @cons _ u _ us' r1 r2 =>
    cases r2
    show wpAny _ _ (_ >>= _) _ _ _
    refine wpAny_bind (wpAny_updateSeq ho rfl ?_ (by simp only [List.size_toArray]; exact hsz) (by simp))
    show wpAny _ _ (ret u) _ _ _
    refine wpAny_pure ?_
    exact hQ v u [] _ (lst_write (f := fun zs => zs.pop) (ys := []) (ws := []) I e ho (by simp) .nil (Nat.zero_le _)) .nil f1 r1
  · have hz' : ¬ er.isEmpty = true := by rw [List.isEmpty_iff]; exact hz
    dsimp only at h
    rw [if_neg hz'] at h
    split at h
    · rename_i es hd
      cases h
      cases f with
      | @cons v vs _ _ f1 f2 =>
      cases r with
      | @cons _ u _ us' r1 r2 =>
      have hv : vs ≠ [] := by
        intro z
        subst z
        cases f2
        exact hz rfl
      obtain ⟨vl, v1⟩ : ∃ z, vs.getLast? = some z := by
        cases z : vs.getLast? with
        | none => exact absurd (List.getLast?_eq_none_iff.mp z) hv
        | some y => exact ⟨y, rfl⟩
      have v2 : vs[vs.length - 1]? = some vl := by rw [← v1, List.getLast?_eq_getElem?]
      obtain ⟨ul, u1, u2⟩ := vals_at r2 v2
      obtain ⟨dl, d1, d2⟩ := f2.getV v2
      have u3 : (u :: us').toArray.back? = some ul := by
        rw [List.back?_toArray, List.getLast?_cons, List.getLast?_eq_getElem?, ← r2.length, u1]
        rfl
      have d3 : er.getLast?.getD d = dl := by
        rw [List.getLast?_eq_getElem?, ← f2.len, d1]
        rfl
      rw [d3] at hd
      rw [u3]
      dsimp only
      have lv : 0 < vs.length := List.length_pos_iff.mpr hv
      have lus : 0 < us'.length := by rw [← r2.length]; exact lv
      refine wpAny_bind (wpAny_updateSeq ho rfl ?_ (by simp only [List.size_toArray]; exact hsz) (by simp only [Array.size_pop, List.size_toArray]; omega))
      have I2 := lst_write (f := fun zs => zs.pop) (ys := (v :: vs).dropLast) (ws := (u :: us').dropLast) I e ho (by simp) (Vals.dropLast (.cons r1 r2)) (by rw [List.length_dropLast]; omega)
      obtain ⟨l2, us2, m2, r3, ho2⟩ := lst_at I2 upd_same
      rw [if_neg (by simp only [List.size_toArray, List.length_cons, beq_iff_eq]; omega)]
      refine wpAny_bind ?_
      show wpAny _ _ (atM (u :: us').toArray 0) _ _ _
      refine at_wp (v := u) (by simp) ?_
      have l2' : us2.length ≤ sizeLine := by rw [← r3.length]; exact l2
      refine wpAny_bind (wpAny_updateSeq ho2 rfl ?_ (by simp only [List.size_toArray]; exact l2') (by simp only [Array.size_setIfInBounds, List.size_toArray]; omega))
      have I3 := lst_write (f := fun zs => zs.setIfInBounds 0 ul) (ys := (v :: vs).dropLast.set 0 vl) (ws := us2.set 0 ul) I2 upd_same ho2 (by simp) (Vals.set u2 0 r3) (by rw [List.length_set]; exact l2)
      rw [upd_upd] at I3
      have hf : Fzs H A ((v :: vs).dropLast.set 0 vl) ((d :: er).dropLast.set 0 dl) := by
        refine fzs_set d2 0 ?_
        have q := (Fzs.cons f1 f2).take ((v :: vs).length - 1)
        rw [List.dropLast_eq_take, List.dropLast_eq_take]
        have : (v :: vs).length - 1 = (d :: er).length - 1 := by simp [f2.len]
        rw [← this]
        exact q
      refine wpAny_pure ⟨plainId_quiet pl_sift _, ?_⟩
      refine down_wp (res := u) (by omega) hA 64 _ ds' 0 _ _ _ I3 upd_same (fz_up hA hf) hd fun ys s' I4 f4 => ?_
      rw [upd_upd] at I4 f4
      exact hQ v u ys s' I4 (f4.kp (kp_dn hA)) f1 r1
    · cases h
end
/-! as calls -/
section
variable [KFrag] {X : Cx} [HK X] {x : Str} {p pos : Pos} {e : Expr} {es : List Expr} {t : TA} {id : String} {r : List V → Hp → VK → Prop}
theorem pe_callGB (hc : CallR X (.builtin id) r) (hg : Gl X x) (hm : X.mg x = some (.builtin id)) (ha : PA X (e :: es) t) (hdb : (x == ("__debug__" : Str)) = false := by decide)
    (he : starEach (e :: es) X.env = (false, eval e X.env) :: starEach es X.env := by rfl) (hpl : (backTo pos (starEach es X.env)).any (·.1) = false := by rfl) : PE X (.Call (.Name x p) (e :: es) [] pos) (tCB r t) :=
  ⟨fun pins s σ H Q I h => wpAny_Call_Name_kw (ld_glob I hg hm (PyProof.Rows.callWith_builtin1 (thn (ha.run pos pins s σ H _ I h) fun us s1 ⟨vs, H1, I1, r1, q1⟩ => hc pins s1 σ H1 vs us Q I1 r1 q1) he hpl) hdb)⟩
def rPush : List V → Hp → VK → Prop := fun vs H Q => ∃ A a xs ds x d ds', vs = [.ref a, x] ∧ H a = some (.lst xs) ∧ A a ∧ Fzs H A xs ds ∧ Fz H A x d ∧ ds.length < line ∧ hUp 64 (ds ++ [d]) ds.length = some ds' ∧ ∀ ys, Fzs H A ys ds' → Q .non (upd H a (.lst ys))
def rPop : List V → Hp → VK → Prop := fun vs H Q => ∃ A a xs ds d ds', vs = [.ref a] ∧ H a = some (.lst xs) ∧ A a ∧ Fzs H A xs ds ∧ hPop ds = some (d, ds') ∧ ∀ v ys, Fzs H A ys ds' → Fz H A v d → Q v (upd H a (.lst ys))
theorem cr_push (hu : X.A.units + 64 < cLine) : CallR X (.builtin "_heapq.heappush") rPush := by
  rintro pins s σ H vs us Q I rv ⟨A, a, xs, ds, x, d, ds', rfl, e, hA, f, fx, hl, h, q⟩
  cases rv with
  | cons r1 r2 =>
  cases r2 with
  | cons r3 r4 =>
  cases r4
  cases (show _ = Value.ref a from r1)
  exact push_wp (by omega) I e hA f fx r3 hl h fun ys s' I' f' => ⟨.non, _, I', rfl, q ys f'⟩
theorem cr_pop (hu : X.A.units + 64 < cLine) : CallR X (.builtin "_heapq.heappop") rPop := by
  rintro pins s σ H vs us Q I rv ⟨A, a, xs, ds, d, ds', rfl, e, hA, f, h, q⟩
  cases rv with
  | cons r1 r2 =>
  cases r2
  cases (show _ = Value.ref a from r1)
  exact pop_wp (by omega) I e hA f h fun v u ys s' I' f' fv rv => ⟨v, _, I', rv, q v ys f' fv⟩
end
section
variable [KFrag] {X : Cx} [HK X] {T : TX} {Wx : WXc} {x : Str} {p pos : Pos} {e : Expr} {es : List Expr} {fs : En → CS → R (List W)}
def hPushC (ws : List W) (s : CS) : R W := match ws with
  | [.c n, .d d] => match s[n]? with
    | some (.lst ds) => if ds.length < line then (match hUp 64 (ds ++ [d]) ds.length with
      | some es => .ok (.d .none) (s.set n (.lst es))
      | none => .bad) else .bad
    | _ => .bad
  | _ => .bad
def hPopC (ws : List W) (s : CS) : R W := match ws with
  | [.c n] => match s[n]? with
    | some (.lst ds) => match hPop ds with
      | some (d, es) => .ok (.d d) (s.set n (.lst es))
      | none => .bad
    | _ => .bad
  | _ => .bad
def fHPush (fs : En → CS → R (List W)) (ρ : En) (s : CS) : R W := (fs ρ s).bind hPushC
def fHPop (fs : En → CS → R (List W)) (ρ : En) (s : CS) : R W := (fs ρ s).bind hPopC
theorem de_push (hu : X.A.units + 64 < cLine) (hg : Gl X x) (hm : X.mg x = some (.builtin "_heapq.heappush")) (ha : DA X T Wx (e :: es) fs) (hdb : (x == ("__debug__" : Str)) = false := by decide)
    (he : starEach (e :: es) X.env = (false, eval e X.env) :: starEach es X.env := by rfl) (hpl : (backTo pos (starEach es X.env)).any (·.1) = false := by rfl) : DE X T Wx (.Call (.Name x p) (e :: es) [] pos) (fHPush fs) :=
  PE_imp (pe_callGB (cr_push hu) hg hm ha hdb he hpl) fun σ H Q ⟨B, μ, s, ρ, r, e, q⟩ => tD_bind r e q fun ws s1 vs μ1 H1 st1 r1 e1 rel1 q1 => by
    replace rel1 : RWs B μ1 s1 H1 vs ws := rel1
    unfold hPushC at q1
    split at q1
    · rename_i n d
      cases rel1 with
      | cons a1 a2 =>
      cases a2 with
      | cons a3 a4 =>
      cases a4
      obtain ⟨a, rfl, ha⟩ := a1
      split at q1
      · rename_i ds hs
        split at q1
        · rename_i hl
          split at q1
          · rename_i es' hh
            obtain ⟨xs, ea, f⟩ := r1.cell n a _ ha hs
            refine ⟨Av B μ1 s1, a, xs, ds, _, d, es', rfl, ea, .inr ⟨n, _, ha, hs, by simp⟩, f, a3, hl, hh, fun ys fy => ?_⟩
            obtain ⟨b1, b2⟩ := putC r1 ha hs fy
            exact q1 _ _ _ b2 b1 Fz.non
          · exact q1.elim
        · exact q1.elim
      · exact q1.elim
    · exact q1.elim
theorem de_pop (hu : X.A.units + 64 < cLine) (hg : Gl X x) (hm : X.mg x = some (.builtin "_heapq.heappop")) (ha : DA X T Wx (e :: es) fs) (hdb : (x == ("__debug__" : Str)) = false := by decide)
    (he : starEach (e :: es) X.env = (false, eval e X.env) :: starEach es X.env := by rfl) (hpl : (backTo pos (starEach es X.env)).any (·.1) = false := by rfl) : DE X T Wx (.Call (.Name x p) (e :: es) [] pos) (fHPop fs) :=
  PE_imp (pe_callGB (cr_pop hu) hg hm ha hdb he hpl) fun σ H Q ⟨B, μ, s, ρ, r, e, q⟩ => tD_bind r e q fun ws s1 vs μ1 H1 st1 r1 e1 rel1 q1 => by
    replace rel1 : RWs B μ1 s1 H1 vs ws := rel1
    unfold hPopC at q1
    split at q1
    · rename_i n
      cases rel1 with
      | cons a1 a2 =>
      cases a2
      obtain ⟨a, rfl, ha⟩ := a1
      split at q1
      · rename_i ds hs
        split at q1
        · rename_i d es' hh
          obtain ⟨xs, ea, f⟩ := r1.cell n a _ ha hs
          refine ⟨Av B μ1 s1, a, xs, ds, d, es', rfl, ea, .inr ⟨n, _, ha, hs, by simp⟩, f, hh, fun v ys fy fv => ?_⟩
          obtain ⟨b1, b2⟩ := putC r1 ha hs fy
          refine q1 _ _ _ b2 b1 (Fz.kp ⟨fun b u eb nb => ?_, fun b u eb nb => b2.kp.new b u eb nb⟩ fv)
          exact b2.kp.keep b u eb nb
        · exact q1.elim
      · exact q1.elim
    · exact q1.elim
end
end DL
namespace DL
open PySem PySem.Spec PyProof.Rows L2
open PySem.W (KdlSrc TotalLe sameRank sort_unique sort_congr sortLe_total alike alikeAll dataLt dataLe AllAlike Sortable EachIs dataLt_all_yes dataLt_all_no keyToks keyToksAll dataLt_int dataLt_str dataLt_tuple)
/-! ### sorted -/
def insL {α : Type} (le : α → α → Bool) (x : α) : List α → List α
  | [] => [x]
  | y :: r => if le x y = true then x :: y :: r else y :: insL le x r
def isortL {α : Type} (le : α → α → Bool) : List α → List α
  | [] => []
  | x :: r => insL le x (isortL le r)
section
variable {α : Type} {le : α → α → Bool}
theorem insL_mem {x z : α} : ∀ {l : List α}, z ∈ insL le x l ↔ z = x ∨ z ∈ l
  | [] => by simp [insL]
  | y :: r => by
    unfold insL
    split
    · simp
    · rw [List.mem_cons, insL_mem, List.mem_cons]
      exact ⟨fun h => h.elim (fun h => .inr (.inl h)) fun h => h.elim .inl fun h => .inr (.inr h), fun h => h.elim (fun h => .inr (.inl h)) fun h => h.elim .inl fun h => .inr (.inr h)⟩
theorem isortL_mem {z : α} : ∀ {l : List α}, z ∈ isortL le l ↔ z ∈ l
  | [] => by simp [isortL]
  | y :: r => by unfold isortL; rw [insL_mem, isortL_mem, List.mem_cons]
theorem insL_pw (h : TotalLe le) {x : α} : ∀ {l : List α}, l.Pairwise (fun a b => le a b = true) → (insL le x l).Pairwise (fun a b => le a b = true)
  | [], _ => by simp [insL]
  | y :: r, hp => by
    obtain ⟨h1, h2⟩ := List.pairwise_cons.mp hp
    unfold insL
    split
    · rename_i e
      exact List.pairwise_cons.mpr ⟨fun z hz => (List.mem_cons.mp hz).elim (fun q => by rw [q]; exact e) fun q => h.trans _ _ _ e (h1 z q), hp⟩
    · rename_i e
      refine List.pairwise_cons.mpr ⟨fun z hz => (insL_mem.mp hz).elim (fun q => ?_) (h1 z), insL_pw h h2⟩
      rw [q]
      exact (h.total x y).elim (fun q => absurd q e) id
theorem isortL_pw (h : TotalLe le) : ∀ l : List α, (isortL le l).Pairwise (fun a b => le a b = true)
  | [] => .nil
  | x :: r => insL_pw h (isortL_pw h r)
theorem insL_flt (h : TotalLe le) {x c : α} : ∀ l : List α, (insL le x l).filter (sameRank le c) = (x :: l).filter (sameRank le c)
  | [] => rfl
  | y :: r => by
    unfold insL
    split
    · rfl
    · rename_i e
      rw [List.filter_cons, insL_flt h r, List.filter_cons, List.filter_cons, List.filter_cons]
      by_cases q1 : sameRank le c y = true
      · by_cases q2 : sameRank le c x = true
        · refine absurd (h.trans x c y ?_ ?_) e
          · unfold sameRank at q2; exact (Bool.and_eq_true_iff.mp q2).2
          · unfold sameRank at q1; exact (Bool.and_eq_true_iff.mp q1).1
        · simp [q1, q2]
      · simp [q1]
theorem isortL_flt (h : TotalLe le) {c : α} : ∀ l : List α, (isortL le l).filter (sameRank le c) = l.filter (sameRank le c)
  | [] => rfl
  | x :: r => by unfold isortL; rw [insL_flt h, List.filter_cons, List.filter_cons, isortL_flt h r]
theorem isortL_eq (h : TotalLe le) (l : List α) : isortL le l = l.mergeSort le := sort_unique h (isortL_pw h l) fun _ => isortL_flt h l
theorem insL_congr {le' : α → α → Bool} {x : α} : ∀ {l : List α}, (∀ y ∈ l, le x y = le' x y) → insL le x l = insL le' x l
  | [], _ => rfl
  | y :: r, h => by
    unfold insL
    rw [h y (by simp), insL_congr fun z hz => h z (by simp [hz])]
theorem isortL_congr {le' : α → α → Bool} : ∀ {l : List α}, (∀ x ∈ l, ∀ y ∈ l, le x y = le' x y) → isortL le l = isortL le' l
  | [], _ => rfl
  | x :: r, h => by
    unfold isortL
    rw [isortL_congr fun y hy z hz => h y (by simp [hy]) z (by simp [hz])]
    exact insL_congr fun y hy => h x (by simp) y (by simp [isortL_mem.mp hy])
end
/-! one shape -/
mutual
def sh : D → D → Bool
  | .int _, .int _ => true
  | .str _, .str _ => true
  | .tuple xs, .tuple ys => shs xs ys
  | _, _ => false
def shs : List D → List D → Bool
  | [], [] => true
  | x :: xs, y :: ys => sh x y && shs xs ys
  | _, _ => false
end
mutual
theorem sh_two : ∀ (x y z : D), sh x z = true → sh y z = true → sh x y = true
  | .int _, .int _, .int _, _, _ => rfl
  | .str _, .str _, .str _, _, _ => rfl
  | .tuple xs, .tuple ys, .tuple zs, h, k => by
    unfold sh at h k ⊢
    exact shs_two xs ys zs h k
  | .none, _, z, h, _ => by cases z <;> simp [sh] at h
  | .bool _, _, z, h, _ => by cases z <;> simp [sh] at h
  | .list _, _, z, h, _ => by cases z <;> simp [sh] at h
  | .dict _, _, z, h, _ => by cases z <;> simp [sh] at h
  | .int _, y, .none, h, _ => by simp [sh] at h
  | .int _, y, .bool _, h, _ => by simp [sh] at h
  | .int _, y, .str _, h, _ => by simp [sh] at h
  | .int _, y, .list _, h, _ => by simp [sh] at h
  | .int _, y, .tuple _, h, _ => by simp [sh] at h
  | .int _, y, .dict _, h, _ => by simp [sh] at h
  | .int _, .none, .int _, _, k => by simp [sh] at k
  | .int _, .bool _, .int _, _, k => by simp [sh] at k
  | .int _, .str _, .int _, _, k => by simp [sh] at k
  | .int _, .list _, .int _, _, k => by simp [sh] at k
  | .int _, .tuple _, .int _, _, k => by simp [sh] at k
  | .int _, .dict _, .int _, _, k => by simp [sh] at k
  | .str _, y, .none, h, _ => by simp [sh] at h
  | .str _, y, .bool _, h, _ => by simp [sh] at h
  | .str _, y, .int _, h, _ => by simp [sh] at h
  | .str _, y, .list _, h, _ => by simp [sh] at h
  | .str _, y, .tuple _, h, _ => by simp [sh] at h
  | .str _, y, .dict _, h, _ => by simp [sh] at h
  | .str _, .none, .str _, _, k => by simp [sh] at k
  | .str _, .bool _, .str _, _, k => by simp [sh] at k
  | .str _, .int _, .str _, _, k => by simp [sh] at k
  | .str _, .list _, .str _, _, k => by simp [sh] at k
  | .str _, .tuple _, .str _, _, k => by simp [sh] at k
  | .str _, .dict _, .str _, _, k => by simp [sh] at k
  | .tuple _, y, .none, h, _ => by simp [sh] at h
  | .tuple _, y, .bool _, h, _ => by simp [sh] at h
  | .tuple _, y, .int _, h, _ => by simp [sh] at h
  | .tuple _, y, .list _, h, _ => by simp [sh] at h
  | .tuple _, y, .str _, h, _ => by simp [sh] at h
  | .tuple _, y, .dict _, h, _ => by simp [sh] at h
  | .tuple _, .none, .tuple _, _, k => by simp [sh] at k
  | .tuple _, .bool _, .tuple _, _, k => by simp [sh] at k
  | .tuple _, .int _, .tuple _, _, k => by simp [sh] at k
  | .tuple _, .list _, .tuple _, _, k => by simp [sh] at k
  | .tuple _, .str _, .tuple _, _, k => by simp [sh] at k
  | .tuple _, .dict _, .tuple _, _, k => by simp [sh] at k
theorem shs_two : ∀ (x y z : List D), shs x z = true → shs y z = true → shs x y = true
  | [], [], [], _, _ => rfl
  | x :: xs, y :: ys, z :: zs, h, k => by
    unfold shs at h k ⊢
    rw [Bool.and_eq_true] at h k ⊢
    exact ⟨sh_two x y z h.1 k.1, shs_two xs ys zs h.2 k.2⟩
  | [], _, _ :: _, h, _ => by simp [shs] at h
  | _ :: _, _, [], h, _ => by simp [shs] at h
  | [], _ :: _, [], _, k => by simp [shs] at k
  | _ :: _, [], _ :: _, _, k => by simp [shs] at k
end
mutual
theorem sh_alike : ∀ (x y : D), sh x y = true → alike x y = true
  | .int _, .int _, _ => rfl
  | .str _, .str _, _ => rfl
  | .tuple xs, .tuple ys, h => by
    unfold sh at h
    unfold alike
    exact shs_alike xs ys h
  | .none, z, h => by cases z <;> simp [sh] at h
  | .bool _, z, h => by cases z <;> simp [sh] at h
  | .list _, z, h => by cases z <;> simp [sh] at h
  | .dict _, z, h => by cases z <;> simp [sh] at h
  | .int _, .none, h => by simp [sh] at h
  | .int _, .bool _, h => by simp [sh] at h
  | .int _, .str _, h => by simp [sh] at h
  | .int _, .list _, h => by simp [sh] at h
  | .int _, .tuple _, h => by simp [sh] at h
  | .int _, .dict _, h => by simp [sh] at h
  | .str _, .none, h => by simp [sh] at h
  | .str _, .bool _, h => by simp [sh] at h
  | .str _, .int _, h => by simp [sh] at h
  | .str _, .list _, h => by simp [sh] at h
  | .str _, .tuple _, h => by simp [sh] at h
  | .str _, .dict _, h => by simp [sh] at h
  | .tuple _, .none, h => by simp [sh] at h
  | .tuple _, .bool _, h => by simp [sh] at h
  | .tuple _, .int _, h => by simp [sh] at h
  | .tuple _, .list _, h => by simp [sh] at h
  | .tuple _, .str _, h => by simp [sh] at h
  | .tuple _, .dict _, h => by simp [sh] at h
theorem shs_alike : ∀ (x y : List D), shs x y = true → alikeAll x y = true
  | [], [], _ => rfl
  | x :: xs, y :: ys, h => by
    unfold shs at h
    unfold alikeAll
    rw [Bool.and_eq_true] at h ⊢
    exact ⟨sh_alike x y h.1, shs_alike xs ys h.2⟩
  | [], _ :: _, h => by simp [shs] at h
  | _ :: _, [], h => by simp [shs] at h
end
/-- the order of rows of one shape -/
def leK (a b : D) : Bool := match ltX 8 b a with
  | some k => !k
  | none => false
theorem ltL_sh (n : Nat) (ih : ∀ x y, plD n x = true → sh x y = true → ltX n x y = some (dataLt x y)) : ∀ xs ys : List D, xs.all (plD n) = true → shs xs ys = true → ltL (ltX n) xs ys = some (PyProof.Rows.lexLt itemOrd (keyToksAll xs) (keyToksAll ys))
  | [], [], _, _ => by
    unfold ltL
    rfl
  | x :: xs, y :: ys, p, h => by
    rw [List.all_cons, Bool.and_eq_true] at p
    unfold shs at h
    rw [Bool.and_eq_true] at h
    have al := sh_alike x y h.1
    unfold ltL
    rw [eqF_eq]
    cases e : PyData.eqv x y with
    | true =>
      rw [if_pos rfl, dataLt_all_yes al e]
      exact ltL_sh n ih xs ys p.2 h.2
    | false =>
      rw [if_neg Bool.false_ne_true, dataLt_all_no al e]
      exact ih x y p.1 h.1
  | [], _ :: _, _, h => by simp [shs] at h
  | _ :: _, [], _, h => by simp [shs] at h
theorem ltX_sh : ∀ (n : Nat) (x y : D), plD n x = true → sh x y = true → ltX n x y = some (dataLt x y)
  | n, .int i, .int j, _, _ => by rw [dataLt_int]; cases n <;> rfl
  | n, .str i, .str j, _, _ => by rw [dataLt_str]; cases n <;> rfl
  | 0, .tuple xs, .tuple ys, p, _ => by simp [plD] at p
  | n + 1, .tuple xs, .tuple ys, p, h => by
    rw [dataLt_tuple]
    have p' : xs.all (plD n) = true := by simpa [plD] using p
    have h' : shs xs ys = true := by unfold sh at h; exact h
    show ltL (ltX n) xs ys = _
    exact ltL_sh n (ltX_sh n) xs ys p' h'
  | n, .none, z, _, h => by cases z <;> simp [sh] at h
  | n, .bool _, z, _, h => by cases z <;> simp [sh] at h
  | n, .list _, z, _, h => by cases z <;> simp [sh] at h
  | n, .dict _, z, _, h => by cases z <;> simp [sh] at h
  | n, .int _, .none, _, h => by simp [sh] at h
  | n, .int _, .bool _, _, h => by simp [sh] at h
  | n, .int _, .str _, _, h => by simp [sh] at h
  | n, .int _, .list _, _, h => by simp [sh] at h
  | n, .int _, .tuple _, _, h => by simp [sh] at h
  | n, .int _, .dict _, _, h => by simp [sh] at h
  | n, .str _, .none, _, h => by simp [sh] at h
  | n, .str _, .bool _, _, h => by simp [sh] at h
  | n, .str _, .int _, _, h => by simp [sh] at h
  | n, .str _, .list _, _, h => by simp [sh] at h
  | n, .str _, .tuple _, _, h => by simp [sh] at h
  | n, .str _, .dict _, _, h => by simp [sh] at h
  | n, .tuple _, .none, _, h => by simp [sh] at h
  | n, .tuple _, .bool _, _, h => by simp [sh] at h
  | n, .tuple _, .int _, _, h => by simp [sh] at h
  | n, .tuple _, .list _, _, h => by simp [sh] at h
  | n, .tuple _, .str _, _, h => by simp [sh] at h
  | n, .tuple _, .dict _, _, h => by simp [sh] at h
/-- rows that can be sorted: one shape, () among none -/
def srtOk : List D → Bool
  | [] => true
  | .tuple [] :: _ => false
  | d :: r => plD 8 d && sh d d && r.all fun x => plD 8 x && sh x d
def srtD (ds : List D) : Option (List D) := if srtOk ds = true then some (isortL leK ds) else none
theorem srt_facts {ds : List D} (h : srtOk ds = true) : (∀ x ∈ ds, plD 8 x = true) ∧ (∀ x ∈ ds, ∀ y ∈ ds, sh x y = true) ∧ Sortable ds := by
  cases ds with
  | nil => exact ⟨fun x h => (nomatch h), fun x h => (nomatch h), .inr fun x h => (nomatch h)⟩
  | cons d r =>
    have hd : d ≠ .tuple [] := by
      intro z
      subst z
      simp [srtOk] at h
    have h' : (plD 8 d && sh d d && r.all fun x => plD 8 x && sh x d) = true := by
      cases d with
      | tuple xs =>
        cases xs with
        | nil => exact absurd rfl hd
        | cons a b => exact h
      | _ => exact h
    rw [Bool.and_eq_true, Bool.and_eq_true] at h'
    obtain ⟨⟨a1, a2⟩, a3⟩ := h'
    have a4 : ∀ x ∈ r, plD 8 x = true ∧ sh x d = true := fun x hx => by
      have := List.all_eq_true.mp a3 x hx
      rwa [Bool.and_eq_true] at this
    have a5 : ∀ x ∈ d :: r, plD 8 x = true ∧ sh x d = true := fun x hx => (List.mem_cons.mp hx).elim (fun q => by rw [q]; exact ⟨a1, a2⟩) (a4 x)
    refine ⟨fun x hx => (a5 x hx).1, fun x hx y hy => sh_two x y d (a5 x hx).2 (a5 y hy).2, ?_⟩
    cases d with
    | tuple xs =>
      refine .inl fun x hx => ?_
      have q := (a5 x hx).2
      cases xs with
      | nil => exact absurd rfl hd
      | cons a b =>
        cases x with
        | tuple ys =>
          cases ys with
          | nil => simp [sh, shs] at q
          | cons c e => exact ⟨c, e, rfl⟩
        | _ => simp [sh] at q
    | _ =>
      refine .inr fun x hx => ?_
      have q := (a5 x hx).2
      cases x <;> first | (simp [sh] at q; done) | exact ⟨by simp, by simp⟩
theorem srt_merge {ds es : List D} (h : srtD ds = some es) : es = ds.mergeSort (dataLe false id) ∧ srtOk ds = true := by
  unfold srtD at h
  split at h
  · rename_i ok
    cases h
    obtain ⟨f1, f2, _⟩ := srt_facts ok
    refine ⟨?_, ok⟩
    refine Eq.trans ?_ (isortL_eq (le := dataLe false id) (sortLe_total _ _ _) ds)
    refine isortL_congr fun x hx y hy => ?_
    unfold leK
    rw [ltX_sh 8 y x (f1 y hy) (f2 y hy x hx)]
    rfl
  · cases h
mutual
theorem pl_depth : ∀ (n : Nat) (d : D), plD n d = true → d.depth ≤ n
  | n, .none, _ => Nat.zero_le _
  | n, .bool _, _ => Nat.zero_le _
  | n, .int _, _ => Nat.zero_le _
  | n, .str _, _ => Nat.zero_le _
  | 0, .tuple xs, h => by simp [plD] at h
  | n + 1, .tuple xs, h => by
    have := pls_depth n xs (by simpa [plD] using h)
    simp only [PyData.depth]
    omega
  | n, .list xs, h => by cases n <;> simp [plD] at h
  | n, .dict xs, h => by cases n <;> simp [plD] at h
theorem pls_depth : ∀ (n : Nat) (ds : List D), (∀ x ∈ ds, plD n x = true) → PyData.depthAll ds ≤ n
  | n, [], _ => Nat.zero_le _
  | n, x :: xs, h => by
    have h1 := pl_depth n x (h x (by simp))
    have h2 := pls_depth n xs fun y hy => h y (by simp [hy])
    simp only [PyData.depthAll]
    omega
end
mutual
theorem pl_reads {h : Heap} : ∀ (n : Nat) (d : D) (v : Value) (as : List Addr), plD n d = true → Reads h v d as → as = []
  | n, .none, _, _, _, r => by cases r; rfl
  | n, .bool _, _, _, _, r => by cases r; rfl
  | n, .int _, _, _, _, r => by cases r; rfl
  | n, .str _, _, _, _, r => by cases r; rfl
  | 0, .tuple xs, _, _, h, r => by simp [plD] at h
  | n + 1, .tuple xs, _, _, h, r => by
    cases r with
    | tuple _ _ _ r => exact pls_reads n xs _ _ (by simpa [plD] using h) r
  | n, .list xs, _, _, h, r => by cases n <;> simp [plD] at h
  | n, .dict xs, _, _, h, r => by cases n <;> simp [plD] at h
theorem pls_reads {h : Heap} : ∀ (n : Nat) (ds : List D) (vs : List Value) (as : List Addr), (∀ x ∈ ds, plD n x = true) → ReadsAll h vs ds as → as = []
  | n, [], _, _, _, r => by cases r; rfl
  | n, x :: xs, _, _, h, r => by
    cases r with
    | cons r1 r2 => rw [pl_reads n x _ _ (h x (by simp)) r1, pls_reads n xs _ _ (fun y hy => h y (by simp [hy])) r2]; rfl
end
section
variable [KFrag] {X : Cx} [HK X] {pins : List (Addr × Obj)} {σ : L2.St} {H : Hp} {s : Shared} {A : Addr → Prop}
abbrev RVD (H : Hp) (A : Addr → Prop) (u : Value) (b : V × D) : Prop := RelV b.1 u ∧ Fz H A b.1 b.2
theorem each_of : ∀ {xs : List V} {ds : List D} {us : List Value}, Fzs H A xs ds → Vals xs us → EachIs (RVD H A) us (xs.zip ds)
  | _, _, _, .nil, .nil => .nil
  | _, _, _, .cons f t, .cons r q => .cons ⟨r, f⟩ (each_of t q)
theorem zip_snd : ∀ {xs : List V} {ds : List D}, Fzs H A xs ds → (xs.zip ds).map (·.2) = ds
  | _, _, .nil => rfl
  | _, _, .cons _ t => by rw [List.zip_cons_cons, List.map_cons, zip_snd t]
theorem each_back : ∀ {us : List Value} {bs : List (V × D)}, EachIs (RVD H A) us bs → Vals (bs.map (·.1)) us ∧ Fzs H A (bs.map (·.1)) (bs.map (·.2))
  | _, _, .nil => ⟨.nil, .nil⟩
  | _, _, .cons h t => ⟨.cons h.1 (each_back t).1, .cons h.2 (each_back t).2⟩
/-- what sorting gives -/
theorem srt_out {xs : List V} {ds es : List D} {out : List Value} (f : Fzs H A xs ds) (h : srtD ds = some es) (e : EachIs (RVD H A) out ((xs.zip ds).mergeSort (dataLe false (·.2)))) : ∃ ys, Vals ys out ∧ Fzs H A ys es := by
  obtain ⟨h1, h2⟩ := each_back e
  refine ⟨_, h1, ?_⟩
  have q : ((xs.zip ds).mergeSort (dataLe false (·.2))).map (·.2) = es := by
    refine (List.map_mergeSort (f := fun b : V × D => b.2) (s := dataLe false id) (fun a _ b _ => rfl)).trans ?_
    rw [zip_snd f, (srt_merge h).1]
  rw [q] at h2
  exact h2
theorem each_reads (I : Inv X pins σ H s) : ∀ {us : List Value} {bs : List (V × D)}, EachIs (RVD H A) us bs → EachIs (fun v b => ∃ as, Reads s.heap v b.2 as) us bs
  | _, _, .nil => .nil
  | _, _, .cons h t => .cons (Dp.reads I _ _ _ h.2.dp h.1) (each_reads I t)
theorem each_readsN (I : Inv X pins σ H s) {a : Addr} : ∀ {us : List Value} {bs : List (V × D)}, EachIs (RVD H A) us bs → (∀ b ∈ bs, plD 8 b.2 = true) → EachIs (fun v b => ∃ as, Reads s.heap v b.2 as ∧ a ∉ as) us bs
  | _, _, .nil, _ => .nil
  | _, _, .cons h t, p => .cons (by
      obtain ⟨as, r⟩ := Dp.reads (X := X) I _ _ _ h.2.dp h.1
      exact ⟨as, r, by rw [pl_reads 8 _ _ _ (p _ (by simp)) r]; simp⟩) (each_readsN I t fun b hb => p b (by simp [hb]))
theorem zip_all {xs : List V} {ds : List D} {p : D → Prop} (h : ∀ d ∈ ds, p d) : ∀ b ∈ xs.zip ds, p b.2 := fun b hb => h _ (List.of_mem_zip hb).2
def rSortL : List V → Hp → VK → Prop := fun vs H Q => ∃ A a xs ds es, vs = [.ref a] ∧ H a = some (.lst xs) ∧ Fzs H A xs ds ∧ srtD ds = some es ∧ ∀ ys p, Fzs H A ys es → H p = none → Q (.ref p) (upd H p (.lst ys))
theorem cr_sortL (hu : X.A.units + 64 < cLine) : CallR X (.builtin "sorted") rSortL := by
  rintro pins s σ H vs us Q I rv ⟨A, a, xs, ds, es, rfl, e, f, h, q⟩
  cases rv with
  | cons r1 r2 =>
  cases r2
  cases (show _ = Value.ref a from r1)
  obtain ⟨hl, ws, n, r, ho⟩ := lst_at I e
  obtain ⟨_, ok⟩ := srt_merge h
  obtain ⟨f1, f2, f3⟩ := srt_facts ok
  have ez := zip_snd f
  have el := each_of f r
  have bl : (xs.zip ds).length = xs.length := by rw [List.length_zip, f.len]; omega
  refine PySem.W.sorted_data (R := RVD H A) (enc := (·.2)) (vs := ws) (bs := xs.zip ds) ⟨_, ho, rfl, n, rfl⟩ el (each_reads I el) (by rw [ez]; exact fun d hd d' hd' => sh_alike _ _ (f2 d hd d' hd')) (by rw [ez]; exact f3) (by rw [bl]; exact hl)
    (fun b hb => by have := pl_depth 8 _ (zip_all f1 b hb); omega) fun out ho1 ho2 => ?_
  obtain ⟨ys, y1, y2⟩ := srt_out f h ho2
  obtain ⟨c, hc⟩ := sortedAll_at s.heap ws (List.toArray out)
  have hn := I.hok.fresh (Nat.le_succ s.heap.objs.size)
  refine ⟨.ref (s.heap.objs.size + 1), upd H (s.heap.objs.size + 1) (.lst ys), I.laid (t' := s.toks) (fun b u z => sortedAll_old z) (Nat.le_succ _) ⟨?_, out, c, y1, hc⟩, rfl, q ys _ y2 hn⟩
  rw [y1.length, ho1, bl]
  exact hl
def rSortN (w : World) : List V → Hp → VK → Prop := fun vs H Q => ∃ A a es ds ks, vs = [.ref a] ∧ Rd H a (DObj w a es) ∧ KPs H A es ds ∧ srtD (ds.map (·.1)) = some ks ∧ ∀ ys p, Fzs H A ys ks → H p = none → Q (.ref p) (upd H p (.lst ys))
theorem KPs.keys {H : Hp} {A : Addr → Prop} : ∀ {es : List (NestedKey × Addr × V)} {ds : List (D × D)}, KPs H A es ds → Fzs H A (es.map fun e => .ref e.2.1) (ds.map (·.1))
  | _, _, .nil => .nil
  | _, _, .cons _ _ f _ t => .cons f (KPs.keys t)
theorem refs_at : ∀ {xs : List (NestedKey × Addr × V)} {us : List Value}, us.length = xs.length → (∀ (j : Nat) (v : Value), us[j]? = some v → ∃ x, xs[j]? = some x ∧ v = .ref x.2.1) → Vals (xs.map fun e => .ref e.2.1) us
  | [], [], _, _ => .nil
  | x :: xs, u :: us, hl, h => by
    obtain ⟨y, e1, e2⟩ := h 0 u rfl
    have e1' : x = y := Option.some.inj e1
    subst e1'
    rw [List.map_cons]
    exact .cons e2 (refs_at (by simpa using hl) fun j v e => by
      obtain ⟨z, a, b⟩ := h (j + 1) v (by simpa using e)
      exact ⟨z, by simpa using a, b⟩)
  | [], _ :: _, hl, _ => by simp at hl
  | _ :: _, [], hl, _ => by simp at hl
theorem cr_sortN (hc : X.calm = true) (hu : X.A.units + 64 < cLine) : CallR X (.builtin "sorted") (rSortN X.w) := by
  rintro pins s σ H vs us Q I rv ⟨A, a, es, ds, ks, rfl, e, kp, h, q⟩
  cases rv with
  | cons r1 r2 =>
  cases r2
  cases (show _ = Value.ref a from r1)
  obtain ⟨hl, hs, xs, rel, dd⟩ := dct_rd I.hok (kin I) e kp
  obtain ⟨o, eps, ep, g1, g2, g3, g4, _, _⟩ := id dd
  have hsz : eps.size = es.length := by rw [← Array.length_toList, g4, List.length_map]; exact (Paired.length rel).symm
  obtain ⟨_, ok⟩ := srt_merge h
  obtain ⟨f1, f2, f3⟩ := srt_facts ok
  refine Calls.call_function_entry PyProof.Rows.kind_sorted PyProof.Rows.plain_sorted PyProof.Rows.entry_sorted (PyProof.Rows.args_sorted1 _) ?_
  unfold Builtin.«sorted»
  refine wpAny_bind (m := checkCount "sorted" 1 1 _) (wpAny_pure ?_)
  refine wpAny_bind (PySem.W.kdu_collect (A := X.A.in1) (KdlSrc.rawDict (es := eps) (ep := ep) hs) (I.ok.hd hc) ⟨o, g1, g2, g3⟩ (by rw [hsz]; exact hl) fun h' tk acc hk hacc => ?_)
  have vr : Vals (es.map fun e => .ref e.2.1) acc.toList := refs_at (by rw [Array.length_toList, hacc.1, hsz]) fun j v ej => by
    obtain ⟨hi, ev⟩ := hacc.2 j v (by rw [← Array.getElem?_toList]; exact ej)
    have hj : j < es.length := by rw [← hsz]; exact hi
    obtain ⟨x, hx, r1, r2, r3⟩ := paired_get rel (List.getElem?_eq_getElem hj)
    refine ⟨_, List.getElem?_eq_getElem hj, ?_⟩
    have : eps[j]? = some (entryOfKey (nestedKind X.prog X.w) x) := by rw [← Array.getElem?_toList, g4, List.getElem?_map, hx]; rfl
    rw [Array.getElem?_eq_getElem hi] at this
    rw [ev, Option.some.inj this, r2]
    rfl
  have fz := kp.keys
  have I1 : Inv X pins σ H { s with heap := h', toks := tk } := I.kept hk
  have hal : acc.toList.length = es.length := by rw [← vr.length, List.length_map]
  refine wpAny_bind (wpAny_newList ?_ (by rw [hal]; exact hl))
  show wpAny _ _ _ _ _ { s with heap := h'.push (seqObj "list" acc.toList.toArray 0), toks := tk }
  have hoL : (h'.push (seqObj "list" acc.toList.toArray 0)).get? h'.objs.size = some (seqObj "list" acc.toList.toArray 0) := Heap.get?_push_size _ rfl
  have I2 : Inv X pins σ H { s with heap := h'.push (seqObj "list" acc.toList.toArray 0), toks := tk } := I1.kept (t' := tk) fun b u z => Heap.get?_push_of_some _ z
  have el := each_of fz vr
  have ez := zip_snd fz
  have bl : ((es.map fun e => V.ref e.2.1).zip (ds.map (·.1))).length = es.length := by rw [List.length_zip, List.length_map, List.length_map, kp.len]; omega
  refine wpAny_bind (wpAny_holding (PySem.W.list_sort_data (R := RVD H A) (enc := (·.2)) (vs := acc.toList) (bs := (es.map fun e => V.ref e.2.1).zip (ds.map (·.1))) hoL el (each_readsN I2 el (zip_all f1)) (by rw [ez]; exact fun d hd d' hd' => sh_alike _ _ (f2 d hd d' hd')) (by rw [ez]; exact f3) (by rw [bl]; exact hl)
    (fun b hb => by
      have := pl_depth 8 _ (zip_all f1 b hb)
      show X.A.units + 1 + 1 + _ < cLine
      omega) fun out ho1 ho2 => ?_))
  obtain ⟨ys, y1, y2⟩ := srt_out fz h ho2
  obtain ⟨c, he'⟩ := PyProof.Rows.sortedHeap_at (vs := acc.toList) (out := List.toArray out) hoL
  refine wpAny_pure ⟨_, rfl, .ref h'.objs.size, upd H h'.objs.size (.lst ys), I1.laid (t' := tk) (fun b u z => ?_) (Nat.le_refl _) ⟨?_, out, c, y1, he'⟩, rfl, q ys _ y2 (I1.hok.fresh (Nat.le_refl _))⟩
  · have hb : b < h'.objs.size := Heap.lt_size z
    rw [PyProof.Rows.sortedHeap_old (Nat.ne_of_lt hb) (by rw [size_push']; exact Nat.lt_succ_of_lt hb)]
    exact Heap.get?_push_of_some _ z
  · rw [y1.length, ho1, bl]
    exact hl
end
section
variable [KFrag] {X : Cx} [HK X] {T : TX} {Wx : WXc} {e : Expr} {fs : En → CS → R (List W)} {p pos : Pos}
def srtW (ws : List W) (s : CS) : R W := match ws with
  | [.d (.list ds)] => match srtD ds with
    | some es => .ok (.d (.list es)) s
    | none => .bad
  | [.fd kvs] => if unm kvs = true then (match srtD (kvs.map (·.1)) with
    | some es => .ok (.d (.list es)) s
    | none => .bad) else .bad
  | _ => .bad
def fSrt (fs : En → CS → R (List W)) (ρ : En) (s : CS) : R W := (fs ρ s).bind srtW
theorem cr_or {f : Value} {r r' : List V → Hp → VK → Prop} (h : CallR X f r) (h' : CallR X f r') : CallR X f fun vs H Q => r vs H Q ∨ r' vs H Q := fun pins s σ H xs us Q I rv q =>
  q.elim (fun q => h pins s σ H xs us Q I rv q) fun q => h' pins s σ H xs us Q I rv q
theorem de_srt (hw : X.w = KFrag.w) (hc : X.calm = true) (hu : X.A.units + 64 < cLine) (hg : Gl X "sorted") (hm : X.mg "sorted" = none) (hv : bootBuiltins "sorted" = some (.builtin "sorted")) (ha : DA X T Wx [e] fs)
    (he : starEach [e] X.env = (false, eval e X.env) :: starEach [] X.env := by rfl) (hpl : (backTo pos (starEach [] X.env)).any (·.1) = false := by rfl) : DE X T Wx (.Call (.Name "sorted" p) [e] [] pos) (fSrt fs) :=
  PE_imp (pe_callB (cr_or (cr_sortL hu) (cr_sortN hc hu)) hg hm hv ha (by decide) (by decide) he hpl) fun σ H Q ⟨B, μ, s, ρ, r, e, q⟩ => tD_bind r e q fun ws s1 vs μ1 H1 st1 r1 e1 rel1 q1 => by
    replace rel1 : RWs B μ1 s1 H1 vs ws := rel1
    unfold srtW at q1
    split at q1
    · rename_i ds
      cases rel1 with
      | cons a1 a2 =>
      cases a2
      split at q1
      · rename_i es hs
        replace a1 : Fz H1 (Av B μ1 s1) _ (.list ds) := a1
        cases a1 with
        | lst h1 f1 =>
        exact .inl ⟨Av B μ1 s1, _, _, ds, es, rfl, h1.1, f1, hs, fun ys p fy hp => Fin.use (a := W) (w := .d (.list es)) q1 (same_upd hp) r1 (Fz.newL r1.bt' hp fy)⟩
      · exact q1.elim
    · rename_i kvs
      cases rel1 with
      | cons a1 a2 =>
      cases a2
      split at q1
      case isFalse => exact q1.elim
      rename_i hu
      split at q1
      · rename_i es hs
        obtain ⟨a, o, ns, rfl, ea, na, kp⟩ := FD.un a1 hu
        refine .inr ⟨Av B μ1 s1, a, ns, kvs, es, rfl, .inr ⟨o, by rw [hw]; exact ea⟩, kp, hs, fun ys p fy hp => Fin.use (a := W) (w := .d (.list es)) q1 (same_upd hp) r1 (Fz.newL r1.bt' hp fy)⟩
      · exact q1.elim
    · exact q1.elim
end
end DL
namespace DL
open PySem PySem.Spec PyProof.Rows L2
section
variable [KFrag]
/-! ### a value's truth; ranges as values -/
def toTr : W → CS → R Bool
  | .d .none, s => .ok false s
  | .d (.bool b), s => .ok b s
  | .d (.int i), s => .ok (i != 0) s
  | .d (.list ds), s => .ok (!ds.isEmpty) s
  | .d (.tuple ds), s => .ok (!ds.isEmpty) s
  | .c n, s => match s[n]? with
    | some (.lst ds) => .ok (!ds.isEmpty) s
    | _ => .bad
  | _, _ => .bad
def fTr (f : En → CS → R W) (ρ : En) (s : CS) : R Bool := (f ρ s).bind toTr
theorem empty_fz {H : Hp} {A : Addr → Prop} {xs : List V} {ds : List D} (f : Fzs H A xs ds) : (!ds.isEmpty) = !xs.isEmpty := by cases f <;> rfl
def fRgV (fs : En → CS → R (List W)) (ρ : En) (s : CS) : R W := (fs ρ s).bind fun ws s => match ws with
  | [.d (.int j)] => .ok (.rg 0 j) s
  | _ => .bad
def rgL : W → CS → R (List D)
  | .rg i j, s => if -(2 ^ 62) ≤ i ∧ i < 2 ^ 62 ∧ -(2 ^ 62) ≤ j ∧ j < 2 ^ 62 then .ok (rngD i (j - i).toNat) s else .bad
  | _, _ => .bad
def fItR (f : En → CS → R W) (ρ : En) (s : CS) : R (List D) := (f ρ s).bind rgL
section
variable {X : Cx} [HK X] {T : TX} {Wx : WXc} {e tg : Expr} {f : En → CS → R W} {fs : En → CS → R (List W)} {p pos : Pos} {td : TE}
theorem dt_truth (h : DE X T Wx e f) (he : ∀ whole, isTrue e X.env whole = (do let v ← whole; standAt e.pos; holding [v] (truthy v)) := by intro _; rfl) : DT X T Wx e (fTr f) := PT_imp (pt_truth h he) fun σ H Q ⟨B, μ, s, ρ, r, er, q⟩ =>
  tD_bind r er q fun w s1 v μ1 H1 st1 r1 e1 rel1 q1 => by
    unfold toTr at q1
    split at q1
    · cases rel1.data; exact ⟨_, rfl, Fin.here (a := Bool) q1 r1 rfl⟩
    · cases rel1.data; exact ⟨_, rfl, Fin.here (a := Bool) q1 r1 rfl⟩
    · cases rel1.data; exact ⟨_, rfl, Fin.here (a := Bool) q1 r1 rfl⟩
    · cases rel1.data with
      | lst h1 f1 => exact ⟨_, .inl ⟨_, h1.sq, empty_fz f1⟩, Fin.here (a := Bool) q1 r1 rfl⟩
    · cases rel1.data with
      | tup h1 f1 => exact ⟨_, .inr (.inl ⟨_, h1.sq, empty_fz f1⟩), Fin.here (a := Bool) q1 r1 rfl⟩
    · split at q1
      · rename_i hs
        obtain ⟨a, rfl, ha⟩ := rel1
        obtain ⟨xs, ea, f1⟩ := r1.cell _ a _ ha hs
        exact ⟨_, .inl ⟨_, .of ea, empty_fz f1⟩, Fin.here (a := Bool) q1 r1 rfl⟩
      · exact q1.elim
    · exact q1.elim
theorem cr_range1 : CallR X (.type "range") (fun vs H Q => ∃ j, vs = [V.int j] ∧ ∀ q, H q = none → Q (.ref q) (upd H q (.rng 0 j))) := by
  rintro pins s σ H vs us Q I rv ⟨j, rfl, q⟩
  cases rv with
  | cons r1 r2 =>
  cases r2
  obtain ⟨t, rfl⟩ := r1
  exact call_range_1 ⟨.ref s.heap.objs.size, _, I.laid (a := s.heap.objs.size) (o := .rng 0 j) (t' := s.toks + 1 + 1) (fun b o e => Heap.get?_push_of_some _ e) (Nat.le_refl _) ⟨_, _, _, Heap.get?_push_size _ rfl⟩, rfl, q _ (I.hok.fresh (Nat.le_refl _))⟩
theorem de_rgV (hg : Gl X "range") (hm : X.mg "range" = none) (ha : DA X T Wx [e] fs) (he : starEach [e] X.env = (false, eval e X.env) :: starEach [] X.env := by rfl) (hpl : (backTo pos (starEach [] X.env)).any (·.1) = false := by rfl) :
    DE X T Wx (.Call (.Name "range" p) [e] [] pos) (fRgV fs) := PE_imp (pe_callTy cr_range1 hg hm boot_range ha (by decide) (by decide) he hpl) fun σ H Q ⟨B, μ, s, ρ, r, e, q⟩ => tD_bind r e q fun ws s1 vs μ1 H1 st1 r1 e1 rel1 q1 => by
    replace rel1 : RWs B μ1 s1 H1 vs ws := rel1
    split at q1
    · rename_i j
      cases rel1 with
      | cons a1 a2 =>
      cases a2
      cases a1.data
      refine ⟨j, rfl, fun p hp => Fin.use (a := W) (w := .rg 0 j) q1 (same_upd hp) r1 ⟨p, rfl, upd_same, fun z => r1.bt' p z hp⟩⟩
    · exact q1.elim
theorem pi_rgV (he : PE X e td) : PI X tg e (fun σ H R => td σ H fun x H1 => ∃ a lo hi, x = .ref a ∧ H1 a = some (.rng lo hi) ∧ (-(2 ^ 62) ≤ lo ∧ lo < 2 ^ 62 ∧ -(2 ^ 62) ≤ hi ∧ hi < 2 ^ 62) ∧ R (Itr lo (hi - lo).toNat) H1) := by
  refine ⟨fun pins s σ H R I h => ?_⟩
  refine thn (he.run pins s σ H _ I h) fun u s1 ⟨x, H1, I1, rx, a, lo, hi, ex, ea, hb, q⟩ => ?_
  subst ex
  obtain rfl : u = Value.ref a := rx
  obtain ⟨t1, t2, t3, ho⟩ := (show ObjOk X.prog X.w H1 s1.heap a (.rng lo hi) from I1.hok a _ ea)
  refine wpAny_pyIter_range ho (small_one hb.1 hb.2.1 hb.2.2.1 hb.2.2.2) ?_
  refine pi_one (tk := s1.toks) I1 _ (turn_range _ lo (hi - lo).toNat) ?_ q
  have e1 : lo + ((0 : Nat) : Int) * 1 = lo := by simp
  have e2 : (((hi - lo).toNat : Nat) : Int) - ((0 : Nat) : Int) = Builtin.Range.rangeSize lo hi 1 := by rw [rangeSize_one]; split <;> omega
  show IsRangeIter _ _ (lo + ((0 : Nat) : Int) * 1) ((((hi - lo).toNat : Nat) : Int) - ((0 : Nat) : Int)) 1
  rw [e1, e2]
  exact Heap.get?_push_size _ rfl
theorem di_rgV (h : DE X T Wx e f) : DI X T Wx tg e (fItR f) := PI_imp (pi_rgV h) fun σ H Q ⟨B, μ, s, ρ, r, e, q⟩ =>
  tD_bind r e q fun w s1 v μ1 H1 st1 r1 e1 rel1 q1 => by
    unfold rgL at q1
    split at q1
    · split at q1
      · rename_i hb
        obtain ⟨a, ev, ea, _⟩ := rel1
        exact ⟨a, _, _, ev, ea, hb, Fin.here (a := List D) q1 r1 itr_rng⟩
      · exact q1.elim
    · exact q1.elim
end
end
end DL
namespace DL
open PySem PySem.Spec PyProof.Rows L2
/-! ### what laws by hand want -/
theorem callP0 {h : List W → CS → R W} {ρ : En} {s t : CS} {y : D} (k : h [] [] = .ok (.d y) t) : fCallP 0 (noX h) fNil ρ s = .ok (.d y) s := by
  show pureR (noX h) [] s = _
  unfold pureR noX
  rw [k]
theorem callP1 {h : List W → CS → R W} {fs : En → CS → R (List W)} {ρ : En} {s t : CS} {x y : D} (e : fs ρ s = .ok [.d x] s) (k : h [.d x] [] = .ok (.d y) t) : fCallP 1 (noX h) fs ρ s = .ok (.d y) s := by
  rw [fCallP, e]
  show pureR (noX h) [.d x] s = _
  unfold pureR noX
  rw [k]
theorem f2_at {g : D → D → Option D} {fa fb : En → CS → R W} {ρ : En} {s : CS} {x y z : D} (ea : fa ρ s = .ok (.d x) s) (eb : fb ρ s = .ok (.d y) s) (h : g x y = some z) : f2 g fa fb ρ s = .ok (.d z) s := by
  rw [f2, ea]
  show (fb ρ s).bind _ = _
  rw [eb]
  show lift2 g (.d x) (.d y) s = _
  simp only [lift2, h]
theorem fN1_at {g : List D → Option D} {fa : En → CS → R W} {ρ : En} {s : CS} {x z : D} (ea : fa ρ s = .ok (.d x) s) (h : g [x] = some z) : fN g (fCons fa fNil) ρ s = .ok (.d z) s := by
  rw [fN, fCons, ea]
  show liftN g [.d x] s = _
  simp only [liftN, allD, Option.map_some, h]
theorem cons1_at {fa : En → CS → R W} {ρ : En} {s : CS} {w : W} (ea : fa ρ s = .ok w s) : fCons fa fNil ρ s = .ok [w] s := by
  rw [fCons, ea]
  rfl
theorem asg_at {h : W → En → Option En} {f : En → CS → R W} {ρ ρ' : En} {s s1 : CS} {w : W} (e : f ρ s = .ok w s1) (k : h w ρ = some ρ') : gAsg h f ρ s = .nx ρ' s1 := by
  rw [gAsg, e]
  simp only [R.toT, k]
theorem seq_at {g k : En → CS → RT} {ρ ρ' : En} {s s' : CS} (e : g ρ s = .nx ρ' s') : gSeq g k ρ s = k ρ' s' := by
  rw [gSeq, e]
theorem fB_at {f : En → CS → R W} {ρ : En} {s s1 : CS} {b : Bool} (e : f ρ s = .ok (.d (.bool b)) s1) : fB f ρ s = .ok b s1 := by
  rw [fB, e]
  rfl
theorem not_at {f : En → CS → R Bool} {ρ : En} {s s1 : CS} {b : Bool} (e : f ρ s = .ok b s1) : fNot f ρ s = .ok (!b) s1 := by
  rw [fNot, e]
  rfl
theorem if_f {t : En → CS → R Bool} {g k : En → CS → RT} {ρ : En} {s s1 : CS} (e : t ρ s = .ok false s1) : gIf t g k ρ s = k ρ s1 := by
  rw [gIf, e]
  rfl
theorem andV_t {f g : En → CS → R W} {ρ : En} {s s1 : CS} (e : f ρ s = .ok (.d (.bool true)) s1) : fAndV f g ρ s = g ρ s1 := by
  rw [fAndV, fB_at e]
  rfl
theorem ret_at {f : En → CS → R W} {ρ : En} {s s1 : CS} {w : W} (e : f ρ s = .ok w s1) : gRet f ρ s = .rt w s1 := by
  rw [gRet, e]
  rfl
theorem cut1 (n : Int) (t : List Int) : DL.cutD ((n :: t).map .int) none (some 1) = [.int n] := by
  simp [DL.cutD, HT.sIx]
/-- [abs(int(c)) for c in script[:1]] + [j]: its first number -/
theorem cells_is (ns : List Int) (v : Nat) (j : Int) (ρ : En) (s : CS) (h0 : ρ[0]? = some (some (.sc ns))) (hv : v < ρ.length) : ∃ (i : Int) (r : List D),
    (f2 addD (fLc [v] (fIt (fSl (fVar 0) fO0 (fO1 (fC (.int 1))))) (hN v) fYes (fN DL.absD (fCons (fN DL.intD (fCons (fVar v) fNil)) fNil))) (fN lstD (fCons (fC (.int j)) fNil))) ρ s = .ok (.d (.list (.int i :: r))) s := by
  have e0 : fVar 0 ρ s = .ok (.sc ns) s := by simp only [fVar, h0]
  have e1 : fSl (fVar 0) fO0 (fO1 (fC (.int 1))) ρ s = .ok (.d (.list (DL.cutD (ns.map .int) none (some 1)))) s := by
    rw [fSl, e0]
    rfl
  cases ns with
  | nil =>
    refine ⟨j, [], ?_⟩
    have e2 : fIt (fSl (fVar 0) fO0 (fO1 (fC (.int 1)))) ρ s = .ok [] s := by
      rw [fIt, e1]
      rfl
    refine f2_at (x := .list []) (y := .list [.int j]) ?_ rfl rfl
    rw [fLc, e2]
    rfl
  | cons n t =>
    refine ⟨if n < 0 then -n else n, [.int j], ?_⟩
    have e2 : fIt (fSl (fVar 0) fO0 (fO1 (fC (.int 1)))) ρ s = .ok [.int n] s := by
      rw [fIt, e1, cut1]
      rfl
    refine f2_at (x := .list [.int (if n < 0 then -n else n)]) (y := .list [.int j]) ?_ rfl rfl
    have e3 : fVar v ((wipeE ρ [v]).set v (some (.d (.int n)))) s = .ok (.d (.int n)) s := by
      have : ((wipeE ρ [v]).set v (some (W.d (.int n))))[v]? = some (some (.d (.int n))) := by
        rw [List.getElem?_set_self (by show v < (ρ.set v none).length; rw [List.length_set]; exact hv)]
      simp only [fVar, this]
    rw [fLc, e2]
    show (if [PyData.int n].length ≤ line then endL [] (compL (hN v) fYes _ (wipeE ρ [v]) [.int n] s) else .bad) = _
    rw [if_pos (show [PyData.int n].length ≤ line by unfold line; simp)]
    have e4 : fN DL.absD (fCons (fN DL.intD (fCons (fVar v) fNil)) fNil) ((wipeE ρ [v]).set v (some (.d (.int n)))) s = .ok (.d (.int (if n < 0 then -n else n))) s := fN1_at (x := .int n) (fN1_at (x := .int n) e3 rfl) rfl
    unfold compL
    simp only [hN, fYes, R.bind0, if_true, e4, consR, compL, endL]
    rfl
/-- a def's end -/
theorem fnR1 {n : Nat} {g : En → CS → RT} {w x : W} {s s' : CS} (e : g (startE n [w]) s = .rt x s') : fnR 1 n g [w] s = .ok x s' := by
  show (if [w].length = 1 then _ else _) = _
  rw [if_pos (show [w].length = 1 from rfl), e]
end DL
namespace DL
open PySem PySem.Spec PyProof.Rows L2
/-! ### frames over the written part -/
section
variable [KFrag]
instance hk_cx {CX : CXT} {P : Program} {w : World} {mg : Str → Option Value} {base : Heap} {N : List Str} {qual : Str} {scope : Scope} {f : Addr} {cd : Value} {A : Around} {outer : List Env} {s : Shared} {H : Hp} {E : XK} : HK (cxOf CX P w KFrag.K mg base N qual scope f cd A outer s H E) := ⟨rfl⟩
instance hk_blk {X : Cx} [h : HK X] {s : Shared} {H : Hp} {scope : Scope} {env : Env} {fp : List Addr} : HK (X.blk s H scope env fp) := ⟨h.eq⟩
/-! ### a tuple of the written part -/
theorem de_gtup {X : Cx} [HK X] {T : TX} {Wx : WXc} {x : Str} {a : Addr} {xs : List V} {ds : List D} {pos : Pos} (hg : Gl X x) (hm : X.mg x = some (.ref a)) (hk : KTp a xs) (f : ∀ H A, Fzs H A xs ds) (hd : (x == ("__debug__" : Str)) = false := by decide) : DE X T Wx (.Name x pos) (fC (.tuple ds)) :=
  de_const (v := .ref a) (pe_glob hg hm (show Value.ref a = Value.ref a from rfl) hd) fun H A => .tup (.inr hk) (f H A)
/-! ### x is None -/
def isN (neg : Bool) (w : W) (s : CS) : R W := match w with
  | .d .none => .ok (.d (.bool (!neg))) s
  | .d _ => .ok (.d (.bool neg)) s
  | _ => .bad
def fIsN (neg : Bool) (f : En → CS → R W) (ρ : En) (s : CS) : R W := (f ρ s).bind (isN neg)
section
variable {X : Cx} [HK X] {T : TX} {Wx : WXc} {e : Expr} {f : En → CS → R W} {pos pos' : Pos} {j : Nat}
theorem fz_none {H : Hp} {A : Addr → Prop} {v : V} {d : D} (h : Fz H A v d) (hd : d ≠ .none) : v ≠ .non := by
  cases h <;> first | (intro z; cases z; done) | exact absurd rfl hd
theorem isN_use {σ : L2.St} {H : Hp} {Q : VK} (q : tD T Wx (fIsN false f) σ H Q) : tIsN (tD T Wx f) σ H Q := by
  obtain ⟨B, μ, s, ρ, r, e, q⟩ := q
  refine tD_bind r e q fun w s1 v μ1 H1 st1 r1 e1 rel1 q1 => ?_
  unfold isN at q1
  split at q1
  · cases rel1.data
    exact Fin.here (a := W) q1 r1 (Fz.bl true)
  · rename_i d hd
    have := fz_none rel1.data (fun z => hd (by rw [z]))
    show Q (.bl (decide (v = .non))) H1
    rw [decide_eq_false this]
    exact Fin.here (a := W) q1 r1 (Fz.bl false)
  · exact q1.elim
theorem isNN_use {σ : L2.St} {H : Hp} {Q : VK} (q : tD T Wx (fIsN true f) σ H Q) : tNotN (tD T Wx f) σ H Q := by
  obtain ⟨B, μ, s, ρ, r, e, q⟩ := q
  refine tD_bind r e q fun w s1 v μ1 H1 st1 r1 e1 rel1 q1 => ?_
  unfold isN at q1
  split at q1
  · cases rel1.data
    exact Fin.here (a := W) q1 r1 (Fz.bl false)
  · rename_i d hd
    have := fz_none rel1.data (fun z => hd (by rw [z]))
    show Q (.bl (!decide (v = .non))) H1
    rw [decide_eq_false this]
    exact Fin.here (a := W) q1 r1 (Fz.bl true)
  · exact q1.elim
theorem de_isN (h : DE X T Wx e f) : DE X T Wx (.Compare e [.Is] [.Constant .none j pos'] pos) (fIsN false f) := PE_imp (pe_cmp (pc_isN h)) fun _ _ _ => isN_use
theorem de_isNN (h : DE X T Wx e f) : DE X T Wx (.Compare e [.IsNot] [.Constant .none j pos'] pos) (fIsN true f) := PE_imp (pe_cmp (pc_notN h)) fun _ _ _ => isNN_use
theorem dt_isN (h : DE X T Wx e f) : DT X T Wx (.Compare e [.Is] [.Constant .none j pos'] pos) (fB (fIsN false f)) := PT_imp (pt_cmp (pc_isN h)) fun _ _ _ q => tB_imp (fun _ _ _ => isN_use) (tB_use q)
theorem dt_isNN (h : DE X T Wx e f) : DT X T Wx (.Compare e [.IsNot] [.Constant .none j pos'] pos) (fB (fIsN true f)) := PT_imp (pt_cmp (pc_notN h)) fun _ _ _ q => tB_imp (fun _ _ _ => isNN_use) (tB_use q)
end
/-! ### t[a:b:c] -/
def pick {α : Type} (xs : List α) (ix : List Nat) : List α := ix.filterMap (xs[·]?)
def tIx (n : Nat) (lo hi : Option Int) (st : Int) : List Nat := (List.range (Builtin.Slice.slicePlaces (Builtin.Slice.sliceAdjust lo hi st n).1 (Builtin.Slice.sliceAdjust lo hi st n).2 st)).map fun (k : Nat) => ((Builtin.Slice.sliceAdjust lo hi st n).1 + (k : Int) * st).toNat
def lIx (n : Nat) (lo hi : Option Int) (st : Int) : List Nat := sliceRange (sliceBounds lo hi (some st) n).1 (sliceBounds lo hi (some st) n).2.1 (sliceBounds lo hi (some st) n).2.2
def slStD (lo hi : Option Int) (st : Int) (d : D) : Option D := if st = 0 then none else match d with
  | .tuple ds => if st = 1 then none else if (tIx ds.length lo hi st).length ≤ line then some (.tuple (pick ds (tIx ds.length lo hi st))) else none
  | .list ds => if (lIx ds.length lo hi st).length ≤ line then some (.list (pick ds (lIx ds.length lo hi st))) else none
  | _ => none
theorem pick_len {α : Type} (xs : List α) (ix : List Nat) : (pick xs ix).length ≤ ix.length := List.length_filterMap_le _ _
theorem Vals.pick {xs : List V} {us : List Value} (r : Vals xs us) : ∀ ix : List Nat, Vals (pick xs ix) (pick us ix)
  | [] => .nil
  | i :: ix => by
    show Vals (List.filterMap _ (i :: ix)) (List.filterMap _ (i :: ix))
    cases h : xs[i]? with
    | none =>
      have h2 : us[i]? = none := r.none_of h
      rw [List.filterMap_cons_none h, List.filterMap_cons_none h2]
      exact Vals.pick r ix
    | some x =>
      obtain ⟨u, h2, h3⟩ := r.get h
      rw [List.filterMap_cons_some h, List.filterMap_cons_some h2]
      exact .cons h3 (Vals.pick r ix)
theorem Fzs.pick {H : Hp} {A : Addr → Prop} {xs : List V} {ds : List D} (f : Fzs H A xs ds) : ∀ ix : List Nat, Fzs H A (pick xs ix) (pick ds ix)
  | [] => .nil
  | i :: ix => by
    show Fzs H A (List.filterMap _ (i :: ix)) (List.filterMap _ (i :: ix))
    cases h : xs[i]? with
    | none =>
      have h2 : ds[i]? = none := List.getElem?_eq_none_iff.mpr (by rw [← f.len]; exact List.getElem?_eq_none_iff.mp h)
      rw [List.filterMap_cons_none h, List.filterMap_cons_none h2]
      exact Fzs.pick f ix
    | some x =>
      obtain ⟨d, h2, h3⟩ := f.getV h
      rw [List.filterMap_cons_some h, List.filterMap_cons_some h2]
      exact .cons h3 (Fzs.pick f ix)
section
variable {prog : Program} {w : World} {A : Around} {E : Value → Shared → Prop} {s : Shared}
theorem applied_st {sl : Addr} {vl vu vs : Value} {lo hi : Option Int} {st : Int} {n : Nat} {Q : Int × Int × Nat → Shared → Prop} (hs : s.heap.IsSliceOf sl vl vu vs) (pl : IsPart vl lo) (pu : IsPart vu hi) (ps : IsPart vs (some st)) (h0 : st ≠ 0)
    (h : Q ((Builtin.Slice.sliceAdjust lo hi st n).1, st, Builtin.Slice.slicePlaces (Builtin.Slice.sliceAdjust lo hi st n).1 (Builtin.Slice.sliceAdjust lo hi st n).2 st) s) : wpAny (model prog w) A (Builtin.Slice.sliceApplied (.ref sl) (pure (n : Int))) Q E s := by
  obtain ⟨o, ho, hc, hd⟩ := id hs
  unfold Builtin.Slice.sliceApplied Builtin.Slice.sliceFields
  refine wpAny_bind (wpAny_bind (wpAny_field ho hd (x := vl) rfl (wpAny_bind (wpAny_field ho hd (x := vu) rfl (wpAny_bind (wpAny_field ho hd (x := vs) rfl (wpAny_pure ?_)))))))
  refine wpAny_bind (HT.slicePart_ ps ?_)
  show wpAny _ _ (if (st == 0) = true then _ else _) _ _ s
  rw [if_neg (by simpa using h0)]
  exact wpAny_bind (HT.slicePart_ pl (wpAny_bind (HT.slicePart_ pu (wpAny_bind (wpAny_pure (wpAny_pure h))))))
theorem tup_step {t sl : Addr} {items : Array Value} {vl vu vs : Value} {lo hi : Option Int} {st : Int} {Q : Value → Shared → Prop} (ht : IsTup s.heap t items) (hs : s.heap.IsSliceOf sl vl vu vs) (pl : IsPart vl lo) (pu : IsPart vu hi) (ps : IsPart vs (some st)) (h0 : st ≠ 0) (h1 : st ≠ 1)
    (h : Q (.ref s.heap.objs.size) { s with heap := s.heap.push { cls := .type "tuple", data := .seq (pick items.toList (tIx items.size lo hi st)).toArray } }) (hl : (tIx items.size lo hi st).length ≤ sizeLine) : wpAny (model prog w) A (getItem (.ref t) (.ref sl)) Q E s := by
  obtain ⟨o, ho, hc, hd⟩ := id hs
  have hT : s.TypeIs (.ref sl) "slice" := ⟨o, ho, hc⟩
  have hz : sizeOk (.seq (pick items.toList (tIx items.size lo hi st)).toArray) := by
    show (pick items.toList (tIx items.size lo hi st)).toArray.size ≤ sizeLine
    rw [List.size_toArray]
    exact Nat.le_trans (pick_len _ _) hl
  unfold getItem
  try with_reducible refine wpAny_holding ?_
  first | refine wpAny_bind (wpAny_pure ?_) | skip
  refine wpAny_bind (wpAny_sequenceKey ht.typeIs (by decide) ?_)
  refine wpAny_bind (wpAny_callSpecial?_slot (name := Str.ofString "__getitem__") ht.typeIs PyProof.Rows.slot_tuple_getitem (wpAny_call_entry PyProof.Rows.slot_tuple_getitem ht.typeIs entry_tuple_getitem ?_ (args_tuple_getitem _ _)))
  show wpAny _ _ (Builtin.Tuple.tupleItemsOf (.ref t) >>= _) _ _ s
  refine wpAny_bind (tupleItemsOf_ ht ?_)
  refine wpAny_bind (wpAny_typeOf hT ?_)
  rw [if_pos (by decide)]
  refine wpAny_bind (applied_st hs pl pu ps h0 ?_)
  have hno : ¬ (((Builtin.Slice.sliceAdjust lo hi st items.size).1 == 0 && st == 1 && Builtin.Slice.slicePlaces (Builtin.Slice.sliceAdjust lo hi st items.size).1 (Builtin.Slice.sliceAdjust lo hi st items.size).2 st == items.size) = true) := by
    intro q
    rw [Bool.and_eq_true, Bool.and_eq_true] at q
    exact h1 (eq_of_beq q.1.2)
  dsimp only
  rw [if_neg hno]
  have ep : ((List.range (Builtin.Slice.slicePlaces (Builtin.Slice.sliceAdjust lo hi st items.size).1 (Builtin.Slice.sliceAdjust lo hi st items.size).2 st)).filterMap fun (k : Nat) => items[((Builtin.Slice.sliceAdjust lo hi st items.size).1 + (k : Int) * st).toNat]?) = pick items.toList (tIx items.size lo hi st) := by
    unfold pick tIx
    rw [List.filterMap_map]
    congr 1
    funext k
    simp
  rw [ep]
  refine wpAny_bind ?_
  unfold Builtin.Tuple.tupleExact
  exact wpAny_newObj_type (wpAny_pure ⟨_, rfl, wpAny_pure h⟩)
end
/-! the expression -/
def rStep (K : PySem.W.Frag) (x : V) (lo hi : Option Int) (st : Int) (H : Hp) (Q : VK) : Prop := st ≠ 0 ∧ ((∃ a xs, x = .ref a ∧ SqT K H a xs ∧ st ≠ 1 ∧ (tIx xs.length lo hi st).length ≤ sizeLine ∧ ∀ p, H p = none → Q (.ref p) (upd H p (.tup (pick xs (tIx xs.length lo hi st))))) ∨
  ∃ a xs, x = .ref a ∧ SqL K H a xs ∧ (lIx xs.length lo hi st).length ≤ sizeLine ∧ ∀ p, H p = none → Q (.ref p) (upd H p (.lst (pick xs (lIx xs.length lo hi st)))))
section
variable {X : Cx} {e sp : Expr} {lo hi : Option Expr} {te : TE} {tl th ts : TO} {p2 pos : Pos}
theorem pe_step (he : PE X e te) (hl : PO X lo tl) (hu : PO X hi th) (hs : PO X (some sp) ts) (hop : ∀ v u, subscripted (.Slice lo hi (some sp) p2) false v u = operate [v, u] (getItem v u) := by intro _ _; rfl) :
    PE X (.Subscript e (.Slice lo hi (some sp) p2) pos) (fun σ H Q => te σ H fun x H1 => tl σ H1 fun l H2 => th σ H2 fun u H3 => ts σ H3 fun o H4 => ∃ st, o = some st ∧ rStep X.K x l u st H4 Q) := by
  refine ⟨fun pins s σ H Q I h => ?_⟩
  refine Subscript_ (thn (he.run pins s σ H _ I h) fun v s1 ⟨x, H1, I1, r1, q1⟩ => ?_)
  refine wpAny_Slice (thn (hl.run pins s1 σ H1 _ I1 q1) fun vl s2 ⟨l, H2, I2, pl, q2⟩ => thn (hu.run pins s2 σ H2 _ I2 q2) fun vu s3 ⟨u, H3, I3, pu, q3⟩ => thn (hs.run pins s3 σ H3 _ I3 q3) fun vs s4 ⟨o, H4, I4, ps, st, eo, h0, q4⟩ => ?_)
  subst eo
  have I5 : Inv X pins σ H4 { s4 with heap := s4.heap.push { cls := .type "slice", data := .fields #[vl, vu, vs] } } := I4.kept (t' := s4.toks) fun b ob q => Heap.get?_push_of_some _ q
  rcases q4 with ⟨a, xs, rfl, hx, h1, hz, q⟩ | ⟨a, xs, rfl, hx, hz, q⟩
  · obtain rfl : v = Value.ref a := r1
    obtain ⟨its, r, ht, hsz⟩ := I5.tuple hx
    have hn : its.toArray.size = xs.length := by rw [List.size_toArray]; exact r.length.symm
    show wpAny (model X.prog X.w) X.A (subscriptTail e (.Slice lo hi (some sp) p2) (.ref a) (.ref s4.heap.objs.size)) (EP X pins σ Q) X.xe { s4 with heap := s4.heap.push { cls := .type "slice", data := .fields #[vl, vu, vs] } }
    refine tail_any (ops := [.ref a, .ref s4.heap.objs.size]) ht.typeIs PyProof.Rows.slot_tuple_getitem.lookup ?_ (hop _ _)
    refine tup_step ht (Heap.IsSliceOf.new _ vl vu vs) pl pu ps h0 h1 ?_ (by rw [hn]; exact hz)
    rw [hn]
    refine ⟨.ref _, _, I5.laid (t' := s4.toks) (o := .tup (pick xs (tIx xs.length l u st))) (fun b ob q => Heap.get?_push_of_some _ q) (Nat.le_refl _) ?_, rfl, q _ (I5.hok.fresh (Nat.le_refl _))⟩
    exact ⟨Nat.le_trans (pick_len _ _) hz, _, Vals.pick r _, IsTup.new _ _⟩
  · obtain rfl : v = Value.ref a := r1
    obtain ⟨its, r, ht, hsz⟩ := I5.list hx
    have hn : its.toArray.size = xs.length := by rw [List.size_toArray]; exact r.length.symm
    show wpAny (model X.prog X.w) X.A (subscriptTail e (.Slice lo hi (some sp) p2) (.ref a) (.ref s4.heap.objs.size)) (EP X pins σ Q) X.xe { s4 with heap := s4.heap.push { cls := .type "slice", data := .fields #[vl, vu, vs] } }
    refine tail_any (ops := [.ref a, .ref s4.heap.objs.size]) ht.isList.typeIs (PySem.slot_list_getitem.lookup) ?_ (hop _ _)
    refine wpAny_getItem_list_slice ht.isList (Heap.IsSliceOf.new _ vl vu vs) pl pu ps (by simpa using h0) ?_ (by rw [hn]; exact hsz)
    have ep : slicePick its.toArray l u (some st) = (pick its (lIx xs.length l u st)).toArray := by
      unfold slicePick pick lIx
      rw [hn]
      congr 1
      congr 1
      funext k
      simp
    rw [ep]
    refine ⟨.ref _, _, I5.laid (t' := s4.toks) (o := .lst (pick xs (lIx xs.length l u st))) (fun b ob q => Heap.get?_push_of_some _ q) (Nat.le_refl _) ?_, rfl, q _ (I5.hok.fresh (Nat.le_refl _))⟩
    exact ⟨Nat.le_trans (pick_len _ _) hz, _, 0, Vals.pick r _, Heap.get?_push_size _ rfl⟩
end
def fStep (f : En → CS → R W) (lo hi st : fO) (ρ : En) (s : CS) : R W := (f ρ s).bind fun x s => (lo ρ s).bind fun l s => (hi ρ s).bind fun h s => (st ρ s).bind fun o s => match o, x with
  | some k, .d d => match slStD l h k d with
    | some z => .ok (.d z) s
    | none => .bad
  | _, _ => .bad
section
variable {X : Cx} [HK X] {T : TX} {Wx : WXc} {e sp : Expr} {lo hi : Option Expr} {f : En → CS → R W} {gl gh gs : fO} {p2 pos : Pos}
theorem de_step (h : DE X T Wx e f) (hl : DO X T Wx lo gl) (hu : DO X T Wx hi gh) (hs : DO X T Wx (some sp) gs) (hop : ∀ v u, subscripted (.Slice lo hi (some sp) p2) false v u = operate [v, u] (getItem v u) := by intro _ _; rfl) :
    DE X T Wx (.Subscript e (.Slice lo hi (some sp) p2) pos) (fStep f gl gh gs) := PE_imp (pe_step h hl hu hs hop) fun σ H Q ⟨B, μ, s, ρ, r, e, q⟩ =>
  tD_bind r e q fun w s1 v μ1 H1 st1 r1 e1 rel1 q1 => tD_bind r1 e1 q1 fun l s2 vl μ2 H2 st2 r2 e2 rel2 q2 => tD_bind r2 e2 q2 fun u s3 vu μ3 H3 st3 r3 e3 rel3 q3 => tD_bind r3 e3 q3 fun o s4 vo μ4 H4 st4 r4 e4 rel4 q4 => by
    cases rel2
    cases rel3
    cases rel4
    split at q4
    · rename_i k d
      have rel := (RW.stp ((st2.trans st3).trans st4) rel1).data
      split at q4
      · rename_i z hz
        unfold slStD at hz
        split at hz
        · cases hz
        · rename_i h0
          refine ⟨k, rfl, h0, ?_⟩
          cases rel with
          | @tup a xs ds h1 f1 =>
            simp only at hz
            split at hz
            · cases hz
            · rename_i h2
              split at hz
              · rename_i h3
                cases hz
                refine .inl ⟨a, xs, rfl, h1.sq, h2, by rw [f1.len, line_eq]; exact h3, fun p hp => Fin.use (a := W) q4 (same_upd hp) r4 ?_⟩
                have := Fz.newT r4.bt' hp (f1.pick (tIx ds.length l u k))
                rw [f1.len]
                exact this
              · cases hz
          | @lst a xs ds h1 f1 =>
            simp only at hz
            split at hz
            · rename_i h3
              cases hz
              refine .inr ⟨a, xs, rfl, h1.sq, by rw [f1.len, line_eq]; exact h3, fun p hp => Fin.use (a := W) q4 (same_upd hp) r4 ?_⟩
              have := Fz.newL r4.bt' hp (f1.pick (lIx ds.length l u k))
              rw [f1.len]
              exact this
            · cases hz
          | _ => cases hz
      · exact q4.elim
    · exact q4.elim
/-! an item of a cell or of data -/
def ixA (w u : W) (s : CS) : R W := match w with
  | .c n => ixC (.c n) u s
  | _ => lift2 ixD w u s
def fIxA (f g : En → CS → R W) (ρ : En) (s : CS) : R W := (f ρ s).bind fun w s => (g ρ s).bind fun u s => ixA w u s
theorem de_ixA {e2 : Expr} {g : En → CS → R W} (ha : DE X T Wx e f) (hb : DE X T Wx e2 g) (hs : PlainIx e2 := by exact fun _ _ => rfl) : DE X T Wx (.Subscript e e2 pos) (fIxA f g) := PE_imp (pe_ix (ix_list.or dix) ha hb hs) fun σ H Q ⟨B, μ, s, ρ, r, e, q⟩ =>
  tD_bind r e q fun w s1 v μ1 H1 st1 r1 e1 rel1 q1 => tD_bind r1 e1 q1 fun u s2 x μ2 H2 st2 r2 e2 rel2 q2 => by
    have rel1 := RW.stp st2 rel1
    unfold ixA at q2
    split at q2
    · exact .inl (ixC_use r2 rel1 rel2 q2)
    · exact .inr (lift2_use r2 rel1 rel2 q2)
end
/-! x in range(a, b, c) -/
theorem rg3_contains (r : Addr) (a b c i : Int) (t u v k : Tok) :
    Meets (Builtin.«range.__contains__» ⟨[.ref r, .int i k], []⟩) (fun _ R s => s.heap.get? r = some { cls := .type "range", dict := none, data := .fields #[.int a t, .int b u, .int c v], slots := #[] } ∧ R (.ok (.ret (.bool (Builtin.Range.rangePlace? a b c i).isSome))) s) :=
  .of_wp fun prog w A R s h => by obtain ⟨hp, g, d, tk, os⟩ := s; obtain ⟨hl, h⟩ := h; wp_walk; exact ⟨_, rfl, h⟩
def inRg (neg : Bool) (u : W) (ws : List W) (s : CS) : R W := match u, ws with
  | .d (.int i), [.d (.int a), .d (.int b), .d (.int c)] => if 0 < c ∧ c < 1000 ∧ -(2 ^ 62) < a ∧ a < 2 ^ 62 ∧ -(2 ^ 62) < b ∧ b < 2 ^ 62 then .ok (.d (.bool (xor neg (Builtin.Range.rangePlace? a b c i).isSome))) s else .bad
  | _, _ => .bad
def fInRg (neg : Bool) (f : En → CS → R W) (fs : En → CS → R (List W)) (ρ : En) (s : CS) : R W := (f ρ s).bind fun u s => (fs ρ s).bind fun ws s => inRg neg u ws s
section
variable {X : Cx} [HK X] {T : TX} {Wx : WXc} {e : Expr} {es : List Expr} {f : En → CS → R W} {fs : En → CS → R (List W)} {ty : TE} {ta : TA} {p pos p2 : Pos}
def tInRg (neg : Bool) (ty : TE) (ta : TA) : TE := fun σ H Q => ty σ H fun y H1 => ta σ H1 fun vs H2 => ∃ i a b c, y = .int i ∧ vs = [.int a, .int b, .int c] ∧ (0 < c ∧ c < 1000 ∧ -(2 ^ 62) < a ∧ a < 2 ^ 62 ∧ -(2 ^ 62) < b ∧ b < 2 ^ 62) ∧ Q (.bl (xor neg (Builtin.Range.rangePlace? a b c i).isSome)) H2
theorem rg_call (hg : Gl X "range") (hm : X.mg "range" = none) (ha : PA X (e :: es) ta) (hs : starEach (e :: es) X.env = (false, eval e X.env) :: starEach es X.env) (hpl : (backTo pos (starEach es X.env)).any (·.1) = false) {pins : List (Addr × Obj)} {s : Shared} {σ : L2.St} {H : Hp} {R : Value → Shared → Prop} {G : List V → Hp → Prop} (I : Inv X pins σ H s) (hG : ta σ H G)
    (h : ∀ vs H2, G vs H2 → ∃ a b c, vs = [.int a, .int b, .int c] ∧ (0 < c ∧ c < 1000 ∧ -(2 ^ 62) < a ∧ a < 2 ^ 62 ∧ -(2 ^ 62) < b ∧ b < 2 ^ 62) ∧ ∀ q s2 t u v, Inv X pins σ H2 s2 → s2.heap.get? q = some { cls := .type "range", dict := none, data := .fields #[.int a t, .int b u, .int c v], slots := #[] } → R (.ref q) s2) :
    wpAny (model X.prog X.w) X.A (eval (.Call (.Name "range" p) (e :: es) [] pos) X.env) R X.xe s := by
  refine wpAny_Call_Name_kw (ld_blt I hg hm PyProof.Rows.boot_range ?_ (by decide) (by decide))
  refine PyProof.Rows.callWith_type1 (thn (ha.run pos pins s σ H _ I hG) fun us s1 ⟨vs, H1, I1, r1, q1⟩ => ?_) hs hpl
  obtain ⟨a, b, c, rfl, hb, q⟩ := h _ _ q1
  cases r1 with
  | cons a1 a2 =>
  cases a2 with
  | cons a3 a4 =>
  cases a4 with
  | cons a5 a6 =>
  cases a6
  obtain ⟨t, rfl⟩ := a1
  obtain ⟨u, rfl⟩ := a3
  obtain ⟨v, rfl⟩ := a5
  refine call_range_3 (by omega) (q _ _ t u v (I1.kept (t' := s1.toks) fun b o e => Heap.get?_push_of_some _ e) (Heap.get?_push_size _ rfl)) (Or.inl (PyProof.noPylong_small (by omega)))
theorem rg_in {B : Around} {E : Value → Shared → Prop} {Q : Value → Shared → Prop} {s : Shared} {q : Addr} {a b c i : Int} {t u v k : Tok} (ho : s.heap.get? q = some { cls := .type "range", dict := none, data := .fields #[.int a t, .int b u, .int c v], slots := #[] }) (h : Q (.bool (Builtin.Range.rangePlace? a b c i).isSome) s) :
    wpAny (model X.prog X.w) B (compareOp .In (.int i k) (.ref q)) Q E s := by
  show wpAny _ _ (do return Value.bool (← contains (Value.ref q) (Value.int i k))) _ _ s
  exact wpAny_bind (wpAny_contains_slot (T := "range") ⟨_, ho, rfl⟩ F.slot_range_contains (call_meets F.slot_range_contains ⟨_, ho, rfl⟩ F.entry_range_contains (F.args_range_contains_2 _ _) (rg3_contains q a b c i t u v k) ⟨ho, wpAny_truthy_bool (wpAny_pure h)⟩))
theorem rg_nin {B : Around} {E : Value → Shared → Prop} {Q : Value → Shared → Prop} {s : Shared} {q : Addr} {a b c i : Int} {t u v k : Tok} (ho : s.heap.get? q = some { cls := .type "range", dict := none, data := .fields #[.int a t, .int b u, .int c v], slots := #[] }) (h : Q (.bool (!(Builtin.Range.rangePlace? a b c i).isSome)) s) :
    wpAny (model X.prog X.w) B (compareOp .NotIn (.int i k) (.ref q)) Q E s := by
  show wpAny _ _ (do return Value.bool (!(← contains (Value.ref q) (Value.int i k)))) _ _ s
  exact wpAny_bind (wpAny_contains_slot (T := "range") ⟨_, ho, rfl⟩ F.slot_range_contains (call_meets F.slot_range_contains ⟨_, ho, rfl⟩ F.entry_range_contains (F.args_range_contains_2 _ _) (rg3_contains q a b c i t u v k) ⟨ho, wpAny_truthy_bool (wpAny_pure h)⟩))
theorem pc_rgIn {e0 : Expr} (hg : Gl X "range") (hm : X.mg "range" = none) (hi : PE X e0 ty) (ha : PA X (e :: es) ta) (hs : starEach (e :: es) X.env = (false, eval e X.env) :: starEach es X.env) (hpl : (backTo pos (starEach es X.env)).any (·.1) = false) : PC X .In e0 (.Call (.Name "range" p) (e :: es) [] pos) (tInRg false ty ta) := by
  refine ⟨fun pins s σ H Q I h => thn (hi.run pins s σ H _ I h) fun iv s1 ⟨y, H1, I1, ry, q1⟩ => rg_call hg hm ha hs hpl I1 q1 fun vs H2 ⟨i, a, b, c, ey, ev, hb, q2⟩ => ⟨a, b, c, ev, hb, fun q s2 t u v I2 ho => ?_⟩⟩
  subst ey
  obtain ⟨k, rfl⟩ := ry
  refine rg_in ho ⟨.bl _, H2, I2, rfl, ?_⟩
  rw [Bool.false_xor] at q2
  exact q2
theorem pc_rgNin {e0 : Expr} (hg : Gl X "range") (hm : X.mg "range" = none) (hi : PE X e0 ty) (ha : PA X (e :: es) ta) (hs : starEach (e :: es) X.env = (false, eval e X.env) :: starEach es X.env) (hpl : (backTo pos (starEach es X.env)).any (·.1) = false) : PC X .NotIn e0 (.Call (.Name "range" p) (e :: es) [] pos) (tInRg true ty ta) := by
  refine ⟨fun pins s σ H Q I h => thn (hi.run pins s σ H _ I h) fun iv s1 ⟨y, H1, I1, ry, q1⟩ => rg_call hg hm ha hs hpl I1 q1 fun vs H2 ⟨i, a, b, c, ey, ev, hb, q2⟩ => ⟨a, b, c, ev, hb, fun q s2 t u v I2 ho => ?_⟩⟩
  subst ey
  obtain ⟨k, rfl⟩ := ry
  refine rg_nin ho ⟨.bl _, H2, I2, rfl, ?_⟩
  rw [Bool.true_xor] at q2
  exact q2
theorem inRg_use {neg : Bool} {σ : L2.St} {H : Hp} {Q : VK} (q : tD T Wx (fInRg neg f fs) σ H Q) : tInRg neg (tD T Wx f) (tD T Wx fs) σ H Q := by
  obtain ⟨B, μ, s, ρ, r, e, q⟩ := q
  refine tD_bind r e q fun u s1 y μ1 H1 st1 r1 e1 rel1 q1 => tD_bind r1 e1 q1 fun ws s2 vs μ2 H2 st2 r2 e2 rel2 q2 => ?_
  replace rel2 : RWs B μ2 s2 H2 vs ws := rel2
  unfold inRg at q2
  split at q2
  · rename_i i a b c
    split at q2
    · rename_i hb
      cases rel1.data
      cases rel2 with
      | cons a1 a2 =>
      cases a2 with
      | cons a3 a4 =>
      cases a4 with
      | cons a5 a6 =>
      cases a6
      cases a1.data
      cases a3.data
      cases a5.data
      exact ⟨i, a, b, c, rfl, rfl, hb, Fin.here (a := W) q2 r2 (Fz.bl _)⟩
    · exact q2.elim
  · exact q2.elim
theorem dt_rgNin {e0 : Expr} (hg : Gl X "range") (hm : X.mg "range" = none) (hi : DE X T Wx e0 f) (ha : DA X T Wx (e :: es) fs) (hs : starEach (e :: es) X.env = (false, eval e X.env) :: starEach es X.env := by rfl) (hpl : (backTo pos (starEach es X.env)).any (·.1) = false := by rfl)
    (hmk : behindInMarks .NotIn (.Call (.Name "range" p) (e :: es) [] pos) = false := by first | exact nomark _ | rfl) : DT X T Wx (.Compare e0 [.NotIn] [.Call (.Name "range" p) (e :: es) [] pos] p2) (fB (fInRg true f fs)) :=
  PT_imp (pt_cmp (pc_rgNin hg hm hi ha hs hpl) hmk) fun _ _ _ q => tB_imp (fun _ _ _ => inRg_use) (tB_use q)
theorem dt_rgIn {e0 : Expr} (hg : Gl X "range") (hm : X.mg "range" = none) (hi : DE X T Wx e0 f) (ha : DA X T Wx (e :: es) fs) (hs : starEach (e :: es) X.env = (false, eval e X.env) :: starEach es X.env := by rfl) (hpl : (backTo pos (starEach es X.env)).any (·.1) = false := by rfl)
    (hmk : behindInMarks .In (.Call (.Name "range" p) (e :: es) [] pos) = false := by first | exact nomark _ | rfl) : DT X T Wx (.Compare e0 [.In] [.Call (.Name "range" p) (e :: es) [] pos] p2) (fB (fInRg false f fs)) :=
  PT_imp (pt_cmp (pc_rgIn hg hm hi ha hs hpl) hmk) fun _ _ _ q => tB_imp (fun _ _ _ => inRg_use) (tB_use q)
end
end
end DL
namespace DL
open PySem PySem.Spec PyProof.Rows L2
section
variable [KFrag]
/-! ### from behind -/
theorem rev_at {α : Type} (xs : List α) {i : Nat} (h : i < xs.length) : xs.reverse[i]? = xs[xs.length - 1 - i]? := List.getElem?_reverse h
theorem itr_revR {B : Addr → Prop} {μ : List Addr} {s : CS} {H : Hp} {n : Nat} : ItR B μ s H (Itc (0 + ((n : Nat) : Int) - 1) (-1) n) (rngD 0 n).reverse := by
  have hl : (rngD 0 n).length = n := by simp [rngD]
  refine ⟨fun _ => True, YFn fun i => .int ((0 + ((n : Nat) : Int) - 1) + (i : Nat) * (-1)), by rw [List.length_reverse, hl]; exact walk_rangeC, fun _ _ _ _ => trivial, fun i H' A' v H'' k bt hi y => ?_⟩
  obtain ⟨rfl, rfl⟩ := y
  rw [List.length_reverse] at hi
  have hn : i < n := by rw [hl] at hi; exact hi
  have e : (0 + ((n : Nat) : Int) - 1) + ((i : Nat) : Int) * (-1) = 0 + ((n - 1 - i : Nat) : Int) := by omega
  refine ⟨Same.refl _, .int (0 + ((n - 1 - i : Nat) : Int)), ?_, ?_⟩
  · rw [rev_at _ hi, hl]
    have : n - 1 - i < n := by omega
    simp [rngD, this]
  · show Fz H'' A' (V.int ((0 + ((n : Nat) : Int) - 1) + ((i : Nat) : Int) * (-1))) _
    rw [e]
    exact .int _
def fRevR (f : En → CS → R W) (ρ : En) (s : CS) : R (List D) := (f ρ s).bind fun w s => match w with
  | .d (.int j) => if -(2 ^ 62) ≤ j ∧ j < 2 ^ 62 then .ok (rngD 0 j.toNat).reverse s else .bad
  | _ => .bad
def revW : W → CS → R (List D)
  | .d (.list ds), s => .ok ds.reverse s
  | .d (.tuple ds), s => .ok ds.reverse s
  | _, _ => .bad
def fRev (f : En → CS → R W) (ρ : En) (s : CS) : R (List D) := (f ρ s).bind revW
theorem itr_revL {K : PySem.W.Frag} {B : Addr → Prop} {μ : List Addr} {s : CS} {H : Hp} {a : Addr} {xs : List V} {ds : List D} (h : FL H (Av B μ s) a xs) (f : Fzs H (Av B μ s) xs ds) : ItR B μ s H (Itv K a xs.length) ds.reverse := by
  refine ⟨fun H => SqL K H a xs, fun i H x H' => H' = H ∧ xs[xs.length - 1 - i]? = some x, ?_, fun H' A' k bt => .of (k.keep _ _ h.1 h.2), fun i H' A' v H'' k bt hi y => ?_⟩
  · rw [List.length_reverse, ← f.len]
    exact walk_rev
  · obtain ⟨rfl, e⟩ := y
    rw [List.length_reverse] at hi
    obtain ⟨d, e1, e2⟩ := (f.kp k).getV e
    exact ⟨Same.refl _, d, by rw [rev_at _ hi, ← f.len]; exact e1, e2⟩
theorem itr_revT {X : Cx} [HK X] {B : Addr → Prop} {μ : List Addr} {s : CS} {H : Hp} {a : Addr} {xs : List V} {ds : List D} (h : FT H (Av B μ s) a xs) (f : Fzs H (Av B μ s) xs ds) : ItR B μ s H (RT.ItvT X.K a xs.length) ds.reverse := by
  refine ⟨fun H => SqT X.K H a xs, fun i H x H' => H' = H ∧ xs[xs.length - 1 - i]? = some x, ?_, fun H' A' k bt => (h.kp k.keep k.new).sq, fun i H' A' v H'' k bt hi y => ?_⟩
  · rw [List.length_reverse, ← f.len]
    exact ⟨fun i _ hi q => ⟨hi, xs, xs[xs.length - 1 - i]'(by omega), q, by simp [show xs.length - 1 - i < xs.length by omega]⟩, fun _ _ => Nat.le_refl _, fun _ _ _ _ _ q y => ⟨y.1, y.2 xs q⟩⟩
  · obtain ⟨rfl, e⟩ := y
    rw [List.length_reverse] at hi
    obtain ⟨d, e1, e2⟩ := (f.kp k).getV e
    exact ⟨Same.refl _, d, by rw [rev_at _ hi, ← f.len]; exact e1, e2⟩
section
variable {X : Cx} [HK X] {T : TX} {Wx : WXc} {tg e : Expr} {f : En → CS → R W} {p p2 pos pos2 : Pos}
theorem di_revR (hr : Gl X "reversed") (hrm : X.mg "reversed" = none) (hg : Gl X "range") (hm : X.mg "range" = none) (h : DE X T Wx e f) (hs : starEach [e] X.env = (false, eval e X.env) :: starEach [] X.env := by rfl)
    (hs2 : starEach [.Call (.Name "range" p) [e] [] pos] X.env = (false, eval (.Call (.Name "range" p) [e] [] pos) X.env) :: starEach [] X.env := by rfl) : DI X T Wx tg (.Call (.Name "reversed" p2) [.Call (.Name "range" p) [e] [] pos] [] pos2) (fRevR f) :=
  PI_imp (pi_revR hr hrm (prg_1 hg hm h hs) hs2) fun σ H Q ⟨B, μ, s, ρ, r, e, q⟩ =>
  tD_bind r e q fun w s1 v μ1 H1 st1 r1 e1 rel1 q1 => by
    split at q1
    · rename_i j
      split at q1
      · rename_i hj
        have rel1 : Fz H1 (Av B μ1 s1) v (.int j) := rel1
        cases rel1
        refine ⟨j, rfl, by decide, by decide, hj.1, hj.2, ?_⟩
        rw [Int.sub_zero]
        exact Fin.here (a := List D) q1 r1 itr_revR
      · exact q1.elim
    · exact q1.elim
theorem di_rev (hr : Gl X "reversed") (hrm : X.mg "reversed" = none) (h : DE X T Wx e f) (hs : starEach [e] X.env = (false, eval e X.env) :: starEach [] X.env := by rfl) : DI X T Wx tg (.Call (.Name "reversed" p2) [e] [] pos2) (fRev f) :=
  PI_imp (RT.pi_revA hr hrm h hs) fun σ H Q ⟨B, μ, s, ρ, r, e, q⟩ =>
  tD_bind r e q fun w s1 v μ1 H1 st1 r1 e1 rel1 q1 => by
    unfold revW at q1
    split at q1
    · rename_i ds
      have rel1 : Fz H1 (Av B μ1 s1) v (.list ds) := rel1
      cases rel1 with
      | @lst a xs _ h1 f1 => exact ⟨a, xs, rfl, .inl ⟨h1.sq, Fin.here (a := List D) q1 r1 (itr_revL h1 f1)⟩⟩
    · rename_i ds
      have rel1 : Fz H1 (Av B μ1 s1) v (.tuple ds) := rel1
      cases rel1 with
      | @tup a xs _ h1 f1 => exact ⟨a, xs, rfl, .inr ⟨h1.sq, Fin.here (a := List D) q1 r1 (itr_revT h1 f1)⟩⟩
    · exact q1.elim
end
/-! ### list(d), d a dict that stays -/
def rLstN (w : World) : List V → Hp → VK → Prop := fun vs H Q => ∃ A a es ds, vs = [.ref a] ∧ Rd H a (DObj w a es) ∧ KPs H A es ds ∧ ∀ ys p, Fzs H A ys (ds.map (·.1)) → H p = none → Q (.ref p) (upd H p (.lst ys))
theorem cr_lstN {X : Cx} [HK X] (hc : X.calm = true) : CallR X (.type "list") (rLstN X.w) := by
  rintro pins s σ H vs us Q I rv ⟨A, a, es, ds, rfl, e, kp, q⟩
  cases rv with
  | cons r1 r2 =>
  cases r2
  cases (show _ = Value.ref a from r1)
  obtain ⟨hl, hs, xs, rel, dd⟩ := dct_rd I.hok (kin I) e kp
  obtain ⟨o, eps, ep, g1, g2, g3, g4, _, _⟩ := id dd
  have hsz : eps.size = es.length := by rw [← Array.length_toList, g4, List.length_map]; exact (Paired.length rel).symm
  refine PySem.W.kdl_call (KdlSrc.rawDict (es := eps) (ep := ep) hs) (I.ok.hd hc) ⟨o, g1, g2, g3⟩ (by rw [hsz]; exact hl) fun h' tk acc c hk hS hacc => ?_
  have vr : Vals (es.map fun e => .ref e.2.1) acc.toList := refs_at (by rw [Array.length_toList, hacc.1, hsz]) fun j v ej => by
    obtain ⟨hi, ev⟩ := hacc.2 j v (by rw [← Array.getElem?_toList]; exact ej)
    have hj : j < es.length := by rw [← hsz]; exact hi
    obtain ⟨x, hx, r1, r2, r3⟩ := paired_get rel (List.getElem?_eq_getElem hj)
    refine ⟨_, List.getElem?_eq_getElem hj, ?_⟩
    have : eps[j]? = some (entryOfKey (nestedKind X.prog X.w) x) := by rw [← Array.getElem?_toList, g4, List.getElem?_map, hx]; rfl
    rw [Array.getElem?_eq_getElem hi] at this
    rw [ev, Option.some.inj this, r2]
    rfl
  refine ⟨.ref s.heap.objs.size, upd H s.heap.objs.size (.lst (es.map fun e => .ref e.2.1)), I.laid (t' := tk) hk (Nat.le_refl _) ⟨?_, acc.toList, c, vr, ?_⟩, rfl, q _ _ kp.keys (I.hok.fresh (Nat.le_refl _))⟩
  · rw [List.length_map]; exact hl
  · rw [Array.toArray_toList]; exact hS
def lstF (ws : List W) (s : CS) : R W := match ws with
  | [.fd kvs] => if unm kvs = true then .ok (.d (.list (kvs.map (·.1)))) s else .bad
  | _ => .bad
def fLstF (fs : En → CS → R (List W)) (ρ : En) (s : CS) : R W := (fs ρ s).bind lstF
theorem de_lstF {X : Cx} [HK X] {T : TX} {Wx : WXc} {e : Expr} {fs : En → CS → R (List W)} {p pos : Pos} (hw : X.w = KFrag.w) (hc : X.calm = true) (hg : Gl X "list") (hm : X.mg "list" = none) (ha : DA X T Wx [e] fs)
    (he : starEach [e] X.env = (false, eval e X.env) :: starEach [] X.env := by rfl) (hpl : (backTo pos (starEach [] X.env)).any (·.1) = false := by rfl) : DE X T Wx (.Call (.Name "list" p) [e] [] pos) (fLstF fs) :=
  PE_imp (pe_callTy (cr_lstN hc) hg hm PyProof.Rows.boot_list ha (by decide) (by decide) he hpl) fun σ H Q ⟨B, μ, s, ρ, r, e, q⟩ => tD_bind r e q fun ws s1 vs μ1 H1 st1 r1 e1 rel1 q1 => by
    replace rel1 : RWs B μ1 s1 H1 vs ws := rel1
    unfold lstF at q1
    split at q1
    · rename_i kvs
      cases rel1 with
      | cons a1 a2 =>
      cases a2
      split at q1
      case isFalse => exact q1.elim
      rename_i hu
      obtain ⟨a, o, ns, rfl, ea, na, kp⟩ := FD.un a1 hu
      exact ⟨Av B μ1 s1, a, ns, kvs, rfl, .inr ⟨o, by rw [hw]; exact ea⟩, kp, fun ys p fy hp => Fin.use (a := W) (w := .d (.list (kvs.map (·.1)))) q1 (same_upd hp) r1 (Fz.newL r1.bt' hp fy)⟩
    · exact q1.elim
end
end DL
namespace DL
open PySem PySem.Spec PyProof.Rows L2
/-! ### {k: v for ..}: the block of names, whatever the dict is and whatever comes behind the first clause -/
abbrev Nope {α : Type} : α → Shared → Prop := fun _ _ => False
abbrev TestsIn (ifs : List Expr) (ce : Env) : Sem Bool := forIn ifs true fun c r => if r = true then do let ok ← isTrue c ce (eval c ce); pure (ForInStep.yield ok) else pure (ForInStep.yield r)
/-- a turn of the first clause -/
def Turn1 (X : Cx) (tg : Expr) (ifs : List Expr) (ce : Env) (it : Value) (R : Result → Shared → Prop) (rest : (Shared → Prop) → Shared → Prop) (J : Nat → Shared → Prop) (n : Nat) (s : Shared) : Prop :=
  wpAny (model X.prog X.w) X.A (pyNext it) (fun r s1 => match r with
    | none => R (.ok .next) s1
    | some v => wpAny (model X.prog X.w) X.A (letOwnedTupleGo tg it v) (fun _ s2 => wpAny (model X.prog X.w) X.A (assign tg ce v) (fun _ s3 => wpAny (model X.prog X.w) X.A (TestsIn ifs ce) (fun b s4 =>
        if b = true then rest (fun s' => ∃ m, m < n ∧ J m s') s4 else ∃ m, m < n ∧ J m s4) Nope s3) Nope s2) Nope s1) Nope s
/-- the loop of the first clause goes by turns -/
def Loop1 (X : Cx) (e tg : Expr) (ifs : List Expr) (rest : Env → Addr → (Shared → Prop) → Shared → Prop) : Prop := ∀ (ce : Env) (it : Value) (D : Addr) (R : Result → Shared → Prop) (J : Nat → Shared → Prop),
  (∀ n s, J n s → Turn1 X tg ifs ce it R (rest ce D) J n s) → ∀ n s, J n s → codeAny (model X.prog X.w) X.A (.compLoop e 0 it (.ref D) ce) R s
/-- what is told of a turn -/
def tDx (ob : Addr → HO) (wi : TI) (g : TG) (tt : TT) (tr : Addr → L2.St → Hp → (Hp → Prop) → Prop) (vs : List Nat) : TE := fun σ H Q => wi σ H fun J H1 => ∀ D, H1 D = none → ∃ W : Nat → Nat → Hp → Prop, (∃ m, W 0 m (upd H1 D (ob D))) ∧ ∀ i m H, W i m H →
  (J.stop i H ∧ Q (.ref D) H) ∨ (J.go i H ∧ ∃ Nx : Hp → Prop, (∀ H', Nx H' → ∃ m', m' < m ∧ W (i + 1) m' H') ∧ ∀ x H', J.yld i H x H' → g x (wipe σ vs) H' fun σ2 H2 => wipe σ2 vs = wipe σ vs ∧ tt σ2 H2 fun b H3 =>
    if b = true then tr D σ2 H3 Nx else Nx H3)
/-- the rest of a turn does what is told of it -/
def RestOk (X : Cx) (rest : (Shared → Prop) → Shared → Prop) (tr : L2.St → Hp → (Hp → Prop) → Prop) (vs : List Nat) : Prop := ∀ (pins : List (Addr × Obj)) (σ : L2.St) (H : Hp) (s : Shared) (N : Hp → Prop) (P : Shared → Prop), Inv X pins σ H s → tr σ H N →
  (∀ σ' H' s', Inv X pins σ' H' s' → σ'.length = σ.length → (∀ (j : Nat) v, (wipe σ vs)[j]? = some (some v) → σ'[j]? = some (some v)) → N H' → P s') → rest P s
abbrev newD (h : Heap) : Heap := h.push { cls := .type "dict", data := .dict #[] }
section
variable {X : Cx} {tg iter kx vx : Expr} {ifs : List Expr} {more : List Comprehension} {scope : Scope} {own : List (Str × Nat)} {pos pos' : Pos} {ob : Addr → HO} {wi : TI} {g : TG} {tt : TT} {tr : Addr → L2.St → Hp → (Hp → Prop) → Prop} {rest : Env → Addr → (Shared → Prop) → Shared → Prop}
  {pins : List (Addr × Obj)} {s : Shared} {σ : L2.St} {H : Hp} {Q : VK} {use : Option (Value → Sem Unit)} {Qf : Value → Shared → Prop}
theorem dcx (hc : X.calm = true) (hN : X.N.Nodup) (I : Inv X pins σ H s) (hi : PI X tg iter wi) (ok : BlkOk X.N X.env.scope scope own)
    (hg : ∀ s0 H0 C cl fp, PG (X.blk s0 H0 scope (compEnvC scope cl C X.env) fp) tg g) (ht : ∀ s0 H0 C cl fp, PTs (X.blk s0 H0 scope (compEnvC scope cl C X.env) fp) ifs tt)
    (hob : ∀ (h : Heap) (H' : Hp), sysModules < h.objs.size → ObjOk X.prog X.w H' (newD h) h.objs.size (ob h.objs.size))
    (hl : Loop1 X (.DictComp kx vx (⟨tg, iter, ifs, 0⟩ :: more) scope pos) tg ifs rest)
    (hr : ∀ s0 H0 C cl fp D, RestOk (X.blk s0 H0 scope (compEnvC scope cl C X.env) fp) (rest (compEnvC scope cl C X.env) D) (tr D) (own.map (·.2)))
    (hs : ∀ x, foldedSetIterable iter X.env x = pure x) (h : tDx ob wi g tt tr (own.map (·.2)) σ H Q)
    (hRR : ∀ D C s' m H', Inv X pins σ H' s' → Q (.ref D) H' → s'.heap.Ns C m → FpOk X pins H' C → compPost (model X.prog X.w) X.A X.xe use Qf (.ref D) C (.ok .next) s') :
    wpAny (model X.prog X.w) X.A (comprehension (.DictComp kx vx (⟨tg, iter, ifs, 0⟩ :: more) scope pos) scope X.env pos' newDict false (eval iter X.env) use) Qf X.xe s := by
  refine wpAny_comprehension_free (use := use) rfl hs (closure_ok fun y hy e => (ok.free y hy e).elim (fun k => I.ok.has _ (.inl k)) fun k => I.ok.has _ (.inr k)) ok.kind (fun y hy e => by rw [ok.uniq y hy, e])
    (thn (hi.run pins s σ H _ I h) fun _ sa ha => thn ha fun _ sb ⟨it, fp, tn, J, Hb, ev, Ib, Tn, stb, fpb, hb⟩ => ?_)
  cases ev
  refine wpAny_newObj_type (newEnv_comp ?_)
  obtain ⟨W, ⟨m0, w0⟩, turns⟩ := hb sb.heap.objs.size (Ib.hok.fresh (Nat.le_refl _))
  -- the dict is there
  have low : ∀ b ∈ fp, b < sb.heap.objs.size := fun b q => let ⟨_, e, _⟩ := Tn.obj _ _ stb b q; Heap.lt_size e
  have Id : Inv X pins σ (upd Hb sb.heap.objs.size (ob sb.heap.objs.size)) { sb with heap := newD sb.heap } := Ib.laid (t' := sb.toks) (fun _ _ e => Heap.get?_push_of_some _ e) (Nat.le_refl _) (hob sb.heap _ Ib.big)
  have std : tn 0 (newD sb.heap) := Tn.keep _ _ _ stb fun _ _ _ e => Heap.get?_push_of_some _ e
  have hsz : (newD sb.heap).objs.size = sb.heap.objs.size + 1 := Heap.size_push ..
  generalize hD : sb.heap.objs.size = D at low Id w0 hsz turns ⊢
  have fp2 : ∀ b ∈ fp, FpOk X pins (upd Hb D (ob D)) b ∧ b < (newD sb.heap).objs.size := fun b q => by
    refine ⟨⟨?_, (fpb b q).2⟩, by rw [hsz]; exact Nat.lt_succ_of_lt (low b q)⟩
    rw [upd_ne (Nat.ne_of_lt (low b q))]
    exact (fpb b q).1
  generalize upd Hb D (ob D) = Hd at Id w0 fp2
  generalize hsd : ({ sb with heap := newD sb.heap } : Shared) = sd at Id
  have hd : newD sb.heap = sd.heap := by rw [← hsd]
  rw [hd] at std fp2
  show codeAny (model X.prog X.w) X.A (.compStart (.DictComp kx vx (⟨tg, iter, ifs, 0⟩ :: more) scope pos) 0 (.ref it) (.ref D) (compEnvC scope (cellsFrom (sd.heap.objs.size + 1) scope.names (cloFrom X.env.cells scope.names [])) sd.heap.objs.size X.env))
    (compPost (model X.prog X.w) X.A X.xe use Qf (.ref D) sd.heap.objs.size) { sd with heap := pushCells (newD sd.heap) scope.names }
  have Ic := block_start Id ok hN fp2
  have pg := hg sd Hd sd.heap.objs.size (cellsFrom (sd.heap.objs.size + 1) scope.names (cloFrom X.env.cells scope.names [])) fp
  have pt := ht sd Hd sd.heap.objs.size (cellsFrom (sd.heap.objs.size + 1) scope.names (cloFrom X.env.cells scope.names [])) fp
  have pr := hr sd Hd sd.heap.objs.size (cellsFrom (sd.heap.objs.size + 1) scope.names (cloFrom X.env.cells scope.names [])) fp D
  generalize hce : compEnvC scope (cellsFrom (sd.heap.objs.size + 1) scope.names (cloFrom X.env.cells scope.names [])) sd.heap.objs.size X.env = ce at Ic pg pt pr ⊢
  have hloc : ce.locals = sd.heap.objs.size := by rw [← hce]; rfl
  generalize hsc : ({ sd with heap := pushCells (newD sd.heap) scope.names } : Shared) = sc at Ic ⊢
  have stc : tn 0 sc.heap := Tn.keep _ _ _ std fun _ _ _ e => by rw [← hsc]; exact pushCells_keeps _ _ _ _ (Heap.get?_push_of_some _ e)
  -- an iterator's objects stay apart
  have apart : ∀ {σ' : L2.St} {H' : Hp} {s' : Shared}, Inv (X.blk sd Hd scope ce fp) [] σ' H' s' → (∀ b ∈ fp, H' b = none) → ∀ b ∈ fp, FpOk (X.blk sd Hd scope ce fp) [] H' b := fun {σ' H' s'} I' hn b q =>
    ⟨hn b q, (I'.ok.exf b q).1, I'.ok.exfs b q, Or.inl q, fun x c e => (I'.ok.exf b q).2 x c e, fun p hp => nomatch hp⟩
  refine codeAny_compStart_dict ?G (Tn.self X.A 0 _ _ _ stc ?G)
  refine hl ce (.ref it) D _ (fun n s' => ∃ i H', Inv (X.blk sd Hd scope ce fp) [] (wipe σ (own.map (·.2))) H' s' ∧ tn i s'.heap ∧ (∀ b ∈ fp, H' b = none) ∧ W i n H') ?_ m0 sc ⟨0, Hd, Ic, stc, fun b q => (fp2 b q).1.1, w0⟩
  rintro n s1 ⟨i, H1, I1, st1, no1, w1⟩
  unfold Turn1
  rcases turns i n H1 w1 with ⟨stop, qq⟩ | ⟨go, Nx, down, step⟩
  · refine thnF (Tn.done (X.blk sd Hd scope ce fp) rfl rfl rfl hc i [] s1 _ H1 Nope I1 (apart I1 no1) st1 stop) fun _ s2 ⟨er, I2⟩ => ?_
    subst er
    have free : H1 sd.heap.objs.size = none := by
      have z : H1 ce.locals = none := I2.free
      rwa [hloc] at z
    obtain ⟨m, hns, _⟩ := I2.loc
    have hns : s2.heap.Ns ce.locals m := hns
    rw [hloc] at hns
    exact hRR D _ s2 m H1 (Id.call' (ch := fp) I2.os I2.base I2.hok I2.bare fun b q => let z := (fp2 b q).1.2; ⟨z.2.2.1, z.1, z.2.2.2.1, z.2.2.2.2⟩) qq hns (Id.fpOk (Nat.le_refl _) free)
  · refine thnF (Tn.item (X.blk sd Hd scope ce fp) rfl rfl rfl hc i [] s1 _ H1 Nope I1 (apart I1 no1) st1 go) fun _ s2 ⟨u, er, h2⟩ => ?_
    subst er
    refine thnF h2 fun _ s3 ⟨x, H3, I3, r3, y3, st3, no3⟩ => ?_
    refine thnF (pg.run _ s3 _ H3 x u _ (I3.pinned (apart I3 no3) (Tn.obj _ _ st3)) r3 (step x H3 y3)) fun _ s4 ⟨σ4, H4, I4, hw4, q4⟩ => ?_
    have close : ∀ σ' H' s', Inv (X.blk sd Hd scope ce fp) ([] ++ pinsAt fp s3.heap) σ' H' s' → σ'.length = σ4.length → (∀ (j : Nat) v, (wipe σ4 (own.map (·.2)))[j]? = some (some v) → σ'[j]? = some (some v)) → Nx H' →
        ∃ m, m < n ∧ ∃ i H', Inv (X.blk sd Hd scope ce fp) [] (wipe σ (own.map (·.2))) H' s' ∧ tn i s'.heap ∧ (∀ b ∈ fp, H' b = none) ∧ W i m H' := fun σ' H' s' I' el ag nx => by
      obtain ⟨m', lt, w'⟩ := down H' nx
      have pinned : ∀ b ∈ fp, ∀ o, s3.heap.get? b = some o → s'.heap.get? b = some o ∧ H' b = none := fun b q o e =>
        let z := I'.pin (b, o) (List.mem_append_right _ (List.mem_append_right _ (mem_pinsAt q e)))
        ⟨z.1, z.2.1⟩
      refine ⟨m', lt, i + 1, H', I'.unpinned.weak (by rw [← hw4, wipe_length, el]) (fun j v e => ag j v (by rw [hw4]; exact e)), Tn.keep _ _ _ st3 fun b q o e => (pinned b q o e).1, fun b q => ?_, w'⟩
      obtain ⟨o, e, _⟩ := Tn.obj _ _ st3 b q
      exact (pinned b q o e).2
    refine thnF (pt.run _ s4 σ4 H4 _ I4 q4) fun b s5 ⟨H5, I5, q5⟩ => ?_
    cases b with
    | false =>
      simp only [Bool.false_eq_true, if_false] at q5 ⊢
      exact close _ _ _ I5 rfl (fun j v e => (wipe_some e).1) q5
    | true =>
      simp only [if_true] at q5 ⊢
      exact pr _ σ4 H5 s5 Nx _ I5 q5 close
end
/-! one clause -/
/-- d[k] = v within a comprehension, as it is told -/
def PSt (X : Cx) (sr : Addr → V → V → Hp → (Hp → Prop) → Prop) : Prop := ∀ {pins : List (Addr × Obj)} {σ : L2.St} {H : Hp} {s : Shared} {D : Addr} {y v : V} {u r : Value} {N : Hp → Prop} {P : Shared → Prop}, Inv X pins σ H s → RelV y u → RelV v r → sr D y v H N →
  (∀ H' s', Inv X pins σ H' s' → N H' → P s') → wpAny (model X.prog X.w) X.A (dictSet D u r) (fun _ s' => P s') Nope s
def rest1 (X : Cx) (kx vx : Expr) (ce : Env) (D : Addr) (P : Shared → Prop) (s : Shared) : Prop :=
  wpAny (model X.prog X.w) X.A (eval kx ce) (fun kv s1 => wpAny (model X.prog X.w) X.A (eval vx ce) (fun vv s2 => wpAny (model X.prog X.w) X.A (dictSet D kv vv) (fun _ s3 => P s3) Nope s2) Nope s1) Nope s
def tr1 (tk tv : TE) (sr : Addr → V → V → Hp → (Hp → Prop) → Prop) (D : Addr) (σ : L2.St) (H : Hp) (N : Hp → Prop) : Prop := tk σ H fun y H1 => tv σ H1 fun z H2 => sr D y z H2 N
section
variable {X : Cx} {tg iter kx vx : Expr} {ifs : List Expr} {scope : Scope} {pos : Pos} {tk tv : TE} {sr : Addr → V → V → Hp → (Hp → Prop) → Prop} {vs : List Nat}
theorem loop_one : Loop1 X (.DictComp kx vx [⟨tg, iter, ifs, 0⟩] scope pos) tg ifs (rest1 X kx vx) := fun ce it D R J turn n s h => by
  refine compLoop_anyD J (fun n s hJ => thnF (turn n s hJ) fun r s1 h1 => ?_) n h
  cases r with
  | none => exact h1
  | some v =>
    refine thnF h1 fun _ s2 h2 => thnF h2 fun _ s3 h3 => thnF h3 fun b s4 h4 => ?_
    cases b with
    | false => exact h4
    | true =>
      simp only [if_true] at h4 ⊢
      exact thnF h4 fun _ s5 h5 => thnF h5 fun _ s6 h6 => thnF h6 fun _ s7 h7 => h7
theorem rest_one {ce : Env} {D : Addr} (hce : X.env = ce) (hk : PE X kx tk) (hv : PE X vx tv) (hst : PSt X sr) (hx : X.xe = Nope) : RestOk X (rest1 X kx vx ce D) (tr1 tk tv sr D) vs := fun pins σ H s N P I q fin => by
  subst hce
  have ek := hk.run pins s σ H _ I q
  rw [hx] at ek
  refine thnF ek fun kv s1 ⟨y, H1, I1, r1, q1⟩ => ?_
  have ev := hv.run pins s1 σ H1 _ I1 q1
  rw [hx] at ev
  exact thnF ev fun vv s2 ⟨z, H2, I2, r2, q2⟩ => hst I2 r1 r2 q2 fun H' s' I' n => fin σ H' s' I' rfl (fun j v e => (wipe_some e).1) n
end
/-! two clauses -/
section
variable {X : Cx} {t0 i0 t1 i1 kx vx : Expr} {ifs0 ifs1 : List Expr} {scope : Scope} {pos : Pos}
def rest2 (X : Cx) (e i1 : Expr) (ce : Env) (D : Addr) (P : Shared → Prop) (s : Shared) : Prop :=
  wpAny (model X.prog X.w) X.A (eval i1 ce) (fun x s1 => wpAny (model X.prog X.w) X.A (pyIter x) (fun it1 s2 => codeAny (model X.prog X.w) X.A (.compStart e 1 it1 (.ref D) ce) (fun r s' => match r with
    | .ok _ => P s'
    | .error _ => False) s2) Nope s1) Nope s
theorem first_turn {it acc : Value} {ce : Env} : compTurn (.DictComp kx vx [⟨t0, i0, ifs0, 0⟩, ⟨t1, i1, ifs1, 0⟩] scope pos) 0 it acc ce = (do
    standAt i0.pos
    match ← pyNext it with
    | none => pure (.done .next)
    | some v =>
      letOwnedTupleGo t0 it v
      assign t0 ce v
      let mut b := true
      for c in ifs0 do
        if b then b ← isTrue c ce (eval c ce)
      if b then
        let y ← eval i1 ce
        standAt i1.pos
        let y ← foldedSetIterable i1 ce y
        let _ ← runOwn (.compStart (.DictComp kx vx [⟨t0, i0, ifs0, 0⟩, ⟨t1, i1, ifs1, 0⟩] scope pos) 1 (← holding [y] (pyIter y)) acc ce) ce
      again (.compLoop (.DictComp kx vx [⟨t0, i0, ifs0, 0⟩, ⟨t1, i1, ifs1, 0⟩] scope pos) 0 it acc ce)) := by rfl
theorem second_turn {it : Value} {D : Addr} {ce : Env} : compTurn (.DictComp kx vx [⟨t0, i0, ifs0, 0⟩, ⟨t1, i1, ifs1, 0⟩] scope pos) 1 it (.ref D) ce = (do
    standAt i1.pos
    match ← pyNext it with
    | none => pure (.done .next)
    | some v =>
      letOwnedTupleGo t1 it v
      assign t1 ce v
      let mut b := true
      for c in ifs1 do
        if b then b ← isTrue c ce (eval c ce)
      if b then
        (do
          let y ← eval kx ce
          let z ← holding [y] (eval vx ce)
          standAt { kx.pos with endLine := vx.pos.endLine, endCol := vx.pos.endCol }
          holding [y, z] (dictSet D y z))
      again (.compLoop (.DictComp kx vx [⟨t0, i0, ifs0, 0⟩, ⟨t1, i1, ifs1, 0⟩] scope pos) 1 it (.ref D) ce)) := by rfl
theorem loop_two (hs1 : ∀ ce x, foldedSetIterable i1 ce x = pure x) : Loop1 X (.DictComp kx vx [⟨t0, i0, ifs0, 0⟩, ⟨t1, i1, ifs1, 0⟩] scope pos) t0 ifs0 (rest2 X (.DictComp kx vx [⟨t0, i0, ifs0, 0⟩, ⟨t1, i1, ifs1, 0⟩] scope pos) i1) := fun ce it D R J turn n s h => by
  refine codeAny_loop rfl J (fun n s hJ => ?_) n h
  show wpAny _ X.A ((compTurn (.DictComp kx vx [⟨t0, i0, ifs0, 0⟩, ⟨t1, i1, ifs1, 0⟩] scope pos) 0 it (.ref D) ce).onRaise fun x => do noteFrame x ce; theTreesLotGoes x) _ _ s
  refine wpAny_noted ?_
  rw [first_turn]
  refine wpAny_bind (wpAny_standAt (wpAny_bind (thnF (turn n s hJ) fun r s1 h1 => ?_)))
  cases r with
  | none => exact wpAny_pure h1
  | some v =>
    refine wpAny_bind (thnF h1 fun _ s2 h2 => wpAny_bind (thnF h2 fun _ s3 h3 => wpAny_bind (thnF h3 fun b s4 h4 => ?_)))
    cases b with
    | false => exact wpAny_pure ⟨rfl, h4⟩
    | true =>
      simp only [if_true] at h4 ⊢
      refine wpAny_bind (thnF h4 fun x s5 h5 => wpAny_bind (wpAny_standAt (wpAny_bind (wpAny_of_eq (hs1 ce x) (wpAny_bind (wpAny_holding (thnF h5 fun j s6 h6 => wpAny_bind (wpAny_runOwn ?_))))))))
      rw [Around.mark_none]
      refine codeAny_mono h6 fun r s' q => ?_
      cases r with
      | ok _ => first | exact wpAny_pure ⟨rfl, q⟩ | exact wpAny_bind (wpAny_pure (wpAny_pure ⟨rfl, q⟩))
      | error _ => exact q.elim
/-- the loop of the second clause -/
theorem loop_in {ce : Env} {it : Value} {D : Addr} {R : Result → Shared → Prop} {J : Nat → Shared → Prop} (turn : ∀ n s, J n s → Turn1 X t1 ifs1 ce it R (rest1 X kx vx ce D) J n s) (n : Nat) (s : Shared) (h : J n s) :
    codeAny (model X.prog X.w) X.A (.compLoop (.DictComp kx vx [⟨t0, i0, ifs0, 0⟩, ⟨t1, i1, ifs1, 0⟩] scope pos) 1 it (.ref D) ce) R s := by
  refine codeAny_loop rfl J (fun n s hJ => ?_) n h
  show wpAny _ X.A ((compTurn (.DictComp kx vx [⟨t0, i0, ifs0, 0⟩, ⟨t1, i1, ifs1, 0⟩] scope pos) 1 it (.ref D) ce).onRaise fun x => do noteFrame x ce; theTreesLotGoes x) _ _ s
  refine wpAny_noted ?_
  rw [second_turn]
  refine wpAny_bind (wpAny_standAt (wpAny_bind (thnF (turn n s hJ) fun r s1 h1 => ?_)))
  cases r with
  | none => exact wpAny_pure h1
  | some v =>
    refine wpAny_bind (thnF h1 fun _ s2 h2 => wpAny_bind (thnF h2 fun _ s3 h3 => wpAny_bind (thnF h3 fun b s4 h4 => ?_)))
    cases b with
    | false => exact wpAny_pure ⟨rfl, h4⟩
    | true =>
      simp only [if_true] at h4 ⊢
      exact wpAny_bind (wpAny_bind (thnF h4 fun y s5 h5 => wpAny_bind (wpAny_holding (thnF h5 fun z s6 h6 => wpAny_bind (wpAny_standAt (wpAny_holding (thnF h6 fun _ s7 h7 => wpAny_pure ⟨rfl, h7⟩)))))))
theorem start_in {ce : Env} {it acc : Value} {R : Result → Shared → Prop} {s : Shared} (h0 : codeAny (model X.prog X.w) X.A (.compLoop (.DictComp kx vx [⟨t0, i0, ifs0, 0⟩, ⟨t1, i1, ifs1, 0⟩] scope pos) 1 it acc ce) R s)
    (h : wpAny (model X.prog X.w) X.A (pyIter it) (fun j s' => codeAny (model X.prog X.w) X.A (.compLoop (.DictComp kx vx [⟨t0, i0, ifs0, 0⟩, ⟨t1, i1, ifs1, 0⟩] scope pos) 1 j acc ce) R s') (notedBy (model X.prog X.w) X.A ce fun x s' => R (.error x) s') s) :
    codeAny (model X.prog X.w) X.A (.compStart (.DictComp kx vx [⟨t0, i0, ifs0, 0⟩, ⟨t1, i1, ifs1, 0⟩] scope pos) 1 it acc ce) R s := by
  refine codeAny_of_tree ?_
  show wpAny _ _ ((compStart (.DictComp kx vx [⟨t0, i0, ifs0, 0⟩, ⟨t1, i1, ifs1, 0⟩] scope pos) 1 it acc ce).onRaise fun x => do noteFrame x ce; standAt theWindowsPlace) _ _ s
  refine wpAny_notedAt ?_
  unfold compStart
  show wpAny _ _ (ask >>= _) _ _ s
  refine wpAny_bind (wpAny_askSetting (wpAny_ite ?_))
  split
  · first
      | exact wpAny_bind (wpAny_pure (wpAny_pure (And.intro rfl h0)))
      | exact wpAny_pure (And.intro rfl h0)
  · refine wpAny_bind (wpAny_rule ?_)
    show wpAny _ _ (standAt i1.pos >>= _) _ _ s
    exact wpAny_bind (wpAny_standAt (wpAny_bind (wpAny_mono h (fun _ _ q => wpAny_pure (And.intro rfl q)) fun _ _ x => x)))
def tr2 (wi1 : TI) (g1 : TG) (tt1 : TT) (tk tv : TE) (sr : Addr → V → V → Hp → (Hp → Prop) → Prop) (vs1 : List Nat) (D : Addr) (σ : L2.St) (H : Hp) (N : Hp → Prop) : Prop := wi1 σ H fun J H1 => ∃ W : Nat → Nat → Hp → Prop, (∃ m, W 0 m H1) ∧ ∀ j k H, W j k H →
  (J.stop j H ∧ N H) ∨ (J.go j H ∧ ∃ Nx : Hp → Prop, (∀ H', Nx H' → ∃ k', k' < k ∧ W (j + 1) k' H') ∧ ∀ x H', J.yld j H x H' → g1 x (wipe σ vs1) H' fun σ2 H2 => wipe σ2 vs1 = wipe σ vs1 ∧ tt1 σ2 H2 fun b H3 =>
    if b = true then tr1 tk tv sr D σ2 H3 Nx else Nx H3)
theorem rest_two {ce : Env} {D : Addr} {wi1 : TI} {g1 : TG} {tt1 : TT} {tk tv : TE} {sr : Addr → V → V → Hp → (Hp → Prop) → Prop} {vs vs1 : List Nat} (hc : X.calm = true) (hce : X.env = ce) (hv : ∀ i ∈ vs1, i ∈ vs) (hi : PI X t1 i1 wi1) (hg : PG X t1 g1) (ht : PTs X ifs1 tt1) (hk : PE X kx tk) (hx : PE X vx tv) (hst : PSt X sr) (hxe : X.xe = Nope) :
    RestOk X (rest2 X (.DictComp kx vx [⟨t0, i0, ifs0, 0⟩, ⟨t1, i1, ifs1, 0⟩] scope pos) i1 ce D) (tr2 wi1 g1 tt1 tk tv sr vs1 D) vs := fun pins σ H s N P I q fin => by
  subst hce
  have ei := hi.run pins s σ H _ I q
  rw [hxe] at ei
  refine thnF ei fun _ sa ha => thnF ha fun _ sb ⟨it, fp, tn, J, Hb, ev, Ib, Tn, stb, fpb, W, ⟨m0, w0⟩, turns⟩ => ?_
  subst ev
  have apart : ∀ {H' : Hp}, (∀ b ∈ fp, H' b = none) → ∀ b ∈ fp, FpOk X pins H' b := fun no b q => ⟨no b q, (fpb b q).2⟩
  have loop : codeAny (model X.prog X.w) X.A (.compLoop (.DictComp kx vx [⟨t0, i0, ifs0, 0⟩, ⟨t1, i1, ifs1, 0⟩] scope pos) 1 (.ref it) (.ref D) X.env) (fun r s' => match r with
      | .ok _ => P s'
      | .error _ => False) sb := by
    refine loop_in (J := fun k s' => ∃ j H', Inv X pins (wipe σ vs1) H' s' ∧ tn j s'.heap ∧ (∀ b ∈ fp, H' b = none) ∧ W j k H') ?_ m0 sb ⟨0, Hb, Ib.weak (wipe_length _ _) (fun j v e => (wipe_some e).1), stb, fun b q => (fpb b q).1, w0⟩
    rintro k s1 ⟨j, H1, I1, st1, no1, w1⟩
    unfold Turn1
    rcases turns j k H1 w1 with ⟨stop, nx⟩ | ⟨go, Nx, down, step⟩
    · refine thnF (Tn.done X rfl rfl rfl hc j pins s1 (wipe σ vs1) H1 Nope I1 (apart no1) st1 stop) fun _ s2 ⟨er, I2⟩ => ?_
      subst er
      refine fin _ _ _ I2 (wipe_length _ _) (fun j v e => ?_) nx
      obtain ⟨e1, e2⟩ := wipe_some e
      rw [wipe_out fun z => e2 (hv j z)]
      exact e1
    · refine thnF (Tn.item X rfl rfl rfl hc j pins s1 (wipe σ vs1) H1 Nope I1 (apart no1) st1 go) fun _ s2 ⟨u, er, h2⟩ => ?_
      subst er
      refine thnF h2 fun _ s3 ⟨x, H3, I3, r3, y3, st3, no3⟩ => ?_
      have eg := hg.run _ s3 (wipe σ vs1) H3 x u _ (I3.pinned (apart no3) (Tn.obj _ _ st3)) r3 (step x H3 y3)
      rw [hxe] at eg
      refine thnF eg fun _ s4 ⟨σ4, H4, I4, hw4, q4⟩ => ?_
      have close : ∀ σ' H' s', Inv X (pins ++ pinsAt fp s3.heap) σ' H' s' → σ'.length = σ4.length → (∀ (j : Nat) v, (wipe σ4 vs1)[j]? = some (some v) → σ'[j]? = some (some v)) → Nx H' →
          ∃ m, m < k ∧ ∃ j H', Inv X pins (wipe σ vs1) H' s' ∧ tn j s'.heap ∧ (∀ b ∈ fp, H' b = none) ∧ W j m H' := fun σ' H' s' I' el ag nx => by
        obtain ⟨m', lt, w'⟩ := down H' nx
        have pinned : ∀ b ∈ fp, ∀ o, s3.heap.get? b = some o → s'.heap.get? b = some o ∧ H' b = none := fun b q o e =>
          let z := I'.pin (b, o) (List.mem_append_right _ (List.mem_append_right _ (mem_pinsAt q e)))
          ⟨z.1, z.2.1⟩
        refine ⟨m', lt, j + 1, H', I'.unpinned.weak (by rw [← hw4, wipe_length, el]) (fun j v e => ag j v (by rw [hw4]; exact e)), Tn.keep _ _ _ st3 fun b q o e => (pinned b q o e).1, fun b q => ?_, w'⟩
        obtain ⟨o, e, _⟩ := Tn.obj _ _ st3 b q
        exact (pinned b q o e).2
      have et := ht.run _ s4 σ4 H4 _ I4 q4
      rw [hxe] at et
      refine thnF et fun b s5 ⟨H5, I5, q5⟩ => ?_
      cases b with
      | false =>
        simp only [Bool.false_eq_true, if_false] at q5 ⊢
        exact close _ _ _ I5 rfl (fun j v e => (wipe_some e).1) q5
      | true =>
        simp only [if_true] at q5 ⊢
        exact rest_one (vs := vs1) rfl hk hx hst hxe _ σ4 H5 s5 Nx _ I5 q5 close
  exact start_in loop (Tn.self X.A 0 _ _ _ stb loop)
end
end DL
namespace DL
open PySem PySem.Spec PyProof.Rows L2
/-! ### whole numbers as keys -/
def isI (d : D) (i : Int) : Bool := match d, i with
  | .int (.ofNat a), .ofNat b => Nat.beq a b
  | .int (.negSucc a), .negSucc b => Nat.beq a b
  | _, _ => false
theorem isI_int {j i : Int} : isI (.int j) i = decide (j = i) := by
  cases j with
  | ofNat a => cases i with
    | ofNat b =>
      show Nat.beq a b = _
      by_cases e : a = b
      · subst e
        rw [decide_eq_true rfl]
        exact Nat.beq_refl a
      · rw [decide_eq_false fun z => e (Int.ofNat.inj z)]
        exact Bool.eq_false_iff.mpr fun z => e (Nat.eq_of_beq_eq_true z)
    | negSucc b => exact (decide_eq_false (fun e => nomatch e)).symm
  | negSucc a => cases i with
    | ofNat b => exact (decide_eq_false (fun e => nomatch e)).symm
    | negSucc b =>
      show Nat.beq a b = _
      by_cases e : a = b
      · subst e
        rw [decide_eq_true rfl]
        exact Nat.beq_refl a
      · rw [decide_eq_false fun z => e (Int.negSucc.inj z)]
        exact Bool.eq_false_iff.mpr fun z => e (Nat.eq_of_beq_eq_true z)
def lookI : List (D × D) → Int → Option D
  | [], _ => none
  | p :: r, i => if isI p.1 i = true then some p.2 else lookI r i
def anyI : List (D × D) → Int → Bool
  | [], _ => false
  | p :: r, i => if isI p.1 i = true then true else anyI r i
def setI : List (D × D) → Int → D → List (D × D)
  | [], _, _ => []
  | p :: r, i, y => (if isI p.1 i = true then (p.1, y) else p) :: setI r i y
def putI (ds : List (D × D)) (i : Int) (y : D) : List (D × D) := if anyI ds i = true then setI ds i y else ds ++ [(.int i, y)]
section
variable [KFrag] {H : Hp} {A : Addr → Prop}
theorem key_int {a i : Int} : ((Sum.inl a : Key) = .inl i) ↔ a = i := ⟨fun e => Sum.inl.inj e, fun e => by rw [e]⟩
theorem IKs.len : ∀ {ks : List (Key × V)} {ds : List (D × D)}, IKs H A ks ds → ks.length = ds.length
  | _, _, .nil => rfl
  | _, _, .cons _ t => by rw [List.length_cons, List.length_cons, IKs.len t]
theorem IKs.look : ∀ {ks : List (Key × V)} {ds : List (D × D)} {i : Int}, IKs H A ks ds → (lookI ds i = none ∧ valV ks (.inl i) = none) ∨ ∃ v y, lookI ds i = some y ∧ valV ks (.inl i) = some v ∧ Fz H A v y
  | _, _, i, .nil => .inl ⟨rfl, rfl⟩
  | _, _, i, .cons (i := a) (v := v) (ks := ks) (y := y) (ds := ds) f t => by
    by_cases e : a = i
    · refine .inr ⟨v, y, ?_, valV_pos (key_int.mpr e), f⟩
      simp [lookI, isI_int, e]
    · have h1 : lookI ((.int a, y) :: ds) i = lookI ds i := by simp [lookI, isI_int, e]
      have h2 : valV ((Sum.inl a, v) :: ks) (.inl i) = valV ks (.inl i) := valV_neg (fun z => e (key_int.mp z))
      rw [h1, h2]
      exact IKs.look t
theorem IKs.any : ∀ {ks : List (Key × V)} {ds : List (D × D)} {i : Int}, IKs H A ks ds → (ks.any fun kv => decide (kv.1 = .inl i)) = anyI ds i
  | _, _, i, .nil => rfl
  | _, _, i, .cons (i := a) (v := v) (ks := ks) (y := y) (ds := ds) f t => by
    rw [List.any_cons, IKs.any t]
    by_cases e : a = i
    · simp [anyI, isI_int, e]
    · have : ¬ (Sum.inl a : Key) = .inl i := fun z => e (key_int.mp z)
      simp [anyI, isI_int, e, this]
theorem IKs.set {v : V} {y : D} (f : Fz H A v y) : ∀ {ks : List (Key × V)} {ds : List (D × D)} {i : Int}, IKs H A ks ds → IKs H A (ks.map fun kv => if kv.1 = .inl i then (kv.1, v) else kv) (setI ds i y)
  | _, _, i, .nil => .nil
  | _, _, i, .cons (i := a) (v := v0) (ks := ks) (y := y0) (ds := ds) f0 t => by
    rw [List.map_cons]
    unfold setI
    by_cases e : a = i
    · have h1 : isI (.int a) i = true := by simp [isI_int, e]
      simp only [key_int, e, if_true, h1]
      subst e
      simp only [h1, if_true]
      exact .cons f (IKs.set f t)
    · have h1 : isI (.int a) i = false := by simp [isI_int, e]
      simp only [key_int, e, if_false, h1, Bool.false_eq_true]
      exact .cons f0 (IKs.set f t)
theorem IKs.app : ∀ {ks : List (Key × V)} {ds : List (D × D)} {v : V} {y : D} {i : Int}, IKs H A ks ds → Fz H A v y → IKs H A (ks ++ [(.inl i, v)]) (ds ++ [(.int i, y)])
  | _, _, _, _, _, .nil, f => .cons f .nil
  | _, _, _, _, _, .cons g t, f => .cons g (IKs.app t f)
theorem IKs.put {ks : List (Key × V)} {ds : List (D × D)} {v : V} {y : D} {i : Int} (h : IKs H A ks ds) (f : Fz H A v y) : IKs H A (putK ks (.inl i) v) (putI ds i y) := by
  unfold putK putI
  rw [h.any]
  split
  · exact h.set f
  · exact h.app f
end
theorem setI_len : ∀ {ds : List (D × D)} {i : Int} {y : D}, (setI ds i y).length = ds.length
  | [], _, _ => rfl
  | p :: r, _, _ => by unfold setI; rw [List.length_cons, List.length_cons, setI_len]
theorem putI_len {ds : List (D × D)} {i : Int} {y : D} : (putI ds i y).length ≤ ds.length + 1 := by
  unfold putI
  split
  · rw [setI_len]; omega
  · simp
theorem putD_len : ∀ {ds : List (D × D)} {k y : D}, (putD ds k y).length ≤ ds.length + 1
  | [], _, _ => by simp [putD]
  | p :: r, k, y => by
    unfold putD
    rw [eqF_eq]
    split
    · simp
    · have := putD_len (ds := r) (k := k) (y := y)
      simp only [List.length_cons]
      omega
/-! ### the dict that a comprehension makes -/
def stepX (ik : Bool) (acc : List (D × D)) (d : D) : List (D × D) := match d with
  | .tuple [k, v] => if ik = true then (match k with
    | .int i => putI acc i v
    | _ => acc) else putD acc k v
  | _ => acc
def mkX (ik : Bool) (ds : List D) : List (D × D) := ds.foldl (stepX ik) []
def dX (ik : Bool) (ds : List D) : List (D × D) := if ik = true then mark :: mkX ik ds else mkX ik ds
/-- where it goes: a cell more, or a dict that stays -/
abbrev Out := List (D × D) → CS → R W
def outC : Out := fun c s => .ok (.c s.length) (s ++ [.dct c])
def outF : Out := fun c s => .ok (.fd c) s
theorem stepX_len {ik : Bool} {acc : List (D × D)} {d : D} : (stepX ik acc d).length ≤ acc.length + 1 := by
  unfold stepX
  split
  · split
    · split
      · exact putI_len
      · omega
    · exact putD_len
  · omega
theorem foldX_len {ik : Bool} : ∀ {ds : List D} {acc : List (D × D)}, (ds.foldl (stepX ik) acc).length ≤ acc.length + ds.length
  | [], acc => by simp
  | d :: ds, acc => by
    rw [List.foldl_cons]
    have h1 := foldX_len (ik := ik) (ds := ds) (acc := stepX ik acc d)
    have h2 := stepX_len (ik := ik) (acc := acc) (d := d)
    simp only [List.length_cons]
    omega
theorem mkX_len {ik : Bool} {ds : List D} : (mkX ik ds).length ≤ ds.length := by
  have := foldX_len (ik := ik) (ds := ds) (acc := [])
  simpa [mkX] using this
theorem mkX_snoc {ik : Bool} {ds : List D} {d : D} : mkX ik (ds ++ [d]) = stepX ik (mkX ik ds) d := by
  unfold mkX
  rw [List.foldl_append]
  rfl
/-- a pair whose first is a key -/
def keyX (ik : Bool) (k : D) : Bool := if ik = true then (match k with
  | .int _ => true
  | _ => false) else keyOk k
def pairX (ik : Bool) (w u : W) (s : CS) : R W := match w, u with
  | .d k, .d v => if keyX ik k = true then .ok (.d (.tuple [k, v])) s else .bad
  | _, _ => .bad
def fPr (ik : Bool) (fk fv : En → CS → R W) (ρ : En) (s : CS) : R W := (fk ρ s).bind0 fun w s => (fv ρ s).bind0 fun u s => pairX ik w u s
def endX (out : Out) (ik : Bool) (pre : List D) (r : R (List D)) : R W := r.bind0 fun ys s => out (dX ik (pre ++ ys)) s
def fDc (out : Out) (ik : Bool) (vs : List Nat) (fi : En → CS → R (List D)) (h : W → En → Option En) (tt : En → CS → R Bool) (fk fv : En → CS → R W) (ρ : En) (s : CS) : R W :=
  (fi ρ s).bind fun items s => if items.length ≤ line then endX out ik [] (compL h tt (fPr ik fk fv) (wipeE ρ vs) items s) else .bad
def fDc2 (out : Out) (ik : Bool) (vs vs1 : List Nat) (fi : En → CS → R (List D)) (h : W → En → Option En) (tt : En → CS → R Bool) (fi1 : En → CS → R (List D)) (h1 : W → En → Option En) (tt1 : En → CS → R Bool) (fk fv : En → CS → R W) (ρ : En) (s : CS) : R W :=
  (fi ρ s).bind fun items s => if items.length ≤ 4096 then endX out ik [] (comp2 vs1 h tt fi1 h1 tt1 (fPr ik fk fv) (wipeE ρ vs) items s) else .bad
section
variable [KFrag]
def Ob (ik : Bool) (H : Hp) (A : Addr → Prop) (D : Addr) (ds : List PyData) : Prop := (ik = true ∧ ∃ ks, H D = some (.dK ks) ∧ IKs H A ks (mkX ik ds)) ∨ (ik = false ∧ ∃ es, H D = some (DObj KFrag.w D es) ∧ KPs H A es (mkX ik ds))
def obX (ik : Bool) (D : Addr) : HO := if ik = true then .dK [] else DObj KFrag.w D []
def srX (ik : Bool) (D : Addr) (y v : V) (H : Hp) (N : Hp → Prop) : Prop := (ik = true ∧ ∃ ks i, H D = some (.dK ks) ∧ y = .int i ∧ ks.length < sizeLine ∧ N (upd H D (.dK (putK ks (.inl i) v)))) ∨
  (ik = false ∧ ∃ A es ds d z, H D = some (DObj KFrag.w D es) ∧ KPs H A es ds ∧ Fz H A y d ∧ keyOk d = true ∧ Fz H A v z ∧ ds.length < line ∧ ∀ es', KPs H A es' (putD ds d z) → N (upd H D (DObj KFrag.w D es')))
theorem psX {X : Cx} [HK X] (hw : X.w = KFrag.w) (hu : X.A.units + 64 < cLine) {ik : Bool} : PSt X (srX ik) := fun {pins σ H s D y v u r N P} I ry rv q fin => by
  rcases q with ⟨_, ks, i, e, rfl, hz, n⟩ | ⟨_, A, es, ds, d, z, e, kp, f, hk, fv, hz, n⟩
  · exact d_dictSet I e hz (k := .inl i) ry rv fun s' I' => fin _ s' I' n
  · rw [← hw] at e n
    obtain ⟨b, k, rfl, rfl, e1, e2, hi⟩ := n_key I f ry hk
    obtain ⟨hl, hs, xs, rel, dd⟩ := dct_of I.hok (kin I) e kp
    have hle : es.length = ds.length := kp.len
    have hxs : xs.length ≤ sizeLine := by rw [← Paired.length rel]; exact hl
    obtain ⟨_, _, _, _, _, _, _, _, hn⟩ := id dd
    obtain ⟨es', k1, k2, k3⟩ := put_kp kp rel hn e1 e2 f fv rv
    refine wpAny_dictSet_heap (hsz := hxs) (by show X.A.units + 8 < cLine; omega) hi dd fun h' dd' hsb => fin _ _ ?_ (n es' k1)
    have he : ∃ q, h'.get? D = some q := let ⟨q, _, _, hq, _⟩ := dd'; ⟨q, hq⟩
    refine d_write I (by rw [e]; exact True.intro) hsb he (dct_ok ?_ hs k2 dd')
    rw [sizeLine_eq]
    unfold line at hz
    omega
theorem obX_ok {X : Cx} (hw : X.w = KFrag.w) {ik : Bool} (h : Heap) (H' : Hp) (hb : sysModules < h.objs.size) : ObjOk X.prog X.w H' (newD h) h.objs.size (obX ik h.objs.size) := by
  unfold obX
  split
  · exact dk_empty h hb
  · rw [← hw]
    exact dobj_empty h hb
/-! while it is made -/
structure MkX (ik : Bool) (B : Addr → Prop) (μ1 : List Addr) (s1 : CS) (H1 : Hp) (D : Addr) (μ : List Addr) (s : CS) (H : Hp) (ds : List PyData) : Prop where
  st : Stp μ1 s1 H1 μ s H
  sr : SR (And1 B D) μ s H
  ob : Ob ik H (Av (And1 B D) μ s) D ds
section
variable {out : Out} {ik : Bool} {T : TX} {Wx : WXc} {B : Addr → Prop} {μ1 μ μ' : List Addr} {s1 s s' : CS} {H1 H H' : Hp} {D : Addr} {ds : List PyData} {σ : L2.St} {Q : VK}
theorem MkX.kp (m : MkX ik B μ1 s1 H1 D μ s H ds) (hD : H1 D = none) : Kp H1 H (Av B μ1 s1) (Av (And1 B D) μ s) :=
  ⟨m.st.kp.keep, fun a o e n z => z.elim (fun z => z.elim (fun z => n (.inl z)) fun z => by rw [z, hD] at e; cases e) fun z => m.st.kp.new a o e n (.inr z)⟩
theorem MkX.step (m : MkX ik B μ1 s1 H1 D μ s H ds) (st : Stp μ s H μ' s' H') (sr : SR (And1 B D) μ' s' H') : MkX ik B μ1 s1 H1 D μ' s' H' ds := by
  have kd : ∀ o, H D = some o → H' D = some o := fun o e => st.keep _ _ e fun ⟨n, _, z, _⟩ => m.sr.nb n D z (.inr rfl)
  refine ⟨m.st.trans st, sr, ?_⟩
  rcases m.ob with ⟨hi, ks, e, k⟩ | ⟨hi, es, e, k⟩
  · exact .inl ⟨hi, ks, kd _ e, k.kp st.kp⟩
  · exact .inr ⟨hi, es, kd _ e, k.kp st.kp⟩
theorem MkX.start (r : SR B μ s H) (hD : H D = none) : MkX ik B μ s H D μ s (upd H D (obX ik D)) [] := by
  refine ⟨Stp.same (same_upd hD), r.on hD, ?_⟩
  cases ik with
  | true => exact .inl ⟨rfl, [], upd_same, .nil⟩
  | false => exact .inr ⟨rfl, [], upd_same, .nil⟩
theorem MkX.put1 (m : MkX ik B μ1 s1 H1 D μ s H ds) (hD : H1 D = none) {o : HO} {es : List PyData} (ob : Ob ik (upd H D o) (Av (And1 B D) μ s) D es) : MkX ik B μ1 s1 H1 D μ s (upd H D o) es := by
  refine ⟨⟨m.st.pre, fun a x ea n => ?_, fun a ea => ?_, m.st.new⟩, m.sr.updB (.inr rfl), ob⟩
  · rw [upd_ne (fun z => by rw [z, hD] at ea; cases ea)]
    exact m.st.keep a x ea n
  · rw [upd_ne (fun z => by rw [z] at ea; exact ea hD)]
    exact m.st.th a ea
theorem MkX.push (m : MkX ik B μ1 s1 H1 D μ s H ds) (hD : H1 D = none) {y v : V} {k z : PyData} {N : Hp → Prop} (fk : Fz H (Av (And1 B D) μ s) y k) (fz : Fz H (Av (And1 B D) μ s) v z) (hk : keyX ik k = true) (hz : ds.length < line)
    (n : ∀ o, MkX ik B μ1 s1 H1 D μ s (upd H D o) (ds ++ [.tuple [k, z]]) → N (upd H D o)) : srX ik D y v H N := by
  have hl : (mkX ik ds).length < line := Nat.lt_of_le_of_lt mkX_len hz
  rcases m.ob with ⟨hi, ks, e, kp⟩ | ⟨hi, es, e, kp⟩
  · subst hi
    unfold keyX at hk
    simp only [if_true] at hk
    split at hk
    · rename_i i _
      cases fk
      refine .inl ⟨rfl, ks, _, e, rfl, by rw [kp.len, line_eq]; exact hl, n _ (m.put1 hD (.inl ⟨rfl, _, upd_same, ?_⟩))⟩
      rw [mkX_snoc]
      exact (kp.put fz).kp (kp_upd (.inl (.inr rfl)))
    · cases hk
  · subst hi
    refine .inr ⟨rfl, _, es, _, k, z, e, kp, fk, hk, fz, hl, fun es' kp' => n _ (m.put1 hD (.inr ⟨rfl, _, upd_same, ?_⟩))⟩
    rw [mkX_snoc]
    exact kp'.kp (kp_upd (.inl (.inr rfl)))
theorem MkX.done (m : MkX ik B μ1 s1 H1 D μ s H ds) (r1 : SR B μ1 s1 H1) (hD : H1 D = none) (q : Fin (a := W) T Wx B μ1 s1 H1 σ Q (outC (dX ik ds) s)) : Q (.ref D) H := by
  have q : Fin (a := W) T Wx B μ1 s1 H1 σ Q (.ok (.c s.length) (s ++ [.dct (dX ik ds)])) := q
  have r := m.sr
  have hm : ∀ (n : Nat), μ[n]? ≠ some D := fun n z => r.nb n D z (.inr rfl)
  have thD : H D ≠ none := r.bt D (.inr rfl)
  have un : ∀ a, Av B (μ ++ [D]) (s ++ [.dct (dX ik ds)]) a → Av (And1 B D) μ s a := fun a z => by
    rcases z with z | z
    · exact .inl (.inl z)
    · rcases lv_last r.len z with z | z
      · exact .inr z
      · exact .inl (.inr z)
  have kk : Kp H H (Av (And1 B D) μ s) (Av B (μ ++ [D]) (s ++ [.dct (dX ik ds)])) := ⟨fun _ _ e _ => e, fun a _ _ n z => n (un a z)⟩
  refine q (.ref D) (μ ++ [D]) H ⟨?_, fun a o e n => m.st.keep a o e n, fun a e => m.st.th a e, fun a z => ?_⟩ ⟨by simp [r.len], fun n k a e1 e2 => ?_, fun n a e => ?_, fun n a e z => ?_, fun a z => r.bt a (.inl z), fun n a c e1 e2 => ?_⟩ ⟨D, rfl, ?_⟩
  · obtain ⟨t, rfl⟩ := m.st.pre
    exact ⟨t ++ [D], by simp⟩
  · rcases lv_last r.len z with z | z
    · exact m.st.new a z
    · exact .inr (by rw [z]; exact hD)
  · rcases get_last e1 with z1 | ⟨z1, y1⟩
    · rcases get_last e2 with z2 | ⟨z2, y2⟩
      · exact r.inj n k a z1 z2
      · exact absurd (by rw [← y2]; exact z1) (hm n)
    · rcases get_last e2 with z2 | ⟨z2, y2⟩
      · exact absurd (by rw [← y1]; exact z2) (hm k)
      · rw [z1, z2]
  · rcases get_last e with z | ⟨_, z⟩
    · exact r.th n a z
    · rw [z]; exact thD
  · rcases get_last e with y | ⟨_, y⟩
    · exact r.nb n a y (.inl z)
    · exact r1.bt a z (by rw [y]; exact hD)
  · rcases get_last e1 with z | ⟨zn, z⟩
    · rcases get_last e2 with y | ⟨y, _⟩
      · exact ((r.cell n a _ z y).kp kk fun o e => e).mu fun m b e => by rw [List.getElem?_append_left (List.getElem?_eq_some_iff.mp e).1]; exact e
      · have := (List.getElem?_eq_some_iff.mp z).1
        have := r.len
        omega
    · rcases get_last e2 with y | ⟨_, y⟩
      · have := (List.getElem?_eq_some_iff.mp y).1
        have := r.len
        omega
      · subst z
        subst y
        unfold dX
        rcases m.ob with ⟨hi, ks, e, k⟩ | ⟨hi, es, e, k⟩
        · subst hi
          exact .inr ⟨ks, _, rfl, e, k.kp kk⟩
        · subst hi
          exact .inl ⟨es, e, k.kp kk⟩
  · rw [← r.len]
    simp
theorem MkX.doneF (m : MkX ik B μ1 s1 H1 D μ s H ds) (r1 : SR B μ1 s1 H1) (hD : H1 D = none) (q : Fin (a := W) T Wx B μ1 s1 H1 σ Q (outF (dX ik ds) s)) : Q (.ref D) H ∨ ∃ a u, V.ref D = .ref a ∧ H a = some u ∧ Mut (some u) ∧ ∀ od, Q (.ref D) (upd H a (.frz od u)) := by
  have q : Fin (a := W) T Wx B μ1 s1 H1 σ Q (.ok (.fd (dX ik ds)) s) := q
  have r := m.sr
  have na : ¬ Av B μ s D := fun z => z.elim (fun z => r1.bt D z hD) fun ⟨n, _, z, _⟩ => r.nb n D z (.inr rfl)
  have kk : ∀ o, Kp H (upd H D o) (Av (And1 B D) μ s) (Av B μ s) := fun o => ⟨fun a x e n => by rw [upd_ne (fun z => n (by rw [z]; exact .inl (.inr rfl)))]; exact e, fun a _ _ n z => n (z.elim (fun z => .inl (.inl z)) .inr)⟩
  have st : ∀ o, Stp μ1 s1 H1 μ s (upd H D o) := fun o => ⟨m.st.pre, fun a x ea n => by rw [upd_ne (fun z => by rw [z, hD] at ea; cases ea)]; exact m.st.keep a x ea n, fun a ea => by rw [upd_ne (fun z => by rw [z] at ea; exact ea hD)]; exact m.st.th a ea, m.st.new⟩
  rcases m.ob with ⟨hi, ks, e, k⟩ | ⟨hi, es, e, k⟩
  · subst hi
    exact .inr ⟨D, .dK ks, rfl, e, True.intro, fun od => q (.ref D) μ _ (st _) (r.updB (.inr rfl)).off (.inr ⟨D, od, ks, _, rfl, rfl, upd_same, na, k.kp (kk _)⟩)⟩
  · subst hi
    exact .inr ⟨D, _, rfl, e, True.intro, fun od => q (.ref D) μ _ (st _) (r.updB (.inr rfl)).off (.inl ⟨D, od, es, rfl, upd_same, na, k.kp (kk _)⟩)⟩
theorem ER.updX {ρ : En} (e : ER (And1 B D) μ s H σ ρ) (hD : H1 D = none) (m : MkX ik B μ1 s1 H1 D μ s H ds) (o : HO) : ER (And1 B D) μ s (upd H D o) σ ρ := by
  refine ⟨e.len, fun i w z => ?_⟩
  obtain ⟨v, e1, e2⟩ := e.at_ i w z
  refine ⟨v, e1, ?_⟩
  cases w with
  | d x => exact Fz.kp (kp_upd (.inl (.inr rfl))) e2
  | c n => exact e2
  | sc ns =>
    obtain ⟨b, eb, r⟩ := e2
    rcases r with ⟨u, q, n⟩ | r
    · refine ⟨b, eb, .inl ⟨u, ?_, n⟩⟩
      rw [upd_ne (fun z => ?_)]
      · exact q
      · subst z
        rcases m.ob with ⟨_, ks, e, _⟩ | ⟨_, es, e, _⟩ <;> (rw [e] at q; first | cases q | (unfold DObj at q; cases q))
    · exact ⟨b, eb, .inr r⟩
  | fd ns => exact FD.kp (kp_upd (.inl (.inr rfl))) e2
  | rg lo hi => exact FR.kp (kp_upd (.inl (.inr rfl))) e2
theorem bind0_bind0 {a b c : Type} {r : R a} {f : a → CS → R b} {g : b → CS → R c} : (r.bind0 f).bind0 g = r.bind0 fun x s => (f x s).bind0 g := by
  cases r <;> rfl
theorem endX_bind {a : Type} {pre : List PyData} {r : R a} {k : a → CS → R (List PyData)} : endX out ik pre (r.bind0 k) = r.bind0 fun x s => endX out ik pre (k x s) := by
  cases r <;> rfl
theorem endX_ite {pre : List PyData} {b : Bool} {x y : R (List PyData)} : endX out ik pre (if b = true then x else y) = if b = true then endX out ik pre x else endX out ik pre y := by
  cases b <;> rfl
theorem endX_cons {pre : List PyData} {y : PyData} {r : CS → R (List PyData)} {s : CS} : endX out ik pre (consR (.d y) r s) = endX out ik (pre ++ [y]) (r s) := by
  unfold consR endX
  cases r s with
  | ok ys s => show out (dX ik (pre ++ (y :: ys))) s = out (dX ik ((pre ++ [y]) ++ ys)) s; rw [List.append_assoc]; rfl
  | exc e s => rfl
  | bad => rfl
theorem endX_pr {pre : List PyData} {fk fv : En → CS → R W} {ρ : En} {s : CS} {k : W → CS → R (List PyData)} : endX out ik pre ((fPr ik fk fv ρ s).bind0 k) = (fk ρ s).bind0 fun w s => (fv ρ s).bind0 fun u s => (pairX ik w u s).bind0 fun x s => endX out ik pre (k x s) := by
  rw [endX_bind]
  unfold fPr
  rw [bind0_bind0]
  congr 1
  funext w s
  rw [bind0_bind0]
end
section
variable {X : Cx} [HK X] {T : TX} {Wx : WXc} {kx vx tg iter tg1 iter1 : Expr} {ifs ifs1 : List Expr} {scope : Scope} {own : List (Str × Nat)} {vs1 : List Nat} {pos : Pos} {fi fi1 : En → CS → R (List D)} {is is1 : List Nat} {h h1 : W → En → Option En} {tt tt1 : En → CS → R Bool} {fk fv : En → CS → R W} {out : Out} {ik : Bool}
theorem tDc_use {σ : L2.St} {H : Hp} {Q Q' : VK} (hsub : ∀ i ∈ is, i ∈ own.map (·.2)) (hdone : ∀ {B μ1 s1 H1 D μ s H ds}, MkX ik B μ1 s1 H1 D μ s H ds → SR B μ1 s1 H1 → H1 D = none → Fin T Wx B μ1 s1 H1 σ Q (out (dX ik ds) s) → Q' (.ref D) H) (q : tD T Wx (fDc out ik (own.map (·.2)) fi h tt fk fv) σ H Q) :
    tDx (obX ik) (tD T Wx fi) (tG is h) (tD T Wx0 tt) (tr1 (tD T Wx0 fk) (tD T Wx0 fv) (srX ik)) (own.map (·.2)) σ H Q' := by
  obtain ⟨B, μ, s, ρ, r, e, q⟩ := q
  refine tD_bind r e q fun ds s1 J μ1 H1 st1 r1 e1 rel1 q1 D hD => ?_
  split at q1
  case isFalse => exact q1.elim
  rename_i hlen
  obtain ⟨G, Y, w, gg, yy⟩ := rel1.ex
  refine ⟨fun i m H' => m = ds.length - i ∧ i ≤ ds.length ∧ ∃ μ' s' ys, MkX ik B μ1 s1 H1 D μ' s' H' ys ∧ ys.length ≤ i ∧ Fin T Wx B μ1 s1 H1 σ Q (endX out ik ys (compL h tt (fPr ik fk fv) (wipeE ρ (own.map (·.2))) (ds.drop i) s')),
    ⟨ds.length, by simp, Nat.zero_le _, μ1, s1, [], MkX.start r1 hD, Nat.le_refl _, q1⟩, ?_⟩
  rintro i m H' ⟨rfl, hi, μ', s', ys, m, hys, fq⟩
  have hG := gg H' _ (m.kp hD) m.sr.bt'
  by_cases hlt : i < ds.length
  · refine .inr ⟨w.goes i H' hlt hG, fun H' => ∃ μ' s' ys, MkX ik B μ1 s1 H1 D μ' s' H' ys ∧ ys.length ≤ i + 1 ∧ Fin T Wx B μ1 s1 H1 σ Q (endX out ik ys (compL h tt (fPr ik fk fv) (wipeE ρ (own.map (·.2))) (ds.drop (i + 1)) s')),
      fun H' p' => ⟨ds.length - (i + 1), by omega, rfl, hlt, p'⟩, fun x H'' y => ?_⟩
    obtain ⟨sm, d, ed, fd⟩ := yy i H' _ x H'' (m.kp hD) m.sr.bt' hlt (w.yields i H' x H'' hlt hG y)
    have ec : ds.drop i = d :: ds.drop (i + 1) := by
      obtain ⟨hl, rfl⟩ := List.getElem?_eq_some_iff.mp ed
      exact List.drop_eq_getElem_cons hl
    rw [ec] at fq
    unfold compL at fq
    have m2 : MkX ik B μ1 s1 H1 D μ' s' H'' ys := m.step (Stp.same sm) (m.sr.same sm)
    have er : ER (And1 B D) μ' s' H'' (wipe σ (own.map (·.2))) (wipeE ρ (own.map (·.2))) := (e1.kpB m2.st (m2.kp hD)).wipe _
    cases z1 : h (.d d) (wipeE ρ (own.map (·.2))) with
    | none => simp only [z1] at fq; exact fq.elim
    | some ρ1 =>
      simp only [z1] at fq
      refine ⟨_, μ', s', _, .d d, ρ1, m2.sr, er, fd, z1, fun σ2 e2 l2 a2 => ⟨by rw [wipe_eq l2 a2 hsub, wipe_wipe], ?_⟩⟩
      rw [endX_bind] at fq
      refine tD_bind0 m2.sr e2 fq fun b s3 v3 μ3 H3 st3 r3 e3 rel3 q3 => ?_
      cases rel3
      have m3 := m2.step st3 r3
      rw [endX_ite] at q3
      cases b with
      | false =>
        rw [if_neg Bool.false_ne_true] at q3 ⊢
        exact ⟨μ3, s3, ys, m3, by omega, q3⟩
      | true =>
        rw [if_pos rfl] at q3 ⊢
        rw [endX_pr] at q3
        refine tD_bind0 r3 e3 q3 fun wk s4 vk μ4 H4 st4 r4 e4 rel4 q4 => tD_bind0 r4 e4 q4 fun wv s5 vv μ5 H5 st5 r5 e5 rel5 q5 => ?_
        have m5 := (m3.step st4 r4).step st5 r5
        have rel4 := RW.stp st5 rel4
        unfold pairX at q5
        split at q5
        · split at q5
          · rename_i hk
            have q5 : Fin T Wx B μ1 s1 H1 σ Q (endX out ik ys (consR (.d (.tuple [_, _])) _ s5)) := q5
            rw [endX_cons] at q5
            exact m5.push hD rel4 rel5 hk (by omega) fun o m6 => ⟨μ5, s5, _, m6, by simp; omega, q5⟩
          · exact q5.elim
        · exact q5.elim
  · have ei : i = ds.length := by omega
    subst ei
    rw [List.drop_length] at fq
    have fq : Fin (a := W) T Wx B μ1 s1 H1 σ Q (out (dX ik (ys ++ [])) s') := fq
    rw [List.append_nil] at fq
    exact .inl ⟨w.stops H' hG, hdone m r1 hD fq⟩
theorem tDc2_use {σ : L2.St} {H : Hp} {Q Q' : VK} (hsub : ∀ i ∈ is, i ∈ own.map (·.2)) (hsub1 : ∀ i ∈ is1, i ∈ vs1) (hdone : ∀ {B μ1 s1 H1 D μ s H ds}, MkX ik B μ1 s1 H1 D μ s H ds → SR B μ1 s1 H1 → H1 D = none → Fin T Wx B μ1 s1 H1 σ Q (out (dX ik ds) s) → Q' (.ref D) H) (q : tD T Wx (fDc2 out ik (own.map (·.2)) vs1 fi h tt fi1 h1 tt1 fk fv) σ H Q) :
    tDx (obX ik) (tD T Wx fi) (tG is h) (tD T Wx0 tt) (tr2 (tD T Wx0 fi1) (tG is1 h1) (tD T Wx0 tt1) (tD T Wx0 fk) (tD T Wx0 fv) (srX ik) vs1) (own.map (·.2)) σ H Q' := by
  obtain ⟨B, μ, s, ρ, r, e, q⟩ := q
  refine tD_bind r e q fun ds s1 J μ1 H1 st1 r1 e1 rel1 q1 D hD => ?_
  split at q1
  case isFalse => exact q1.elim
  rename_i hlen
  obtain ⟨G, Y, w, gg, yy⟩ := rel1.ex
  refine ⟨fun i m H' => m = ds.length - i ∧ i ≤ ds.length ∧ ∃ μ' s' ys, MkX ik B μ1 s1 H1 D μ' s' H' ys ∧ ys.length ≤ 4096 * i ∧ Fin T Wx B μ1 s1 H1 σ Q (endX out ik ys (comp2 vs1 h tt fi1 h1 tt1 (fPr ik fk fv) (wipeE ρ (own.map (·.2))) (ds.drop i) s')),
    ⟨ds.length, by simp, Nat.zero_le _, μ1, s1, [], MkX.start r1 hD, Nat.zero_le _, q1⟩, ?_⟩
  rintro i m H' ⟨rfl, hi, μ', s', ys, m, hys, fq⟩
  have hG := gg H' _ (m.kp hD) m.sr.bt'
  by_cases hlt : i < ds.length
  · refine .inr ⟨w.goes i H' hlt hG, fun H' => ∃ μ' s' ys, MkX ik B μ1 s1 H1 D μ' s' H' ys ∧ ys.length ≤ 4096 * (i + 1) ∧ Fin T Wx B μ1 s1 H1 σ Q (endX out ik ys (comp2 vs1 h tt fi1 h1 tt1 (fPr ik fk fv) (wipeE ρ (own.map (·.2))) (ds.drop (i + 1)) s')),
      fun H' p' => ⟨ds.length - (i + 1), by omega, rfl, hlt, p'⟩, fun x H'' y => ?_⟩
    obtain ⟨sm, d, ed, fd⟩ := yy i H' _ x H'' (m.kp hD) m.sr.bt' hlt (w.yields i H' x H'' hlt hG y)
    have ec : ds.drop i = d :: ds.drop (i + 1) := by
      obtain ⟨hl, rfl⟩ := List.getElem?_eq_some_iff.mp ed
      exact List.drop_eq_getElem_cons hl
    rw [ec] at fq
    unfold comp2 at fq
    have m2 : MkX ik B μ1 s1 H1 D μ' s' H'' ys := m.step (Stp.same sm) (m.sr.same sm)
    have er : ER (And1 B D) μ' s' H'' (wipe σ (own.map (·.2))) (wipeE ρ (own.map (·.2))) := (e1.kpB m2.st (m2.kp hD)).wipe _
    cases z1 : h (.d d) (wipeE ρ (own.map (·.2))) with
    | none => simp only [z1] at fq; exact fq.elim
    | some ρ1 =>
      simp only [z1] at fq
      refine ⟨_, μ', s', _, .d d, ρ1, m2.sr, er, fd, z1, fun σ2 e2 l2 a2 => ⟨by rw [wipe_eq l2 a2 hsub, wipe_wipe], ?_⟩⟩
      rw [endX_bind] at fq
      refine tD_bind0 m2.sr e2 fq fun b s3 v3 μ3 H3 st3 r3 e3 rel3 q3 => ?_
      cases rel3
      have m3 := m2.step st3 r3
      rw [endX_ite] at q3
      cases b with
      | false =>
        rw [if_neg Bool.false_ne_true] at q3 ⊢
        exact ⟨μ3, s3, ys, m3, by omega, q3⟩
      | true =>
        rw [if_pos rfl] at q3 ⊢
        rw [endX_bind] at q3
        refine tD_bind0 r3 e3 q3 fun ds1 s4 J1 μ4 H4 st4 r4 e4 rel4 q4 => ?_
        have m4 := m3.step st4 r4
        split at q4
        case isFalse => exact q4.elim
        rename_i hlen1
        obtain ⟨G1, Y1, w1, gg1, yy1⟩ := rel4.ex
        refine ⟨fun j k H' => k = ds1.length - j ∧ j ≤ ds1.length ∧ ∃ μ' s' ys, MkX ik B μ1 s1 H1 D μ' s' H' ys ∧ ys.length ≤ 4096 * i + j ∧ ER (And1 B D) μ' s' H' σ2 ρ1 ∧ Kp H4 H' (Av (And1 B D) μ4 s4) (Av (And1 B D) μ' s') ∧
            Fin T Wx B μ1 s1 H1 σ Q (endX out ik ys (appR (compL h1 tt1 (fPr ik fk fv) (wipeE ρ1 vs1) (ds1.drop j) s') fun s => comp2 vs1 h tt fi1 h1 tt1 (fPr ik fk fv) (wipeE ρ (own.map (·.2))) (ds.drop (i + 1)) s)),
          ⟨ds1.length, by simp, Nat.zero_le _, μ4, s4, ys, m4, by omega, e4, ⟨fun _ _ z _ => z, fun _ _ _ n => n⟩, q4⟩, ?_⟩
        rintro j k H5 ⟨rfl, hj, μ5, s5, zs, m5, hzs, e5, k5, f5⟩
        have hG1 := gg1 H5 _ k5 m5.sr.bt'
        by_cases hlt1 : j < ds1.length
        · refine .inr ⟨w1.goes j H5 hlt1 hG1, fun H' => ∃ μ' s' ys, MkX ik B μ1 s1 H1 D μ' s' H' ys ∧ ys.length ≤ 4096 * i + (j + 1) ∧ ER (And1 B D) μ' s' H' σ2 ρ1 ∧ Kp H4 H' (Av (And1 B D) μ4 s4) (Av (And1 B D) μ' s') ∧
              Fin T Wx B μ1 s1 H1 σ Q (endX out ik ys (appR (compL h1 tt1 (fPr ik fk fv) (wipeE ρ1 vs1) (ds1.drop (j + 1)) s') fun s => comp2 vs1 h tt fi1 h1 tt1 (fPr ik fk fv) (wipeE ρ (own.map (·.2))) (ds.drop (i + 1)) s)),
            fun H' p' => ⟨ds1.length - (j + 1), by omega, rfl, hlt1, p'⟩, fun x1 H6 y1 => ?_⟩
          obtain ⟨sm1, d1, ed1, fd1⟩ := yy1 j H5 _ x1 H6 k5 m5.sr.bt' hlt1 (w1.yields j H5 x1 H6 hlt1 hG1 y1)
          have ec1 : ds1.drop j = d1 :: ds1.drop (j + 1) := by
            obtain ⟨hl, rfl⟩ := List.getElem?_eq_some_iff.mp ed1
            exact List.drop_eq_getElem_cons hl
          rw [ec1] at f5
          unfold compL at f5
          have st6 : Stp μ5 s5 H5 μ5 s5 H6 := Stp.same sm1
          have m6 : MkX ik B μ1 s1 H1 D μ5 s5 H6 zs := m5.step st6 (m5.sr.same sm1)
          have e6 := e5.stp st6
          have k6 := k5.trans st6.kp
          cases z2 : h1 (.d d1) (wipeE ρ1 vs1) with
          | none => simp only [z2] at f5; exact f5.elim
          | some ρ2 =>
            simp only [z2] at f5
            refine ⟨_, μ5, s5, _, .d d1, ρ2, m6.sr, e6.wipe _, fd1, z2, fun σ3 e7 l3 a3 => ⟨by rw [wipe_eq l3 a3 hsub1, wipe_wipe], ?_⟩⟩
            rw [appR_bind, endX_bind] at f5
            refine tD_bind0 m6.sr e7 f5 fun b s7 v7 μ7 H7 st7 r7 e8 rel7 q7 => ?_
            cases rel7
            have m7 := m6.step st7 r7
            rw [appR_ite, endX_ite] at q7
            cases b with
            | false =>
              rw [if_neg Bool.false_ne_true] at q7 ⊢
              exact ⟨μ7, s7, zs, m7, by omega, e6.stp st7, k6.trans st7.kp, q7⟩
            | true =>
              rw [if_pos rfl] at q7 ⊢
              rw [appR_bind, endX_pr] at q7
              refine tD_bind0 r7 e8 q7 fun wk s8 vk μ8 H8 st8 r8 e9 rel8 q8 => tD_bind0 r8 e9 q8 fun wv s9 vv μ9 H9 st9 r9 e10 rel9 q9 => ?_
              have m9 := (m7.step st8 r8).step st9 r9
              have rel8 := RW.stp st9 rel8
              unfold pairX at q9
              split at q9
              · split at q9
                · rename_i hk
                  have q9 : Fin T Wx B μ1 s1 H1 σ Q (endX out ik zs (appR (consR (.d (.tuple [_, _])) _ s9) _)) := q9
                  rw [appR_cons, endX_cons] at q9
                  refine m9.push hD rel8 rel9 hk (sq4096 (by omega) (by omega) hzs) fun o m10 => ?_
                  have kf := ((k6.trans st7.kp).trans st8.kp).trans st9.kp
                  exact ⟨μ9, s9, _, m10, by simp; omega, (((e6.stp st7).stp st8).stp st9).updX hD m9 o, kf.trans (kp_upd (.inl (.inr rfl))), q9⟩
                · exact q9.elim
              · exact q9.elim
        · have ej : j = ds1.length := by omega
          subst ej
          rw [List.drop_length] at f5
          exact .inl ⟨w1.stops H5 hG1, μ5, s5, zs, m5, by omega, f5⟩
  · have ei : i = ds.length := by omega
    subst ei
    rw [List.drop_length] at fq
    have fq : Fin (a := W) T Wx B μ1 s1 H1 σ Q (out (dX ik (ys ++ [])) s') := fq
    rw [List.append_nil] at fq
    exact .inl ⟨w.stops H' hG, hdone m r1 hD fq⟩
/-! the expressions -/
section
variable {ob : Addr → HO} {wi : TI} {g : TG} {tx : TT} {tr : Addr → L2.St → Hp → (Hp → Prop) → Prop} {rest : Env → Addr → (Shared → Prop) → Shared → Prop} {more : List Comprehension}
theorem pe_dx (hc : X.calm = true) (hN : X.N.Nodup) (hi : PI X tg iter wi) (ok : BlkOk X.N X.env.scope scope own)
    (hg : ∀ s0 H0 C cl fp, PG (X.blk s0 H0 scope (compEnvC scope cl C X.env) fp) tg g) (ht : ∀ s0 H0 C cl fp, PTs (X.blk s0 H0 scope (compEnvC scope cl C X.env) fp) ifs tx)
    (hob : ∀ (h : Heap) (H' : Hp), sysModules < h.objs.size → ObjOk X.prog X.w H' (newD h) h.objs.size (ob h.objs.size))
    (hl : Loop1 X (.DictComp kx vx (⟨tg, iter, ifs, 0⟩ :: more) scope pos) tg ifs rest)
    (hr : ∀ s0 H0 C cl fp D, RestOk (X.blk s0 H0 scope (compEnvC scope cl C X.env) fp) (rest (compEnvC scope cl C X.env) D) (tr D) (own.map (·.2)))
    (hs : ∀ x, foldedSetIterable iter X.env x = pure x) : PE X (.DictComp kx vx (⟨tg, iter, ifs, 0⟩ :: more) scope pos) (tDx ob wi g tx tr (own.map (·.2))) := ⟨fun pins s σ H Q I q => by
  rw [arm_eval_DictComp]
  exact dcx hc hN I hi ok hg ht hob hl hr hs q fun D C s' m H' I' q' hn ⟨z0, z1, z3, z4, z5, z6⟩ => ⟨m, hn, fun h'' sb => ⟨.ref D, H', I'.turned (t' := s'.toks) (fun b o hb e => (sb.2 b hb).trans e) z0 z1 z4 z5 z6, rfl, q'⟩⟩⟩
theorem ps_dx {i : Nat} {y : Str} {py spos : Pos} (hc : X.calm = true) (hN : X.N.Nodup) (hy : X.N[i]? = some y) (hyl : X.env.scope.names.lookup y = some .local)
    (hsw : swapsWith (.DictComp kx vx (⟨tg, iter, ifs, 0⟩ :: more) scope pos) (some (.Name y py)) spos.line X.env = pure true) (hi : PI X tg iter wi) (ok : BlkOk X.N X.env.scope scope own)
    (hg : ∀ s0 H0 C cl fp, PG (X.blk s0 H0 scope (compEnvC scope cl C X.env) fp) tg g) (ht : ∀ s0 H0 C cl fp, PTs (X.blk s0 H0 scope (compEnvC scope cl C X.env) fp) ifs tx)
    (hob : ∀ (h : Heap) (H' : Hp), sysModules < h.objs.size → ObjOk X.prog X.w H' (newD h) h.objs.size (ob h.objs.size))
    (hl : Loop1 X (.DictComp kx vx (⟨tg, iter, ifs, 0⟩ :: more) scope pos) tg ifs rest)
    (hr : ∀ s0 H0 C cl fp D, RestOk (X.blk s0 H0 scope (compEnvC scope cl C X.env) fp) (rest (compEnvC scope cl C X.env) D) (tr D) (own.map (·.2)))
    (hs : ∀ x, foldedSetIterable iter X.env x = pure x) : PS X (.Assign [.Name y py] (.DictComp kx vx (⟨tg, iter, ifs, 0⟩ :: more) scope pos) spos) (tAsg (tDx ob wi g tx tr (own.map (·.2))) (gName i)) := ⟨fun pins s σ H D I q => by
  rw [exec_Assign_Name_used _ _ _ _ hsw]
  refine wpAny_bind (wpAny_standAt (wpAny_bind ?_))
  show wpAny _ X.A (do let _ ← comprehension (.DictComp kx vx (⟨tg, iter, ifs, 0⟩ :: more) scope pos) scope X.env (firstIterPos (⟨tg, iter, ifs, 0⟩ :: more) pos) newDict false (eval iter X.env) (some (assign (.Name y py) X.env))) _ _ s
  refine wpAny_bind (thn (dcx (Q := fun x H1 => gName i x σ H1 D.nx) (Qf := fun _ s' => SP X pins D .next s') hc hN I hi ok hg ht hob hl hr hs q fun L C s' m H' I' q' hn ⟨z0, z1, z3, z4, z5, z6⟩ => ?_) fun _ s' hq => wpAny_pure (wpAny_pure hq))
  show wpAny _ _ (assign (.Name y py) X.env (.ref L)) _ _ _
  refine wpAny_assign_Name (store_ok2 (v := V.ref L) I' hN hy (.inl hyl) rfl (fun s2 I2 ⟨a, sb, ha⟩ => ?_) (.inr hyl))
  have apart : C ≠ a := ha.elim (fun z => by rw [z]; exact z1) fun z e => z5 y a z e.symm
  exact ⟨m, hn.sameBut sb apart, fun h3 sb3 => ⟨_, H', I2.turned (t' := s2.toks) (fun b o hb e => (sb3.2 b hb).trans e) z0 z1 z4 z5 z6, q'⟩⟩⟩
end
end
end
end DL
namespace DL
open PySem PySem.Spec PyProof.Rows L2
section
variable [KFrag]
/-! ### {k: v for ..} as an expression, as a name's value -/
section
variable {X : Cx} [HK X] {T : TX} {Wx : WXc} {kx vx tg iter tg1 iter1 : Expr} {ifs ifs1 : List Expr} {scope : Scope} {own : List (Str × Nat)} {vs1 : List Nat} {pos : Pos} {fi fi1 : En → CS → R (List D)} {is is1 : List Nat} {h h1 : W → En → Option En} {tt tt1 : En → CS → R Bool} {fk fv : En → CS → R W} {ik : Bool}
theorem de_dc (hw : X.w = KFrag.w) (hu : X.A.units + 64 < cLine) (hc : X.calm = true) (hNd : X.N.Nodup) (hi : DI X T Wx tg iter fi) (ok : BlkOk X.N X.env.scope scope own) (hsub : ∀ i ∈ is, i ∈ own.map (·.2))
    (hg : ∀ s0 H0 C cl fp, DG (X.blk s0 H0 scope (compEnvC scope cl C X.env) fp) tg is h) (ht : ∀ s0 H0 C cl fp, PTs (X.blk s0 H0 scope (compEnvC scope cl C X.env) fp) ifs (tD T Wx0 tt))
    (hk : ∀ s0 H0 C cl fp, DE (X.blk s0 H0 scope (compEnvC scope cl C X.env) fp) T Wx0 kx fk) (hv : ∀ s0 H0 C cl fp, DE (X.blk s0 H0 scope (compEnvC scope cl C X.env) fp) T Wx0 vx fv) (hs : ∀ x, foldedSetIterable iter X.env x = pure x := by intro _; rfl) :
    DE X T Wx (.DictComp kx vx [⟨tg, iter, ifs, 0⟩] scope pos) (fDc outC ik (own.map (·.2)) fi h tt fk fv) :=
  PE_imp (pe_dx (ob := obX ik) (rest := rest1 X kx vx) (tr := tr1 (tD T Wx0 fk) (tD T Wx0 fv) (srX ik)) hc hNd hi ok hg ht (fun h H' hb => obX_ok hw h H' hb) loop_one
    (fun s0 H0 C cl fp D => rest_one (X := X.blk s0 H0 scope (compEnvC scope cl C X.env) fp) rfl (hk s0 H0 C cl fp) (hv s0 H0 C cl fp) (psX (X := X.blk s0 H0 scope (compEnvC scope cl C X.env) fp) hw hu) rfl) hs) fun σ H Q => tDc_use hsub fun m r1 hD q => m.done r1 hD q
theorem ds_setDc {i : Nat} {y : Str} {py spos : Pos} (hw : X.w = KFrag.w) (hu : X.A.units + 64 < cLine) (hc : X.calm = true) (hNd : X.N.Nodup) (hy : X.N[i]? = some y) (hyl : X.env.scope.names.lookup y = some .local)
    (hsw : swapsWith (.DictComp kx vx [⟨tg, iter, ifs, 0⟩] scope pos) (some (.Name y py)) spos.line X.env = pure true) (hi : DI X T Wx tg iter fi) (ok : BlkOk X.N X.env.scope scope own) (hsub : ∀ i ∈ is, i ∈ own.map (·.2))
    (hg : ∀ s0 H0 C cl fp, DG (X.blk s0 H0 scope (compEnvC scope cl C X.env) fp) tg is h) (ht : ∀ s0 H0 C cl fp, PTs (X.blk s0 H0 scope (compEnvC scope cl C X.env) fp) ifs (tD T Wx0 tt))
    (hk : ∀ s0 H0 C cl fp, DE (X.blk s0 H0 scope (compEnvC scope cl C X.env) fp) T Wx0 kx fk) (hv : ∀ s0 H0 C cl fp, DE (X.blk s0 H0 scope (compEnvC scope cl C X.env) fp) T Wx0 vx fv) (hs : ∀ x, foldedSetIterable iter X.env x = pure x := by intro _; rfl) :
    DS X T Wx (.Assign [.Name y py] (.DictComp kx vx [⟨tg, iter, ifs, 0⟩] scope pos) spos) (gAsg (hN i) (fDc outC ik (own.map (·.2)) fi h tt fk fv)) :=
  PS_imp (ps_dx (ob := obX ik) (rest := rest1 X kx vx) (tr := tr1 (tD T Wx0 fk) (tD T Wx0 fv) (srX ik)) hc hNd hy hyl hsw hi ok hg ht (fun h H' hb => obX_ok hw h H' hb) loop_one
    (fun s0 H0 C cl fp D => rest_one (X := X.blk s0 H0 scope (compEnvC scope cl C X.env) fp) rfl (hk s0 H0 C cl fp) (hv s0 H0 C cl fp) (psX (X := X.blk s0 H0 scope (compEnvC scope cl C X.env) fp) hw hu) rfl) hs) fun D σ H q => by
  have hx : ∀ (t : TE), (∀ σ H Q, tD T Wx (fDc outC ik (own.map (·.2)) fi h tt fk fv) σ H Q → t σ H Q) → tAsg t (gName i) D σ H := fun t k => by
    obtain ⟨B, μ, s, ρ, r, e, q⟩ := q
    exact k σ H _ (tD_bindT r e q fun w s1 v μ1 H1 st1 r1 e1 rel1 q1 => q1 _ μ1 H1 Stp.refl r1 (e1.set rel1 i))
  exact hx _ fun σ H Q z => tDc_use hsub (fun m r1 hD q => m.done r1 hD q) z
theorem de_dc2 (hw : X.w = KFrag.w) (hu : X.A.units + 64 < cLine) (hc : X.calm = true) (hNd : X.N.Nodup) (hi : DI X T Wx tg iter fi) (ok : BlkOk X.N X.env.scope scope own) (hvs : ∀ i ∈ vs1, i ∈ own.map (·.2)) (hsub : ∀ i ∈ is, i ∈ own.map (·.2)) (hsub1 : ∀ i ∈ is1, i ∈ vs1)
    (hg : ∀ s0 H0 C cl fp, DG (X.blk s0 H0 scope (compEnvC scope cl C X.env) fp) tg is h) (ht : ∀ s0 H0 C cl fp, PTs (X.blk s0 H0 scope (compEnvC scope cl C X.env) fp) ifs (tD T Wx0 tt))
    (hi1 : ∀ s0 H0 C cl fp, DI (X.blk s0 H0 scope (compEnvC scope cl C X.env) fp) T Wx0 tg1 iter1 fi1) (hg1 : ∀ s0 H0 C cl fp, DG (X.blk s0 H0 scope (compEnvC scope cl C X.env) fp) tg1 is1 h1) (ht1 : ∀ s0 H0 C cl fp, PTs (X.blk s0 H0 scope (compEnvC scope cl C X.env) fp) ifs1 (tD T Wx0 tt1))
    (hk : ∀ s0 H0 C cl fp, DE (X.blk s0 H0 scope (compEnvC scope cl C X.env) fp) T Wx0 kx fk) (hv : ∀ s0 H0 C cl fp, DE (X.blk s0 H0 scope (compEnvC scope cl C X.env) fp) T Wx0 vx fv) (hs : ∀ x, foldedSetIterable iter X.env x = pure x := by intro _; rfl) (hs1 : ∀ ce x, foldedSetIterable iter1 ce x = pure x := by intro _ _; rfl) :
    DE X T Wx (.DictComp kx vx [⟨tg, iter, ifs, 0⟩, ⟨tg1, iter1, ifs1, 0⟩] scope pos) (fDc2 outC ik (own.map (·.2)) vs1 fi h tt fi1 h1 tt1 fk fv) :=
  PE_imp (pe_dx (ob := obX ik) (rest := rest2 X (.DictComp kx vx [⟨tg, iter, ifs, 0⟩, ⟨tg1, iter1, ifs1, 0⟩] scope pos) iter1) (tr := tr2 (tD T Wx0 fi1) (tG is1 h1) (tD T Wx0 tt1) (tD T Wx0 fk) (tD T Wx0 fv) (srX ik) vs1) hc hNd hi ok hg ht (fun h H' hb => obX_ok hw h H' hb) (loop_two hs1)
    (fun s0 H0 C cl fp D => rest_two (X := X.blk s0 H0 scope (compEnvC scope cl C X.env) fp) hc rfl hvs (hi1 s0 H0 C cl fp) (hg1 s0 H0 C cl fp) (ht1 s0 H0 C cl fp) (hk s0 H0 C cl fp) (hv s0 H0 C cl fp) (psX (X := X.blk s0 H0 scope (compEnvC scope cl C X.env) fp) hw hu) rfl) hs) fun σ H Q => tDc2_use hsub hsub1 fun m r1 hD q => m.done r1 hD q
theorem ds_setDc2 {i : Nat} {y : Str} {py spos : Pos} (hw : X.w = KFrag.w) (hu : X.A.units + 64 < cLine) (hc : X.calm = true) (hNd : X.N.Nodup) (hy : X.N[i]? = some y) (hyl : X.env.scope.names.lookup y = some .local)
    (hsw : swapsWith (.DictComp kx vx [⟨tg, iter, ifs, 0⟩, ⟨tg1, iter1, ifs1, 0⟩] scope pos) (some (.Name y py)) spos.line X.env = pure true) (hi : DI X T Wx tg iter fi) (ok : BlkOk X.N X.env.scope scope own) (hvs : ∀ i ∈ vs1, i ∈ own.map (·.2)) (hsub : ∀ i ∈ is, i ∈ own.map (·.2)) (hsub1 : ∀ i ∈ is1, i ∈ vs1)
    (hg : ∀ s0 H0 C cl fp, DG (X.blk s0 H0 scope (compEnvC scope cl C X.env) fp) tg is h) (ht : ∀ s0 H0 C cl fp, PTs (X.blk s0 H0 scope (compEnvC scope cl C X.env) fp) ifs (tD T Wx0 tt))
    (hi1 : ∀ s0 H0 C cl fp, DI (X.blk s0 H0 scope (compEnvC scope cl C X.env) fp) T Wx0 tg1 iter1 fi1) (hg1 : ∀ s0 H0 C cl fp, DG (X.blk s0 H0 scope (compEnvC scope cl C X.env) fp) tg1 is1 h1) (ht1 : ∀ s0 H0 C cl fp, PTs (X.blk s0 H0 scope (compEnvC scope cl C X.env) fp) ifs1 (tD T Wx0 tt1))
    (hk : ∀ s0 H0 C cl fp, DE (X.blk s0 H0 scope (compEnvC scope cl C X.env) fp) T Wx0 kx fk) (hv : ∀ s0 H0 C cl fp, DE (X.blk s0 H0 scope (compEnvC scope cl C X.env) fp) T Wx0 vx fv) (hs : ∀ x, foldedSetIterable iter X.env x = pure x := by intro _; rfl) (hs1 : ∀ ce x, foldedSetIterable iter1 ce x = pure x := by intro _ _; rfl) :
    DS X T Wx (.Assign [.Name y py] (.DictComp kx vx [⟨tg, iter, ifs, 0⟩, ⟨tg1, iter1, ifs1, 0⟩] scope pos) spos) (gAsg (hN i) (fDc2 outC ik (own.map (·.2)) vs1 fi h tt fi1 h1 tt1 fk fv)) :=
  PS_imp (ps_dx (ob := obX ik) (rest := rest2 X (.DictComp kx vx [⟨tg, iter, ifs, 0⟩, ⟨tg1, iter1, ifs1, 0⟩] scope pos) iter1) (tr := tr2 (tD T Wx0 fi1) (tG is1 h1) (tD T Wx0 tt1) (tD T Wx0 fk) (tD T Wx0 fv) (srX ik) vs1) hc hNd hy hyl hsw hi ok hg ht (fun h H' hb => obX_ok hw h H' hb) (loop_two hs1)
    (fun s0 H0 C cl fp D => rest_two (X := X.blk s0 H0 scope (compEnvC scope cl C X.env) fp) hc rfl hvs (hi1 s0 H0 C cl fp) (hg1 s0 H0 C cl fp) (ht1 s0 H0 C cl fp) (hk s0 H0 C cl fp) (hv s0 H0 C cl fp) (psX (X := X.blk s0 H0 scope (compEnvC scope cl C X.env) fp) hw hu) rfl) hs) fun D σ H q => by
  have hx : ∀ (t : TE), (∀ σ H Q, tD T Wx (fDc2 outC ik (own.map (·.2)) vs1 fi h tt fi1 h1 tt1 fk fv) σ H Q → t σ H Q) → tAsg t (gName i) D σ H := fun t k => by
    obtain ⟨B, μ, s, ρ, r, e, q⟩ := q
    exact k σ H _ (tD_bindT r e q fun w s1 v μ1 H1 st1 r1 e1 rel1 q1 => q1 _ μ1 H1 Stp.refl r1 (e1.set rel1 i))
  exact hx _ fun σ H Q z => tDc2_use hsub hsub1 (fun m r1 hD q => m.done r1 hD q) z
theorem de_dcF (hw : X.w = KFrag.w) (hu : X.A.units + 64 < cLine) (hc : X.calm = true) (hNd : X.N.Nodup) (hi : DI X T Wx tg iter fi) (ok : BlkOk X.N X.env.scope scope own) (hsub : ∀ i ∈ is, i ∈ own.map (·.2))
    (hg : ∀ s0 H0 C cl fp, DG (X.blk s0 H0 scope (compEnvC scope cl C X.env) fp) tg is h) (ht : ∀ s0 H0 C cl fp, PTs (X.blk s0 H0 scope (compEnvC scope cl C X.env) fp) ifs (tD T Wx0 tt))
    (hk : ∀ s0 H0 C cl fp, DE (X.blk s0 H0 scope (compEnvC scope cl C X.env) fp) T Wx0 kx fk) (hv : ∀ s0 H0 C cl fp, DE (X.blk s0 H0 scope (compEnvC scope cl C X.env) fp) T Wx0 vx fv) (hs : ∀ x, foldedSetIterable iter X.env x = pure x := by intro _; rfl) :
    DE X T Wx (.DictComp kx vx [⟨tg, iter, ifs, 0⟩] scope pos) (fDc outF ik (own.map (·.2)) fi h tt fk fv) :=
  PE_imp (pe_lockV (pe_dx (ob := obX ik) (rest := rest1 X kx vx) (tr := tr1 (tD T Wx0 fk) (tD T Wx0 fv) (srX ik)) hc hNd hi ok hg ht (fun h H' hb => obX_ok hw h H' hb) loop_one
    (fun s0 H0 C cl fp D => rest_one (X := X.blk s0 H0 scope (compEnvC scope cl C X.env) fp) rfl (hk s0 H0 C cl fp) (hv s0 H0 C cl fp) (psX (X := X.blk s0 H0 scope (compEnvC scope cl C X.env) fp) hw hu) rfl) hs)) fun σ H Q => tDc_use hsub fun m r1 hD q => m.doneF r1 hD q
theorem de_dcF2 (hw : X.w = KFrag.w) (hu : X.A.units + 64 < cLine) (hc : X.calm = true) (hNd : X.N.Nodup) (hi : DI X T Wx tg iter fi) (ok : BlkOk X.N X.env.scope scope own) (hvs : ∀ i ∈ vs1, i ∈ own.map (·.2)) (hsub : ∀ i ∈ is, i ∈ own.map (·.2)) (hsub1 : ∀ i ∈ is1, i ∈ vs1)
    (hg : ∀ s0 H0 C cl fp, DG (X.blk s0 H0 scope (compEnvC scope cl C X.env) fp) tg is h) (ht : ∀ s0 H0 C cl fp, PTs (X.blk s0 H0 scope (compEnvC scope cl C X.env) fp) ifs (tD T Wx0 tt))
    (hi1 : ∀ s0 H0 C cl fp, DI (X.blk s0 H0 scope (compEnvC scope cl C X.env) fp) T Wx0 tg1 iter1 fi1) (hg1 : ∀ s0 H0 C cl fp, DG (X.blk s0 H0 scope (compEnvC scope cl C X.env) fp) tg1 is1 h1) (ht1 : ∀ s0 H0 C cl fp, PTs (X.blk s0 H0 scope (compEnvC scope cl C X.env) fp) ifs1 (tD T Wx0 tt1))
    (hk : ∀ s0 H0 C cl fp, DE (X.blk s0 H0 scope (compEnvC scope cl C X.env) fp) T Wx0 kx fk) (hv : ∀ s0 H0 C cl fp, DE (X.blk s0 H0 scope (compEnvC scope cl C X.env) fp) T Wx0 vx fv) (hs : ∀ x, foldedSetIterable iter X.env x = pure x := by intro _; rfl) (hs1 : ∀ ce x, foldedSetIterable iter1 ce x = pure x := by intro _ _; rfl) :
    DE X T Wx (.DictComp kx vx [⟨tg, iter, ifs, 0⟩, ⟨tg1, iter1, ifs1, 0⟩] scope pos) (fDc2 outF ik (own.map (·.2)) vs1 fi h tt fi1 h1 tt1 fk fv) :=
  PE_imp (pe_lockV (pe_dx (ob := obX ik) (rest := rest2 X (.DictComp kx vx [⟨tg, iter, ifs, 0⟩, ⟨tg1, iter1, ifs1, 0⟩] scope pos) iter1) (tr := tr2 (tD T Wx0 fi1) (tG is1 h1) (tD T Wx0 tt1) (tD T Wx0 fk) (tD T Wx0 fv) (srX ik) vs1) hc hNd hi ok hg ht (fun h H' hb => obX_ok hw h H' hb) (loop_two hs1)
    (fun s0 H0 C cl fp D => rest_two (X := X.blk s0 H0 scope (compEnvC scope cl C X.env) fp) hc rfl hvs (hi1 s0 H0 C cl fp) (hg1 s0 H0 C cl fp) (ht1 s0 H0 C cl fp) (hk s0 H0 C cl fp) (hv s0 H0 C cl fp) (psX (X := X.blk s0 H0 scope (compEnvC scope cl C X.env) fp) hw hu) rfl) hs)) fun σ H Q => tDc2_use hsub hsub1 fun m r1 hD q => m.doneF r1 hD q
theorem sw_dict {gs : List Comprehension} {py : Pos} {y : Str} {l : Nat} {ce : Env} (hk : ce.scope.kind = .function) (hy : ce.scope.names.lookup y = some .local) (hl : (py.line == pos.line) = true)
    (ha : (scope.names.any fun (n, k) => n == y && (k == .local || k == .cell)) = false) : swapsWith (.DictComp kx vx gs scope pos) (some (.Name y py)) l ce = pure true := by
  have k1 : ce.kindOf y = some .local := hy
  have k2 : ce.blockKind = .function := by unfold Env.blockKind; rw [hk]; rfl
  unfold swapsWith
  simp only [k1, k2, ha, Expr.pos, hl]
  rfl
end
/-! ### whole numbers as keys: in, sorted, update -/
def isMk (p : D × D) : Bool := match p with
  | (.none, .none) => true
  | _ => false
theorem isMk_is {p : D × D} (h : isMk p = true) : p = mark := by
  unfold isMk at h
  split at h
  · rfl
  · cases h
def dctI (w : W) (s : CS) : Option (List (D × D)) := match w with
  | .c n => match s[n]? with
    | some (.dct (p :: r)) => if isMk p = true then some r else none
    | _ => none
  | .fd (p :: r) => if isMk p = true then some r else none
  | _ => none
theorem dctI_rd {B : Addr → Prop} {μ : List Addr} {s : CS} {H : Hp} {x : V} {w : W} {ds : List (D × D)} (r : SR B μ s H) (h : RW B μ s H x w) (e : dctI w s = some ds) : ∃ a ks, x = .ref a ∧ Rd H a (.dK ks) ∧ IKs H (Av B μ s) ks ds := by
  unfold dctI at e
  split at e
  · rename_i n
    split at e
    · rename_i p t z
      split at e
      · rename_i hm
        cases e
        rw [isMk_is hm] at z
        obtain ⟨a, rfl, ha⟩ := h
        obtain ⟨ks, ea, k⟩ := CellOk.mk (r.cell n a _ ha z)
        exact ⟨a, ks, rfl, .inl ea, k⟩
      · cases e
    · cases e
  · rename_i p t
    split at e
    · rename_i hm
      cases e
      rw [isMk_is hm] at h
      obtain ⟨a, o, ks, rfl, ea, _, k⟩ := FD.mk h
      exact ⟨a, ks, rfl, .inr ⟨o, ea⟩, k⟩
    · cases e
  · cases e
def dInI (neg : Bool) (u w : W) (s : CS) : R W := match dctI w s, u with
  | some ds, .d (.int i) => .ok (.d (.bool (xor neg (lookI ds i).isSome))) s
  | _, _ => .bad
def fIIn (neg : Bool) (f g : En → CS → R W) (ρ : En) (s : CS) : R W := (f ρ s).bind fun u s => (g ρ s).bind fun w s => dInI neg u w s
def tIIn (ty td : TE) : TE := fun σ H Q => ty σ H fun y H1 => td σ H1 fun x H2 => ∃ a o, x = .ref a ∧ DGet H2 a y o ∧ Q (.bl o.isSome) H2
section
variable {X : Cx} [HK X] {T : TX} {Wx : WXc} {e e2 : Expr} {f g : En → CS → R W} {fs : En → CS → R (List W)} {p p2 pos apos : Pos} {ty td : TE}
theorem pc_iin (hu : X.A.units + 64 < cLine) (hi : PE X e ty) (ho : PE X e2 td) : PC X .In e e2 (tIIn ty td) := by
  refine ⟨fun pins s σ H Q I h => ?_⟩
  refine thn (hi.run pins s σ H _ I h) fun iv s1 ⟨y, H1, I1, ry, q1⟩ => thn (ho.run pins s1 σ H1 _ I1 q1) fun u s2 ⟨x, H2, I2, rx, a, o, ex, g, q2⟩ => ?_
  subst ex
  obtain rfl : u = Value.ref a := rx
  exact d_in (by omega) I2 g ry fun s3 I3 => ⟨.bl o.isSome, H2, I3, rfl, q2⟩
theorem dInI_use {σ : L2.St} {H : Hp} {Q : VK} (q : tD T Wx (fIIn false f g) σ H Q) : tIIn (tD T Wx f) (tD T Wx g) σ H Q := by
  obtain ⟨B, μ, s, ρ, r, e, q⟩ := q
  refine tD_bind r e q fun u s1 y μ1 H1 st1 r1 e1 rel1 q1 => tD_bind r1 e1 q1 fun w s2 x μ2 H2 st2 r2 e2 rel2 q2 => ?_
  unfold dInI at q2
  split at q2
  · rename_i ds i hd
    have ry := RW.stp st2 rel1
    cases ry.data
    obtain ⟨a, ks, ex, rd, k⟩ := dctI_rd r2 rel2 hd
    rw [Bool.false_xor] at q2
    refine ⟨a, valV ks (.inl i), ex, .inl ⟨ks, .inl i, rd, rfl, rfl⟩, ?_⟩
    have es : (valV ks (.inl i)).isSome = (lookI ds i).isSome := by
      rcases k.look (i := i) with ⟨h1, h2⟩ | ⟨v, y, h1, h2, _⟩ <;> rw [h1, h2] <;> rfl
    rw [es]
    exact Fin.here (a := W) q2 r2 (Fz.bl _)
  · exact q2.elim
theorem de_iin (hu : X.A.units + 64 < cLine) (ha : DE X T Wx e f) (hb : DE X T Wx e2 g) (hm : behindInMarks .In e2 = false := by first | exact nomark _ | rfl) : DE X T Wx (.Compare e [.In] [e2] pos) (fIIn false f g) :=
  PE_imp (pe_cmp (pc_iin hu ha hb) hm) fun _ _ _ => dInI_use
theorem dt_iin (hu : X.A.units + 64 < cLine) (ha : DE X T Wx e f) (hb : DE X T Wx e2 g) (hm : behindInMarks .In e2 = false := by first | exact nomark _ | rfl) : DT X T Wx (.Compare e [.In] [e2] pos) (fB (fIIn false f g)) :=
  PT_imp (pt_cmp (pc_iin hu ha hb) hm) fun _ _ _ q => tB_imp (fun _ _ _ => dInI_use) (tB_use q)
end
end
end DL
namespace DL
open PySem PySem.Spec PyProof.Rows L2
def mergeI (ds es : List (D × D)) : List (D × D) := es.foldl (fun acc p => match p.1 with
  | .int i => putI acc i p.2
  | _ => acc) ds
abbrev mergeK (ks ls : List (Key × V)) : List (Key × V) := ls.foldl (fun acc kv => putK acc kv.1 kv.2) ks
theorem KV.merge : ∀ {ls : List (Key × V)} {ws : List (Key × Value)}, KV ls ws → ∀ {ks : List (Key × V)} {vs : List (Key × Value)}, KV ks vs → KV (mergeK ks ls) (merged vs ws) := by
  intro ls ws h
  unfold KV at h
  induction h with
  | nil => exact fun r => r
  | @cons p q ps qs h t ih =>
    intro ks vs r
    obtain ⟨h1, h2⟩ := h
    show KV (mergeK (putK ks p.1 p.2) ps) (merged (stored vs q.1 q.2) qs)
    rw [← h1]
    exact ih (r.put p.1 h2)
theorem mergeK_len : ∀ {ls ks : List (Key × V)}, (mergeK ks ls).length ≤ ks.length + ls.length
  | [], ks => by simp
  | p :: ls, ks => by
    show (mergeK (putK ks p.1 p.2) ls).length ≤ _
    have h1 := mergeK_len (ls := ls) (ks := putK ks p.1 p.2)
    have h2 := length_putK ks p.1 p.2
    simp only [List.length_cons]
    omega
section
variable [KFrag]
theorem IKs.merge {H : Hp} {A : Addr → Prop} : ∀ {ls : List (Key × V)} {es : List (D × D)}, IKs H A ls es → ∀ {ks : List (Key × V)} {ds : List (D × D)}, IKs H A ks ds → IKs H A (mergeK ks ls) (mergeI ds es)
  | _, _, .nil, _, _, k => k
  | _, _, .cons (i := i) (v := v) (ks := ls) (y := y) (ds := es) f t, ks, ds, k => by
    show IKs H A (mergeK (putK ks (.inl i) v) ls) (mergeI (putI ds i y) es)
    exact IKs.merge t (k.put f)
def rUpdI : V → List V → Hp → VK → Prop := fun x xs H Q => ∃ a b ks ls, x = .ref a ∧ xs = [.ref b] ∧ a ≠ b ∧ H a = some (.dK ks) ∧ Rd H b (.dK ls) ∧ ks.length + ls.length ≤ sizeLine ∧ Q .non (upd H a (.dK (mergeK ks ls)))
theorem mt_updI {X : Cx} : MtR X "dict.update" rUpdI := by
  intro pins s σ H x vs v us Q I rx rv ⟨a, b, ks, ls, ex, ev, hne, ea, eb, hz, q⟩
  subst ex ev
  obtain rfl : v = Value.ref a := rx
  cases rv with
  | cons r1 r2 =>
  cases r2
  cases (show _ = Value.ref b from r1)
  obtain ⟨z1, hd1, vs, rel1, dd1⟩ := dk_of I.hok ea
  obtain ⟨z2, hd2, ws, rel2, dd2⟩ := dk_rd I.hok eb
  refine call_meetsIn PySem.F.slot_dict_update dd1.typeIs PySem.F.entry_dict_update (PySem.F.args_dict_update_2 _ _) (meets_dict_update (mixKind X.prog X.w) a b hne hd2) ⟨vs, ws, dd1, dd2, by rw [← rel1.length, ← rel2.length]; exact hz, fun h' dd' _ hs => ?_⟩
  have he : ∃ q, h'.get? a = some q := let ⟨q, _, _, hq, _⟩ := dd'; ⟨q, hq⟩
  exact ⟨.non, _, d_write (t' := s.toks) I (by rw [ea]; exact True.intro) hs he (dk_new (Nat.le_trans mergeK_len hz) hd1 (KV.merge rel2 rel1) dd'), rfl, q⟩
/-! over cells -/
def onI (k : Nat → CS → RT) (w : W) (s : CS) : RT := match w with
  | .c n => match s[n]? with
    | some (.dct (p :: _)) => if isMk p = true then k n s else .bad
    | _ => .bad
  | _ => .bad
def difC (u : W) (n : Nat) : Bool := match u with
  | .c m => !decide (m = n)
  | _ => true
def updI (n : Nat) (u : W) (s : CS) (ρ : En) : RT := match dctI (.c n) s, dctI u s with
  | some ds, some es => if difC u n = true ∧ ds.length + es.length ≤ line then .nx ρ (s.set n (.dct (mark :: mergeI ds es))) else .bad
  | _, _ => .bad
def gUpdI (f g : En → CS → R W) (ρ : En) (s : CS) : RT := (f ρ s).toT ρ (onI fun n s => (g ρ s).toT ρ fun u s => updI n u s ρ)
theorem dctI_c {s : CS} {n : Nat} {ds : List (D × D)} (e : dctI (.c n) s = some ds) : s[n]? = some (.dct (mark :: ds)) := by
  unfold dctI at e
  simp only at e
  split at e
  · rename_i p t z
    split at e
    · rename_i hm
      cases e
      rw [isMk_is hm] at z
      exact z
    · cases e
  · cases e
section
variable {X : Cx} [HK X] {T : TX} {Wx : WXc} {e e2 : Expr} {f g : En → CS → R W} {fs : En → CS → R (List W)} {p p2 pos apos : Pos}
theorem ds_updI (ha : DE X T Wx e f) (hb : DE X T Wx e2 g) (hbase : attributeBase e "update" X.env (eval e X.env) = eval e X.env := by rfl)
    (hfew : ((backTo p2 (starEach [e2] X.env)).all (fun x => !x.1) && (backToKw p2 (keywordEach [] X.env)).all (fun x => x.1.isSome) && decide ([e2].length + ([] : List Keyword).length + (if ([] : List Keyword).isEmpty then 0 else 1) < 30)) = true := by rfl)
    (hline : (apos.endLine == p2.line) = true := by rfl) (hs : starEach [e2] X.env = (false, eval e2 X.env) :: starEach [] X.env := by rfl) (hplain : (backTo p2 (starEach [] X.env)).any (·.1) = false := by rfl)
    (hsw : swapsWith (.Call (.Attribute e "update" apos) [e2] [] p2) none pos.line X.env = pure false := by rfl) : DS X T Wx (.Expr (.Call (.Attribute e "update" apos) [e2] [] p2) pos) (gUpdI f g) :=
  PS_imp (ps_expr (pe_bm PySem.F.plainAttrs_dict PySem.F.slot_dict_update PySem.F.type_dict_update mt_updI ha (pa_cons hb pa_nil hs) hbase hfew hline hs hplain) hsw) fun D σ H ⟨B, μ, s, ρ, r, e, q⟩ =>
  tD_bindT r e q fun w s1 x μ1 H1 st1 r1 e1 rel1 q1 => by
    unfold onI at q1
    split at q1
    · rename_i n
      split at q1
      · rename_i pp t hn
        split at q1
        · rename_i hm
          rw [isMk_is hm] at hn
          obtain ⟨a, ev, ha⟩ := rel1
          subst ev
          obtain ⟨ks, ea, _⟩ := CellOk.mk (r1.cell n a _ ha hn)
          refine ⟨.inr (.inr (.inl ⟨rfl, .inl ⟨ks, ea⟩⟩)), ?_⟩
          exact tD_bindT r1 e1 q1 fun u s2 y μ2 H2 st2 r2 e2 rel2 q2 => by
            have ha2 : μ2[n]? = some a := by
              obtain ⟨t, rfl⟩ := st2.pre
              rw [List.getElem?_append_left (List.getElem?_eq_some_iff.mp ha).1]
              exact ha
            unfold updI at q2
            split at q2
            · rename_i ds es h1 h2
              split at q2
              · rename_i hz
                have hc := dctI_c h1
                obtain ⟨ks2, ea2, k2⟩ := CellOk.mk (r2.cell n a _ ha2 hc)
                obtain ⟨b, ls, eb, rb, k3⟩ := dctI_rd r2 rel2 h2
                have hne : a ≠ b := fun z => by
                  subst z
                  unfold dctI at h2
                  split at h2
                  · rename_i m
                    obtain ⟨b', e3, hb'⟩ := rel2
                    rw [eb] at e3
                    cases e3
                    have := hz.1
                    simp [difC, r2.inj m n a hb' ha2] at this
                  · rename_i pp2 t2
                    rcases rel2 with ⟨b', o, es', e3, e4, _, _⟩ | ⟨b', o, ks', r', _, e3, e4, _, _⟩
                    · rw [eb] at e3
                      cases e3
                      rw [ea2] at e4
                      cases e4
                    · rw [eb] at e3
                      cases e3
                      rw [ea2] at e4
                      cases e4
                  · cases h2
                obtain ⟨a1, a2⟩ := putCc (o := .dK (mergeK ks2 ls)) (c1 := .dct (mark :: mergeI ds es)) r2 ha2 hc (by simp) fun H' A' kk e => .inr ⟨_, _, rfl, e, (IKs.merge k3 k2).kp kk⟩
                refine ⟨a, b, ks2, ls, rfl, by rw [eb], hne, ea2, rb, ?_, ?_⟩
                · rw [k2.len, k3.len, line_eq]
                  exact hz.2
                · exact q2 σ _ _ a2 a1 (e2.stp a2)
              · exact q2.elim
            · exact q2.elim
        · exact q1.elim
      · exact q1.elim
    · exact q1.elim
/-! sorted -/
theorem IKs.keys {H : Hp} {A : Addr → Prop} : ∀ {ks : List (Key × V)} {ds : List (D × D)}, IKs H A ks ds → Fzs H A (ks.map fun kv => kV kv.1) (ds.map (·.1))
  | _, _, .nil => .nil
  | _, _, .cons _ t => .cons (.int _) (IKs.keys t)
def rSortI : List V → Hp → VK → Prop := fun vs H Q => ∃ A a ks ds es, vs = [.ref a] ∧ Rd H a (.dK ks) ∧ IKs H A ks ds ∧ srtD (ds.map (·.1)) = some es ∧ ∀ ys p, Fzs H A ys es → H p = none → Q (.ref p) (upd H p (.lst ys))
theorem cr_sortI (hc : X.calm = true) (hu : X.A.units + 64 < cLine) : CallR X (.builtin "sorted") rSortI := by
  rintro pins s σ H vs us Q I rv ⟨A, a, ks, ds, es, rfl, e, kp, h, q⟩
  cases rv with
  | cons r1 r2 =>
  cases r2
  cases (show _ = Value.ref a from r1)
  obtain ⟨z, hs, ws, rel, dd⟩ := dk_rd I.hok e
  obtain ⟨ep, hat⟩ := dd.dictAt
  have hl : ks.length = ws.length := Paired.length rel
  obtain ⟨_, ok⟩ := srt_merge h
  obtain ⟨f1, f2, f3⟩ := srt_facts ok
  refine Calls.call_function_entry PyProof.Rows.kind_sorted PyProof.Rows.plain_sorted PyProof.Rows.entry_sorted (PyProof.Rows.args_sorted1 _) ?_
  unfold Builtin.«sorted»
  refine wpAny_bind (m := checkCount "sorted" 1 1 _) (wpAny_pure ?_)
  refine wpAny_bind (PySem.W.kdu_collect (A := X.A.in1) (PySem.W.kdl_dict (knd := mixKind X.prog X.w) (kvs := ws) (ep := ep) hs) (I.ok.hd hc) hat (by rw [← hl]; exact z) fun h' tk acc hk hacc => ?_)
  have vr : Vals (ks.map fun kv => kV kv.1) acc.toList := vals_of_at (by rw [List.length_map, hl, ← hacc.1]; exact (Array.length_toList ..).symm) fun j x w h1 h2 => by
    obtain ⟨k, y, hky, hi⟩ := hacc.2 j w (by rw [← Array.getElem?_toList]; exact h2)
    have e1 : (ks.map (·.1))[j]? = some k := by rw [KV.keys rel, List.getElem?_map, hky] <;> rfl
    rw [List.getElem?_map] at h1 e1
    cases hx : ks[j]? with
    | none => rw [hx] at h1; cases h1
    | some kv =>
      rw [hx] at h1 e1
      cases h1
      cases e1
      exact keyIs_rel hi
  have fz := kp.keys
  have I1 : Inv X pins σ H { s with heap := h', toks := tk } := I.kept hk
  have hal : acc.toList.length = ks.length := by rw [← vr.length, List.length_map]
  refine wpAny_bind (wpAny_newList ?_ (by rw [hal]; exact z))
  show wpAny _ _ _ _ _ { s with heap := h'.push (seqObj "list" acc.toList.toArray 0), toks := tk }
  have hoL : (h'.push (seqObj "list" acc.toList.toArray 0)).get? h'.objs.size = some (seqObj "list" acc.toList.toArray 0) := Heap.get?_push_size _ rfl
  have I2 : Inv X pins σ H { s with heap := h'.push (seqObj "list" acc.toList.toArray 0), toks := tk } := I1.kept (t' := tk) fun b u z => Heap.get?_push_of_some _ z
  have el := each_of fz vr
  have ez := zip_snd fz
  have bl : ((ks.map fun kv => kV kv.1).zip (ds.map (·.1))).length = ks.length := by rw [List.length_zip, List.length_map, List.length_map, kp.len]; omega
  refine wpAny_bind (wpAny_holding (PySem.W.list_sort_data (R := RVD H A) (enc := (·.2)) (vs := acc.toList) (bs := (ks.map fun kv => kV kv.1).zip (ds.map (·.1))) hoL el (each_readsN I2 el (zip_all f1)) (by rw [ez]; exact fun d hd d' hd' => sh_alike _ _ (f2 d hd d' hd')) (by rw [ez]; exact f3) (by rw [bl]; exact z)
    (fun b hb => by
      have := pl_depth 8 _ (zip_all f1 b hb)
      show X.A.units + 1 + 1 + _ < cLine
      omega) fun out ho1 ho2 => ?_))
  obtain ⟨ys, y1, y2⟩ := srt_out fz h ho2
  obtain ⟨c, he'⟩ := PyProof.Rows.sortedHeap_at (vs := acc.toList) (out := List.toArray out) hoL
  refine wpAny_pure ⟨_, rfl, .ref h'.objs.size, upd H h'.objs.size (.lst ys), I1.laid (t' := tk) (fun b u z => ?_) (Nat.le_refl _) ⟨?_, out, c, y1, he'⟩, rfl, q ys _ y2 (I1.hok.fresh (Nat.le_refl _))⟩
  · have hb : b < h'.objs.size := Heap.lt_size z
    rw [PyProof.Rows.sortedHeap_old (Nat.ne_of_lt hb) (by rw [size_push']; exact Nat.lt_succ_of_lt hb)]
    exact Heap.get?_push_of_some _ z
  · rw [y1.length, ho1, bl]
    exact z
def srtI (ws : List W) (s : CS) : R W := match ws with
  | [w] => match dctI w s with
    | some ds => (match srtD (ds.map (·.1)) with
      | some es => .ok (.d (.list es)) s
      | none => .bad)
    | none => .bad
  | _ => .bad
def fSrtI (fs : En → CS → R (List W)) (ρ : En) (s : CS) : R W := (fs ρ s).bind srtI
theorem de_srtI (hc : X.calm = true) (hu : X.A.units + 64 < cLine) (hg : Gl X "sorted") (hm : X.mg "sorted" = none) (hv : bootBuiltins "sorted" = some (.builtin "sorted")) (ha : DA X T Wx [e] fs)
    (he : starEach [e] X.env = (false, eval e X.env) :: starEach [] X.env := by rfl) (hpl : (backTo pos (starEach [] X.env)).any (·.1) = false := by rfl) : DE X T Wx (.Call (.Name "sorted" p) [e] [] pos) (fSrtI fs) :=
  PE_imp (pe_callB (cr_sortI hc hu) hg hm hv ha (by decide) (by decide) he hpl) fun σ H Q ⟨B, μ, s, ρ, r, e, q⟩ => tD_bind r e q fun ws s1 vs μ1 H1 st1 r1 e1 rel1 q1 => by
    replace rel1 : RWs B μ1 s1 H1 vs ws := rel1
    unfold srtI at q1
    split at q1
    · rename_i w
      cases rel1 with
      | cons a1 a2 =>
      cases a2
      split at q1
      · rename_i ds hd
        split at q1
        · rename_i es hs
          obtain ⟨a, ks, ex, rd, k⟩ := dctI_rd r1 a1 hd
          subst ex
          exact ⟨Av B μ1 s1, a, ks, ds, es, rfl, rd, k, hs, fun ys p fy hp => Fin.use (a := W) (w := .d (.list es)) q1 (same_upd hp) r1 (Fz.newL r1.bt' hp fy)⟩
        · exact q1.elim
      · exact q1.elim
    · exact q1.elim
end
end
end DL
namespace DL
open PySem PySem.Spec PyProof.Rows L2
section
variable [KFrag]
/-! ### what the law never comes to -/
def fBad {a : Type} (_ : En) (_ : CS) : R a := .bad
def gBad (_ : En) (_ : CS) : RT := .bad
section
variable {X : Cx} {T : TX} {Wx : WXc}
theorem de_bad {e : Expr} : DE X T Wx e fBad := ⟨fun pins s σ H Q I ⟨_, _, _, _, _, _, q⟩ => q.elim⟩
theorem da_bad {e : List Expr} : DA X T Wx e fBad := ⟨fun pos pins s σ H Q I ⟨_, _, _, _, _, _, q⟩ => q.elim⟩
theorem dt_bad {e : Expr} : DT X T Wx e fBad := ⟨fun pins s σ H Q I ⟨_, _, _, _, _, _, q⟩ => q.elim⟩
theorem di_bad {tg e : Expr} : DI X T Wx tg e fBad := ⟨fun pins s σ H Q I ⟨_, _, _, _, _, _, q⟩ => q.elim⟩
theorem ds_bad {st : Stmt} : DS X T Wx st gBad := ⟨fun pins s σ H D I ⟨_, _, _, _, _, _, q⟩ => q.elim⟩
theorem dss_bad {st : List Stmt} : DSs X T Wx st gBad := ⟨fun pins s σ H D I ⟨_, _, _, _, _, _, q⟩ => q.elim⟩
end
/-! ### or, of values of any kind -/
def fOrT (f g : En → CS → R W) (ρ : En) (s : CS) : R W := (f ρ s).bind fun w s => (toTr w s).bind fun b s => if b = true then .ok w s else g ρ s
section
variable {X : Cx} [HK X] {T : TX} {Wx : WXc} {a b : Expr} {rest : List Expr} {f g : En → CS → R W} {pos : Pos}
theorem toTr_use {B : Addr → Prop} {μ : List Addr} {s : CS} {H : Hp} {σ : L2.St} {v : V} {w : W} {k : Bool → CS → R W} {Q : VK} (r : SR B μ s H) (rel : RW B μ s H v w) (q : Fin T Wx B μ s H σ Q ((toTr w s).bind k)) :
    ∃ c, TruV X.K v H c ∧ Fin T Wx B μ s H σ Q (k c s) := by
  unfold toTr at q
  split at q
  · cases rel.data; exact ⟨_, rfl, q⟩
  · cases rel.data; exact ⟨_, rfl, q⟩
  · cases rel.data; exact ⟨_, rfl, q⟩
  · cases rel.data with
    | lst h1 f1 => exact ⟨_, .inl ⟨_, h1.sq, empty_fz f1⟩, q⟩
  · cases rel.data with
    | tup h1 f1 => exact ⟨_, .inr (.inl ⟨_, h1.sq, empty_fz f1⟩), q⟩
  · split at q
    · rename_i hs
      obtain ⟨a, rfl, ha⟩ := rel
      obtain ⟨xs, ea, f1⟩ := r.cell _ a _ ha hs
      exact ⟨_, .inl ⟨_, .of ea, empty_fz f1⟩, q⟩
    · exact q.elim
  · exact q.elim
theorem de_orT (h : DE X T Wx a f) (k : DE X T Wx (.BoolOp .Or (b :: rest) pos) g) : DE X T Wx (.BoolOp .Or (a :: b :: rest) pos) (fOrT f g) := PE_imp (pe_orT h k) fun σ H Q ⟨B, μ, s, ρ, r, e, q⟩ =>
  tD_bind r e q fun w s1 v μ1 H1 st1 r1 e1 rel1 q1 => by
    obtain ⟨c, tv, q2⟩ := toTr_use (X := X) r1 rel1 q1
    refine ⟨c, tv, ?_⟩
    cases c with
    | true => exact Fin.here (a := W) q2 r1 rel1
    | false => exact ⟨B, μ1, s1, ρ, r1, e1, q2⟩
end
/-! ### try, where nothing is raised -/
def gOnly (g : En → CS → RT) (ρ : En) (s : CS) : RT := match g ρ s with
  | .exc _ _ _ => .bad
  | r => r
theorem ds_tryOk {X : Cx} {T : TX} {Wx : WXc} {body : List Stmt} {h₀ : ExceptHandler} {hs : List ExceptHandler} {pos : Pos} {g : En → CS → RT} (hb : DSs X.nox T Wx0 body g) : DS X T Wx (.Try body (h₀ :: hs) [] [] pos) (gOnly g) :=
  PS_imp (ps_try_thru0 hb) fun D σ H ⟨B, μ, s, ρ, r, e, q⟩ => by
    refine ⟨B, μ, s, ρ, r, e, ?_⟩
    unfold gOnly at q
    cases z : g ρ s with
    | exc x ρ1 s1 => simp only [z] at q; exact q.elim
    | nx ρ1 s1 => simp only [z] at q; exact q
    | rt w s1 => simp only [z] at q; exact q
    | bk ρ1 s1 => simp only [z] at q; exact q
    | ct ρ1 s1 => simp only [z] at q; exact q
    | bad => simp only [z] at q; exact q
end
/-! ### enumerate over a dict that no one changes -/
section
variable {prog : Program} {w : World} {A : Around} {E : Value → Shared → Prop} {s : Shared}
theorem nextOf_key_item {it d : Addr} {i n ep : Nat} {od : Obj} {es : Array DictEntry} {en : DictEntry} {Q : Value → Shared → Prop} (hit : s.heap.IsKeyIter it d i n ep) (hod : s.heap.get? d = some od) (hdd : od.data = .dict es ep)
    (hsz : es.size = n) (hx : es[i]? = some en) (hQ : ∀ h', h'.IsKeyIter it d (i + 1) n ep → Heap.SameBut it s.heap h' → Q en.key { s with heap := h' }) : wpAny (model prog w) A (Builtin.SmallTypes.nextOf (.ref it)) Q E s := by
  obtain ⟨o, ho, hc, hd⟩ := id hit
  unfold Builtin.SmallTypes.nextOf
  refine wpAny_bind (wpAny_callSpecial?_slot (name := Str.ofString "__next__") hit.typeIs F.slot_dict_keyiterator_next
    (wpAny_call_entry F.slot_dict_keyiterator_next hit.typeIs F.entry_dict_keyiterator_next ?_ (F.args_dict_keyiterator_next_1 _)))
  refine wpAny_bind (wpAny_pure ?_)
  refine wpAny_bind ?_
  refine wpAny_bind ?_
  first | refine wpAny_bind (wpAny_typeNameOfWhole_keyiter hit.typeIs (wpAny_pure ?_)) | refine wpAny_bind (wpAny_typeNameOf_keyiter hit.typeIs (wpAny_pure ?_))
  refine wpAny_bind (wpAny_fieldsOf ho hd ?_)
  have hown : Builtin.Dict_items.ownsTuple "dict_keyiterator" = false := by decide
  simp only [hown, Bool.false_eq_true, if_false]
  show wpAny _ _ (if (Value.ref d == Value.none) = true then _ else _) _ _ s
  rw [if_neg (show ¬ ((Value.ref d == Value.none) = true) from Bool.false_ne_true)]
  refine wpAny_bind (wpAny_pure ?_)
  refine wpAny_bind (wpAny_dictEntries hod hdd ?_)
  rw [if_neg (by rw [hsz]; simp)]
  refine wpAny_bind (wpAny_pure ?_)
  refine wpAny_bind (wpAny_dictEpoch hod hdd ?_)
  rw [if_neg (by simp)]
  refine wpAny_pure ?_
  obtain ⟨hlt', hen⟩ := Array.getElem?_eq_some_iff.mp hx
  simp only [show ¬ ((i : Int) < 0) from by omega, if_false, Int.toNat_natCast, Array.getElem?_eq_getElem hlt']
  refine wpAny_bind ?_
  first | refine wpAny_bind (wpAny_typeNameOfWhole_keyiter hit.typeIs (wpAny_pure ?_)) | refine wpAny_bind (wpAny_typeNameOf_keyiter hit.typeIs (wpAny_pure ?_))
  refine wpAny_bind (wpAny_isOneOf_keyiter hit.typeIs ?_)
  show wpAny _ _ (setField (.ref it) 1 (rawInt ((i : Int) + 1)) >>= _) _ _ s
  refine wpAny_bind (wpAny_setField ho hd (by simp) ?_)
  have hit' : (s.heap.update it (Obj.mapFields (·.setIfInBounds 1 (rawInt ((i : Int) + 1))))).IsKeyIter it d (i + 1) n ep :=
    ⟨_, Heap.get?_update_self _ ho (Obj.isFreed_of_fields (Obj.data_mapFields hd _)), (Obj.cls_mapFields ..).trans hc, by rw [Obj.data_mapFields hd]; simp [rawInt]⟩
  refine wpAny_bind (wpAny_holding ?_)
  refine wpAny_bind (wpAny_isOneOf_keyiter (s := { s with heap := s.heap.update it (Obj.mapFields (·.setIfInBounds 1 (rawInt ((i : Int) + 1)))) }) hit'.typeIs ?_)
  show wpAny _ _ (pure es[i].key) _ _ _
  rw [hen]
  exact wpAny_pure (wpAny_pure ⟨_, rfl, wpAny_pure (hQ _ hit' (Heap.SameBut.update ..))⟩)
theorem nextOf_key_end {it d : Addr} {i n ep : Nat} {od : Obj} {es : Array DictEntry} {Q : Value → Shared → Prop} (hh : A.handled = none) (hit : s.heap.IsKeyIter it d i n ep) (hod : s.heap.get? d = some od) (hdd : od.data = .dict es ep)
    (hsz : es.size = n) (hge : n ≤ i) (hE : ∀ h' e, Heap.ExtBut it s.heap h' → (∃ o, h'.get? e = some o ∧ o.cls = .type "StopIteration") → E (.ref e) { s with heap := h' }) : wpAny (model prog w) A (Builtin.SmallTypes.nextOf (.ref it)) Q E s := by
  obtain ⟨o, ho, hc, hd⟩ := id hit
  unfold Builtin.SmallTypes.nextOf
  refine wpAny_bind (wpAny_callSpecial?_slot (name := Str.ofString "__next__") hit.typeIs F.slot_dict_keyiterator_next
    (wpAny_call_entry F.slot_dict_keyiterator_next hit.typeIs F.entry_dict_keyiterator_next ?_ (F.args_dict_keyiterator_next_1 _)))
  refine wpAny_bind (wpAny_pure ?_)
  refine wpAny_bind ?_
  refine wpAny_bind ?_
  first | refine wpAny_bind (wpAny_typeNameOfWhole_keyiter hit.typeIs (wpAny_pure ?_)) | refine wpAny_bind (wpAny_typeNameOf_keyiter hit.typeIs (wpAny_pure ?_))
  refine wpAny_bind (wpAny_fieldsOf ho hd ?_)
  have hown : Builtin.Dict_items.ownsTuple "dict_keyiterator" = false := by decide
  simp only [hown, Bool.false_eq_true, if_false]
  show wpAny _ _ (if (Value.ref d == Value.none) = true then _ else _) _ _ s
  rw [if_neg (show ¬ ((Value.ref d == Value.none) = true) from Bool.false_ne_true)]
  refine wpAny_bind (wpAny_pure ?_)
  refine wpAny_bind (wpAny_dictEntries hod hdd ?_)
  rw [if_neg (by rw [hsz]; simp)]
  refine wpAny_bind (wpAny_pure ?_)
  refine wpAny_bind (wpAny_dictEpoch hod hdd ?_)
  rw [if_neg (by simp)]
  refine wpAny_pure ?_
  have hge' : es.size ≤ i := by rw [hsz]; exact hge
  simp only [show ¬ ((i : Int) < 0) from by omega, if_false, Int.toNat_natCast, Array.getElem?_eq_none hge']
  refine wpAny_bind ?_
  first | refine wpAny_bind (wpAny_typeNameOfWhole_keyiter hit.typeIs (wpAny_pure ?_)) | refine wpAny_bind (wpAny_typeNameOf_keyiter hit.typeIs (wpAny_pure ?_))
  show wpAny _ _ (setField (.ref it) 0 .none >>= _) _ _ s
  refine wpAny_bind (wpAny_setField ho hd (by simp) ?_)
  show wpAny _ _ (newExc (.type "StopIteration") [] >>= _) _ _ _
  refine wpAny_bind ?_
  simp only [newExc, newTuple]
  refine wpAny_bind (wpAny_newObj_type ?_ (by size_fits))
  refine wpAny_bind (m := firstArgMember _ _) (wpAny_of_eq (a := Value.none) (by first | rfl | (simp only [firstArgMember]; rfl)) ?_)
  refine wpAny_newObj_type ?_ (by size_fits)
  simp only [raiseNew]
  refine wpAny_bind (wpAny_handled ?_)
  first | rw [show A.in1.handled = none from hh] | rw [hh]
  refine wpAny_bind (wpAny_pure (wpAny_throw ?_))
  exact hE _ _ (((Heap.SameBut.update ..).extBut.push _).push _) ⟨_, Heap.get?_push_size _ rfl, rfl⟩
theorem Draws.keys (hh : A.handled = none) (it d : Addr) (hne : d ≠ it) (od : Obj) (es : Array DictEntry) (ep : Nat) (hdd : od.data = .dict es ep) :
    Draws prog w A it [it, d] es.size (fun i v => ∃ en, es[i]? = some en ∧ v = en.key) (fun i h => h.IsKeyIter it d i es.size ep ∧ h.get? d = some od) where
  live := fun _ _ st => let ⟨o, ho, _⟩ := st.1; ⟨o, ho⟩
  frame := fun _ _ _ st hk => ⟨st.1.at fun o e => hk it (by simp) o e, hk d (by simp) _ st.2⟩
  item := fun i s Q E hi st hQ => by
    refine nextOf_key_item st.1 st.2 hdd rfl (en := es[i]) (by simp [hi]) fun h' hit' hs' => ?_
    exact hQ _ h' s.toks ⟨_, by simp [hi], rfl⟩ ⟨hit', (hs'.2 d hne).trans st.2⟩ hs'
  done := fun s Q E st hE => nextOf_key_end hh st.1 st.2 hdd rfl (Nat.le_refl _) hE
theorem enumN_end {e it d : Addr} {c : Int} {i n ep : Nat} {od : Obj} {es : Array DictEntry} {old : Value} {Q : Option Value → Shared → Prop} (hh : A.handled = none)
    (he : IsEnum s.heap e it c old) (hit : s.heap.IsKeyIter it d i n ep) (hod : s.heap.get? d = some od) (hdd : od.data = .dict es ep) (hsz : es.size = n) (hge : n ≤ i) (hQ : ∀ h', Heap.ExtBut it s.heap h' → Q none { s with heap := h' }) : wpAny (model prog w) A (pyNext (.ref e)) Q E s := by
  have hT : s.TypeIs (.ref e) "enumerate" := ⟨_, he, rfl⟩
  unfold pyNext
  refine wpAny_bind (wpAny_attempt (wpAny_callSpecial?_slot (name := Str.ofString "__next__") hT F.slot_enumerate_next
    (wpAny_call_entry F.slot_enumerate_next hT F.entry_enumerate_next ?_ (F.args_enumerate_next_1 _))))
  show wpAny _ _ (field (.ref e) 2 >>= _) _ _ _
  refine wpAny_bind (wpAny_field he rfl (x := .ref it) rfl ?_)
  refine wpAny_bind (nextOf_key_end (A := A.in1) hh hit hod hdd hsz hge fun h' x he' hx' => ?_)
  obtain ⟨o, ho, hc⟩ := hx'
  refine wpAny_bind (wpAny_isInstance (T := "StopIteration") (b := true) ⟨o, ho, hc⟩ isSubtype_stop ?_)
  exact wpAny_pure (hQ _ he')
end
/-- the keys of the dict at d, each in a new pair -/
def IteN (w : World) (d : Addr) (o : Obj) (es : List (NestedKey × Addr × V)) : It :=
  ⟨fun i H => H d = some (.frz o (DObj w d es)) ∧ i < es.length, fun i H v H' => ∃ T, ∃ e : NestedKey × Addr × V, v = .ref T ∧ H T = none ∧ H' = upd H T (.tup [.int (i : Nat), .ref e.2.1]) ∧ es[i]? = some e,
    fun i H => H d = some (.frz o (DObj w d es)) ∧ es.length ≤ i⟩
theorem turn_enumN [KFrag] {P : Program} {w : World} {K : PySem.W.Frag} {elts : List Expr} {kk : Nat} {tpos : Pos} {d : Addr} {o : Obj} {eps : Array DictEntry} {ep : Nat} {es : List (NestedKey × Addr × V)} (e it : Addr) (hod : o.data = .dict eps ep) :
    Turn P w K (.Tuple elts kk tpos) (IteN w d o es) [e, it] e (fun i h => (∃ old, IsEnum h e it ((i : Nat) : Int) old) ∧ h.IsKeyIter it d i es.length ep ∧ e ≠ it ∧ d ≠ it ∧ d ≠ e) where
  mem := by simp
  obj := fun i h st b hb => by
    obtain ⟨⟨old, he⟩, ⟨o, ho, hc, hd⟩, _⟩ := st
    have e' : b = e ∨ b = it := by simpa using hb
    rcases e' with z | z
    · rw [z]; exact ⟨_, he, fun v q => nomatch q⟩
    · rw [z]; exact ⟨o, ho, fun v q => by rw [hd] at q; cases q⟩
  keep := fun i h h' st k => let ⟨⟨old, he⟩, hi, hne, h2, h3⟩ := st; ⟨⟨old, k e (by simp) _ he⟩, hi.at fun o q => k it (by simp) o q, hne, h2, h3⟩
  item := by
    intro X hP hw hK hc i pins s σ H E I hf st hg
    subst hP hw hK
    obtain ⟨⟨old, he⟩, hit, hne, hdi, hde⟩ := st
    obtain ⟨hd, hi⟩ := hg
    obtain ⟨hs, hgd, hx, es', ep', hdt, hsz, ent⟩ := frzN I hd
    obtain ⟨rfl, rfl⟩ := dict_ep hod hdt
    obtain ⟨en, hen, hkey⟩ := ent i es[i] (List.getElem?_eq_getElem hi)
    have hel : e < s.heap.objs.size := Heap.lt_size he
    have hil : it < s.heap.objs.size := by obtain ⟨_, q, _⟩ := id hit; exact Heap.lt_size q
    refine wpAny_pyNext_enum_itemD (n := es'.size) (fp := [it, d]) (P := fun i v => ∃ en, es'[i]? = some en ∧ v = en.key) (St := fun i h => h.IsKeyIter it d i es'.size ep' ∧ h.get? d = some o)
      (Draws.keys (A := X.A.in1) (show X.A.in1.handled = none from I.ok.hd hc) it d hdi o es' ep' hdt) he ⟨by rw [hsz]; exact hit, hgd⟩ (by rw [hsz]; exact hi) hne (by simp [hne, Ne.symm hde]) fun x' h' tk hP ho hit' hT hsz' hk => ?_
    have ex : x' = .ref es[i].2.1 := by
      obtain ⟨en2, h2, h3⟩ := hP
      rw [hen] at h2
      cases h2
      rw [h3, hkey]
    subst ex
    refine ⟨_, rfl, wpAny_letOwnedTupleGo_enum (s := { s with heap := h', toks := tk + 1 }) ho fun h'' he' sb => ?_⟩
    have hT2 : h''.get? s.heap.objs.size = some { cls := .type "tuple", data := .seq #[.int i tk, .ref es[i].2.1] } := (sb.2 _ (Nat.ne_of_gt hel)).trans hT
    have new : ObjOk X.prog X.w (upd H s.heap.objs.size (.tup [.int (i : Nat), .ref es[i].2.1])) h'' s.heap.objs.size (.tup [.int (i : Nat), .ref es[i].2.1]) :=
      ⟨by show 2 ≤ sizeLine; decide, [.int i tk, .ref es[i].2.1], .cons ⟨_, rfl⟩ (.cons rfl .nil), ⟨_, hT2, rfl, _, rfl⟩⟩
    have I1 : Inv X pins σ (upd H s.heap.objs.size (.tup [.int (i : Nat), .ref es[i].2.1])) { s with heap := h'', toks := tk + 1 } :=
      I.turnedNew (ch := [e, it]) (fun b ob hb q => (sb.2 b (fun z => hb (by simp [z]))).trans (hk b ob (fun z => hb (by simp [z])) (fun z => hb (by simp [z])) q)) hf (Nat.le_refl _) new
    refine ⟨.ref s.heap.objs.size, _, I1, rfl, ⟨_, es[i], rfl, I.hok.fresh (Nat.le_refl _), rfl, List.getElem?_eq_getElem hi⟩, ⟨⟨.ref es[i].2.1, ?_⟩, ?_, hne, hdi, hde⟩, fun b hb => ?_⟩
    · have e1 : ((i + 1 : Nat) : Int) = (i : Int) + 1 := by omega
      rw [e1]
      exact he'
    · have q := hit'.1.at fun o q => (sb.2 it (Ne.symm hne)).trans q
      rw [hsz] at q
      exact q
    · have hb' : b < s.heap.objs.size := by
        have e' : b = e ∨ b = it := by simpa using hb
        rcases e' with z | z
        · rw [z]; exact hel
        · rw [z]; exact hil
      rw [upd_ne (Nat.ne_of_lt hb')]
      exact (hf b hb).1
  done := by
    intro X hP hw hK hc i pins s σ H E I hf st hg
    subst hP hw hK
    obtain ⟨⟨old, he⟩, hit, hne, hdi, hde⟩ := st
    obtain ⟨hd, hi⟩ := hg
    obtain ⟨hs, hgd, hx, es', ep', hdt, hsz, ent⟩ := frzN I hd
    obtain ⟨rfl, rfl⟩ := dict_ep hod hdt
    obtain ⟨f0, f1, f2, f3, f4, f5⟩ := hf it (by simp)
    exact enumN_end (I.ok.hd hc) he hit hgd hdt hsz hi fun h' eb => ⟨rfl, I.turned (t' := s.toks) (fun b o hb q => eb b o hb q) f0 f1 f3 f4 f5⟩
  self := fun A i s Q E st h => let ⟨⟨_, he⟩, _⟩ := st; wpAny_pyIter_enum he h
def YeN (es : List (NestedKey × Addr × V)) (i : Nat) (H : Hp) (v : V) (H' : Hp) : Prop := ∃ T, ∃ e : NestedKey × Addr × V, v = .ref T ∧ H T = none ∧ H' = upd H T (.tup [.int (i : Nat), .ref e.2.1]) ∧ es[i]? = some e
theorem walk_enumN {w : World} {d : Addr} {o : Obj} {es : List (NestedKey × Addr × V)} : Walk (IteN w d o es) es.length (fun H => H d = some (.frz o (DObj w d es))) (YeN es) :=
  ⟨fun _ _ hi q => ⟨q, hi⟩, fun _ q => ⟨q, Nat.le_refl _⟩, fun _ _ _ _ _ _ y => y⟩
theorem begins_keys (d : Addr) (od : Obj) (eps : Array DictEntry) (ep : Nat) (hs : (d == sysModules) = false) (hx : od.ExactDict) (hdd : od.data = .dict eps ep) :
    Begins (.ref d) { cls := .type "dict_keyiterator", data := .fields #[.ref d, rawInt 0, rawInt eps.size, rawInt ep] } (fun h => h.get? d = some od) where
  iter := fun prog w A E s Q hl h => iter_keys hs hl hx hdd h
  keeps := fun h h' x hk => hk d od x
  free := rfl
section
variable [KFrag]
theorem pi_enN {X : Cx} {e : Expr} {ta : TA} {p pos tpos : Pos} {elts : List Expr} {kk : Nat} (hg : Gl X "enumerate") (hm : X.mg "enumerate" = none) (ha : PA X [e] ta) (hs : starEach [e] X.env = [(false, eval e X.env)] := by rfl) :
    PI X (.Tuple elts kk tpos) (.Call (.Name "enumerate" p) [e] [] pos) (fun σ H R => ta σ H fun vs H1 => ∃ d o es, vs = [.ref d] ∧ H1 d = some (.frz o (DObj X.w d es)) ∧ R (IteN X.w d o es) H1) := by
  refine ⟨fun pins s σ H R I h => ?_⟩
  refine Call_ (ld_blt I hg hm boot_enumerate (PyProof.Rows.callWith_type1 (thn (ha.run pos pins s σ H _ I h) fun us s1 ⟨vs, H1, I1, r1, q1⟩ => ?_) hs rfl))
  obtain ⟨d, o, es, ex, hd, q⟩ := q1
  subst ex
  cases r1 with
  | cons r rr =>
    cases rr
    cases r
    have fresh : ∀ b ∈ [s1.heap.objs.size + 1, s1.heap.objs.size], FpOk X pins H1 b := fun b hb => by
      have e' : b = s1.heap.objs.size + 1 ∨ b = s1.heap.objs.size := by simpa using hb
      have hle : s1.heap.objs.size ≤ b := by
        rcases e' with z | z
        · rw [z]; exact Nat.le_add_right _ _
        · rw [z]; exact Nat.le_refl _
      exact I1.fpOk hle (I1.hok.fresh hle)
    obtain ⟨hss, hgd, hx, eps, ep, hdt, hsz, ent⟩ := frzN I1 hd
    have la : d < s1.heap.objs.size := Heap.lt_size hgd
    refine call_enum1 (begins_keys d o eps ep hss hx hdt) hgd fun h' he hit hsz' hk => wpAny_pyIter_enum he ?_
    refine ⟨_, _, _, _, H1, rfl, I1.kept (t' := s1.toks) hk, turn_enumN (s1.heap.objs.size + 1) s1.heap.objs.size hdt, ⟨⟨.none, he⟩, ?_, Nat.succ_ne_self _, Nat.ne_of_lt la, Nat.ne_of_lt (Nat.lt_succ_of_lt la)⟩, fresh, q⟩
    refine ⟨_, hit, rfl, ?_⟩
    rw [hsz] <;> rfl
def enuK : List W → CS → R (List D)
  | [.fd ds], s => if unm ds = true then .ok (enuD 0 (ds.map (·.1))) s else .bad
  | _, _ => .bad
def fEnuK (fs : En → CS → R (List W)) (ρ : En) (s : CS) : R (List D) := (fs ρ s).bind enuK
theorem itr_enuN {B : Addr → Prop} {μ : List Addr} {s : CS} {H : Hp} {d : Addr} {o : Obj} {es : List (NestedKey × Addr × V)} {ds : List (D × D)} (h : H d = some (.frz o (DObj KFrag.w d es))) (n : ¬ Av B μ s d) (f : KPs H (Av B μ s) es ds) : ItR B μ s H (IteN KFrag.w d o es) (enuD 0 (ds.map (·.1))) := by
  refine ⟨fun H => H d = some (.frz o (DObj KFrag.w d es)), YeN es, ?_, fun H' A' k bt => k.keep _ _ h n, fun i H' A' v H'' k bt hi y => ?_⟩
  · rw [enuD_len, List.length_map, ← f.len]
    exact walk_enumN
  · obtain ⟨T, e, rfl, hT, rfl, e2⟩ := y
    obtain ⟨x, e3, e4⟩ := (f.kp k).get e2
    refine ⟨same_upd hT, _, enuD_at (x := x.1) (by rw [List.getElem?_map, e3]; rfl), ?_⟩
    rw [Nat.zero_add]
    exact Fz.newT bt hT (.cons (.int _) (.cons e4 .nil))
theorem di_enuK {X : Cx} [HK X] {T : TX} {Wx : WXc} {e : Expr} {fs : En → CS → R (List W)} {p pos tpos : Pos} {elts : List Expr} {kk : Nat} (hw : X.w = KFrag.w) (hg : Gl X "enumerate") (hm : X.mg "enumerate" = none) (ha : DA X T Wx [e] fs) (hs : starEach [e] X.env = [(false, eval e X.env)] := by rfl) : DI X T Wx (.Tuple elts kk tpos) (.Call (.Name "enumerate" p) [e] [] pos) (fEnuK fs) :=
  PI_imp (pi_enN hg hm ha hs) fun σ H Q ⟨B, μ, s, ρ, r, e, q⟩ => tD_bind r e q fun w s1 v μ1 H1 st1 r1 e1 rel1 q1 => by
    replace rel1 : RWs B μ1 s1 H1 v w := rel1
    unfold enuK at q1
    split at q1
    · split at q1
      · rename_i ds hu
        cases rel1 with
        | cons g t =>
          cases t
          have g : FD H1 (Av B μ1 s1) _ ds := g
          obtain ⟨a, o, es, rfl, h1, h2, h3⟩ := g.un hu
          rw [hw]
          exact ⟨a, o, es, rfl, h1, Fin.here (a := List D) q1 r1 (itr_enuN h1 h2 h3)⟩
      · exact q1.elim
    · exact q1.elim
end
end DL
namespace DL
open PySem PySem.Spec PyProof.Rows L2
section
variable [KFrag]
/-! ### sum of whole numbers, is of truths, constants of the written part -/
def sumD : List D → Option D
  | [.list ds] => (intsD ds).map fun ns => .int ns.sum
  | _ => none
theorem ints_of {H : Hp} {A : Addr → Prop} : ∀ {xs : List V} {ds : List D} {ns : List Int}, Fzs H A xs ds → intsD ds = some ns → xs = ns.map V.int
  | _, _, _, .nil, e => by cases e; rfl
  | _, _, _, .cons (d := d) (ds := ds) h t, e => by
    cases d with
    | int i =>
      unfold intsD at e
      cases z : intsD ds with
      | none => rw [z] at e; cases e
      | some ns =>
        rw [z] at e
        cases e
        cases h
        rw [ints_of t z] <;> rfl
    | _ => cases e
def isBD : D → D → Option D
  | .bool a, .bool b => some (.bool (decide (a = b)))
  | _, _ => none
def isnBD : D → D → Option D
  | .bool a, .bool b => some (.bool (!decide (a = b)))
  | _, _ => none
section
variable {X : Cx} [HK X]
theorem dc_sum (hc : X.calm = true) : DCall X (.builtin "sum") sumD := by
  intro pins s σ H xs us Q I r h
  obtain ⟨A, ds, z, bt, fz, e, q⟩ := h
  cases fz with
  | nil => cases e
  | cons h1 t =>
    cases t with
    | cons _ _ => cases h1 <;> cases e
    | nil =>
      cases h1 with
      | @lst a ys ds h1 f1 =>
        simp only [sumD] at e
        cases zb : intsD ds with
        | none => rw [zb] at e; cases e
        | some ns =>
          rw [zb] at e
          cases e
          have ey := ints_of f1 zb
          subst ey
          exact cr_sum hc pins s σ H _ us Q I r ⟨a, ns, rfl, h1.sq, q _ _ (Same.refl _) (.int _)⟩
      | _ => cases e
theorem dop_isB : DOp X (compareOp .Is) isBD := by
  intro pins s σ H x y v u Q I rx ry h
  obtain ⟨A, dx, dy, z, bt, fx, fy, e, q⟩ := h
  cases fx with
  | bl i =>
    cases fy with
    | bl j => cases e; exact op_is_bl pins s σ H _ _ v u Q I rx ry ⟨i, j, rfl, rfl, q _ _ (Same.refl _) (.bl _)⟩
    | _ => cases e
  | _ => cases fy <;> cases e
theorem dop_isnB : DOp X (compareOp .IsNot) isnBD := by
  intro pins s σ H x y v u Q I rx ry h
  obtain ⟨A, dx, dy, z, bt, fx, fy, e, q⟩ := h
  cases fx with
  | bl i =>
    cases fy with
    | bl j => cases e; exact op_isnot_bl pins s σ H _ _ v u Q I rx ry ⟨i, j, rfl, rfl, q _ _ (Same.refl _) (.bl _)⟩
    | _ => cases e
  | _ => cases fy <;> cases e
/-- not, of values of any kind -/
def fNotT (f : En → CS → R W) (ρ : En) (s : CS) : R W := (f ρ s).bind fun w s => (toTr w s).bind fun b s => .ok (.d (.bool (!b))) s
theorem de_notT {T : TX} {Wx : WXc} {a : Expr} {f : En → CS → R W} {pos : Pos} (h : DE X T Wx a f) : DE X T Wx (.UnaryOp .Not a pos) (fNotT f) := PE_imp (pe_notT h) fun σ H Q ⟨B, μ, s, ρ, r, e, q⟩ =>
  tD_bind r e q fun w s1 v μ1 H1 st1 r1 e1 rel1 q1 => by
    obtain ⟨c, tv, q2⟩ := toTr_use (X := X) r1 rel1 q1
    exact ⟨c, tv, Fin.here (a := W) q2 r1 (Fz.bl _)⟩
/-- a module's tuple of any shape -/
theorem de_gdat {T : TX} {Wx : WXc} {x : Str} {b : Addr} {d : D} {pos : Pos} (hg : Gl X x) (hm : X.mg x = some (.ref b)) (hf : ∀ (H : Hp) (A : Addr → Prop), Fz H A (.ref b) d) (hd : (x == ("__debug__" : Str)) = false := by decide) : DE X T Wx (.Name x pos) (fC d) :=
  de_const (v := .ref b) (pe_glob hg hm (show Value.ref b = Value.ref b from rfl) hd) hf
end
end
end DL
namespace DL
open PySem PySem.Spec PyProof.Rows L2
open PySem.W (KdlSrc TotalLe sameRank sort_unique sort_congr sortLe_total alike alikeAll dataLt dataLe AllAlike Sortable EachIs dataLt_all_yes dataLt_all_no keyToks keyToksAll dataLt_int dataLt_str dataLt_tuple)
/-! ### sorted, rows of unlike lengths, () ahead of all -/
mutual
def al : D → D → Bool
  | .int _, .int _ => true
  | .str _, .str _ => true
  | .tuple xs, .tuple ys => als xs ys
  | _, _ => false
def als : List D → List D → Bool
  | [], _ => true
  | _ :: _, [] => true
  | x :: xs, y :: ys => al x y && als xs ys
end
mutual
theorem al_alike : ∀ (x y : D), al x y = true → alike x y = true
  | .int _, y, h => by cases y <;> first | rfl | (simp [al] at h; done)
  | .str _, y, h => by cases y <;> first | rfl | (simp [al] at h; done)
  | .tuple xs, y, h => by
    cases y with
    | tuple ys =>
      unfold al at h
      unfold alike
      exact als_alike xs ys h
    | _ => simp [al] at h
  | .none, y, h => by cases y <;> simp [al] at h
  | .bool _, y, h => by cases y <;> simp [al] at h
  | .list _, y, h => by cases y <;> simp [al] at h
  | .dict _, y, h => by cases y <;> simp [al] at h
theorem als_alike : ∀ (x y : List D), als x y = true → alikeAll x y = true
  | [], [], _ => rfl
  | [], _ :: _, _ => rfl
  | _ :: _, [], _ => rfl
  | x :: xs, y :: ys, h => by
    unfold als at h
    unfold alikeAll
    rw [Bool.and_eq_true] at h ⊢
    exact ⟨al_alike x y h.1, als_alike xs ys h.2⟩
end
theorem ltL_al (n : Nat) (ih : ∀ x y, plD n x = true → al x y = true → ltX n x y = some (dataLt x y)) : ∀ xs ys : List D, xs.all (plD n) = true → als xs ys = true → ltL (ltX n) xs ys = some (PyProof.Rows.lexLt itemOrd (keyToksAll xs) (keyToksAll ys))
  | [], [], _, _ => by
    unfold ltL
    rfl
  | [], y :: ys, _, _ => by
    have q := PySem.W.firstLt_toks [] (y :: ys) rfl
    rw [← q]
    simp [ltL, SeqAt.firstLt]
  | x :: xs, [], _, _ => by
    have q := PySem.W.firstLt_toks (x :: xs) [] rfl
    rw [← q]
    simp [ltL, SeqAt.firstLt]
  | x :: xs, y :: ys, p, h => by
    rw [List.all_cons, Bool.and_eq_true] at p
    unfold als at h
    rw [Bool.and_eq_true] at h
    have a := al_alike x y h.1
    unfold ltL
    rw [eqF_eq]
    cases e : PyData.eqv x y with
    | true =>
      rw [if_pos rfl, PySem.W.dataLt_all_yes a e]
      exact ltL_al n ih xs ys p.2 h.2
    | false =>
      rw [if_neg Bool.false_ne_true, PySem.W.dataLt_all_no a e]
      exact ih x y p.1 h.1
theorem ltX_al : ∀ (n : Nat) (x y : D), plD n x = true → al x y = true → ltX n x y = some (dataLt x y)
  | n, .int i, y, _, h => by
    cases y with
    | int j => rw [PySem.W.dataLt_int]; cases n <;> rfl
    | _ => simp [al] at h
  | n, .str i, y, _, h => by
    cases y with
    | str j => rw [PySem.W.dataLt_str]; cases n <;> rfl
    | _ => simp [al] at h
  | 0, .tuple xs, y, p, _ => by simp [plD] at p
  | n + 1, .tuple xs, y, p, h => by
    cases y with
    | tuple ys =>
      rw [PySem.W.dataLt_tuple]
      have p' : xs.all (plD n) = true := by simpa [plD] using p
      have h' : als xs ys = true := by unfold al at h; exact h
      show ltL (ltX n) xs ys = _
      exact ltL_al n (ltX_al n) xs ys p' h'
    | _ => simp [al] at h
  | n, .none, y, _, h => by cases y <;> simp [al] at h
  | n, .bool _, y, _, h => by cases y <;> simp [al] at h
  | n, .list _, y, _, h => by cases y <;> simp [al] at h
  | n, .dict _, y, _, h => by cases y <;> simp [al] at h
def isT : D → Bool
  | .tuple _ => true
  | _ => false
def neT : D → Bool
  | .tuple (_ :: _) => true
  | _ => false
theorem isT_of {d : D} (h : isT d = true) : ∃ xs, d = .tuple xs := by cases d <;> first | exact ⟨_, rfl⟩ | cases h
theorem neT_of {d : D} (h : neT d = true) : ∃ x r, d = .tuple (x :: r) := by
  cases d with
  | tuple xs => cases xs with
    | nil => cases h
    | cons x r => exact ⟨x, r, rfl⟩
  | _ => cases h
def headT : List D → Bool
  | .tuple [] :: r => r.all isT
  | ds => ds.all neT
def srtOk2 (ds : List D) : Bool := ds.all (plD 8) && (ds.all (fun x => ds.all (al x)) && headT ds)
def srtD2 (ds : List D) : Option (List D) := if srtOk2 ds = true then some (isortL leK ds) else none
def Tup0 (ds : List D) : Prop := ∃ r, ds = .tuple [] :: r ∧ ∀ d ∈ r, ∃ xs, d = .tuple xs
theorem srt2_facts {ds : List D} (h : srtOk2 ds = true) : (∀ x ∈ ds, plD 8 x = true) ∧ (∀ x ∈ ds, ∀ y ∈ ds, al x y = true) ∧ (Tup0 ds ∨ PySem.W.Sortable ds) := by
  unfold srtOk2 at h
  rw [Bool.and_eq_true, Bool.and_eq_true] at h
  obtain ⟨h1, h2, h3⟩ := h
  refine ⟨List.all_eq_true.mp h1, fun x hx y hy => List.all_eq_true.mp (List.all_eq_true.mp h2 x hx) y hy, ?_⟩
  have go : ds.all neT = true → PySem.W.Sortable ds := fun z => .inl fun d hd => neT_of (List.all_eq_true.mp z d hd)
  unfold headT at h3
  split at h3
  · rename_i r
    exact .inl ⟨r, rfl, fun d hd => isT_of (List.all_eq_true.mp h3 d hd)⟩
  · exact .inr (go h3)
theorem srt2_merge {ds es : List D} (h : srtD2 ds = some es) : es = ds.mergeSort (dataLe false id) ∧ srtOk2 ds = true := by
  unfold srtD2 at h
  split at h
  · rename_i ok
    cases h
    obtain ⟨f1, f2, _⟩ := srt2_facts ok
    refine ⟨?_, ok⟩
    refine Eq.trans ?_ (isortL_eq (le := dataLe false id) (PySem.W.sortLe_total _ _ _) ds)
    refine isortL_congr fun x hx y hy => ?_
    unfold leK
    rw [ltX_al 8 y x (f1 y hy) (f2 y hy x hx)]
    rfl
  · cases h
section
variable {prog : Program} {w : World} {A : Around} {E : Value → Shared → Prop} {s : Shared}
theorem tup_lt_call {Q : Value → Shared → Prop} {l b : Addr} {us vs : Array Value} {e r : Nat → Bool} (hl : s.heap.IsTuple l us) (hb : s.heap.IsTuple b vs)
    (he : ∀ j (h1 : j < us.size) (h2 : j < vs.size), SeqAt.EqAt A.in1 s us[j] vs[j] (e j)) (hr : ∀ j (h1 : j < us.size) (h2 : j < vs.size), e j = false → SeqAt.RcLt A.in1 s us[j] vs[j] (r j))
    (h : Q (.bool (SeqAt.firstLt e r (decide (us.size < vs.size)) (List.range (min us.size vs.size)))) s) : wpAny (model prog w) A (call (.builtin "tuple.__lt__") [.ref l, .ref b]) Q E s := by
  obtain ⟨⟨cls, dd, data, sl⟩, ho, hc, n, hd⟩ := id hl
  obtain ⟨⟨cls2, dd2, data2, sl2⟩, ho2, hc2, n2, hd2⟩ := id hb
  simp only at hc hd hc2 hd2
  subst hc hd hc2 hd2
  exact call_meets F.slot_tuple_lt ⟨_, ho, rfl⟩ F.entry_tuple_lt (F.args_tuple_lt_2 _ _) (SeqAt.tuple_ltAt l b us vs n n2 dd dd2 sl sl2 e r) ⟨ho, ho2, he, hr, h⟩
open PySem.W in
theorem oneLt_tup {xs ys : List D} {a b : Value} {as bs : List Addr} {Q : Bool → Shared → Prop} (ra : Reads s.heap a (.tuple xs) as) (rb : Reads s.heap b (.tuple ys) bs) (h : alike (.tuple xs) (.tuple ys) = true)
    (hu : A.units + min (PyData.depth (.tuple xs)) (PyData.depth (.tuple ys)) < cLine) (hq : Q (dataLt (.tuple xs) (.tuple ys)) s) : wpAny (model prog w) A (oneLt' true a b) Q E s := by
  have hal : alikeAll xs ys = true := by simpa [alike] using h
  cases ra with
  | @tuple l o vs n _ as₁ h1 h2 h3 h4 =>
    cases rb with
    | @tuple l' o' vs' n' _ bs₁ k1 k2 k3 k4 =>
      have n1 : vs.size = xs.length := by simpa using SeqAt.ReadsAll.length _ _ _ h4
      have n2 : vs'.size = ys.length := by simpa using SeqAt.ReadsAll.length _ _ _ k4
      rw [dataLt_tuple, ← firstLt_toks xs ys hal, ← n1, ← n2] at hq
      rw [oneLt'_eq]
      simp only [if_true]
      refine wpAny_bind (wpAny_cRoomFor (SeqAt.room_here hu) ?_)
      refine wpAny_bind (wpAny_callSpecialIfBound?_slot (T := "tuple") ⟨_, h1, h2⟩ F.slot_tuple_lt (tup_lt_call (e := SeqAt.pairEq xs ys) (r := fun j => dataLt (xs.getD j .none) (ys.getD j .none)) ⟨_, h1, h2, _, h3⟩ ⟨_, k1, k2, _, k3⟩ (fun j j1 j2 => ?_) (fun j j1 j2 hj => ?_) ?_))
      · have := eqAt_alikeAll xs ys A.in1 s vs.toList vs'.toList _ _ h4 k4 hal (SeqAt.room_in hu) j (by simpa using j1) (by simpa using j2)
        simpa using this
      · have := rcLt_alikeAll xs ys A.in1 s vs.toList vs'.toList _ _ h4 k4 hal (SeqAt.room_in hu) j (by simpa using j1) (by simpa using j2) hj
        simpa using this
      · exact wpAny_truthy_bool hq
open PySem.W in
theorem firsts_of {M : Model} : ∀ {vs : List Value} {ds : List D}, EachIs (fun v d => ∃ as, Reads s.heap v d as) vs ds → (∀ d ∈ ds, ∃ xs, d = .tuple xs) → ∀ {Q : List (Option Value) → Shared → Prop},
    (∀ fs : List (Option Value), fs.length = vs.length → (∀ r, ds = .tuple [] :: r → ∃ q, fs = none :: q) → Q fs s) → wpAny M A (vs.mapM firstOfTuple') Q E s
  | _, _, .nil, _, Q, h => by
    rw [List.mapM_nil]
    exact wpAny_pure (h [] rfl fun r e => by cases e)
  | _, _, .cons (a := v) (b := d) ⟨as, r⟩ t, ht, Q, h => by
    obtain ⟨xs, rfl⟩ := ht d (List.mem_cons_self ..)
    rw [List.mapM_cons]
    have lk := looks_reads (M := M) r
    cases r with
    | @tuple a o vs n _ _ h1 h2 h3 h4 =>
      refine wpAny_bind ?_
      rw [kas_first_eq]
      refine wpAny_bind (lk.here ?_)
      rw [if_neg (show ¬ ((dataType (PyData.tuple xs) != Value.type "tuple") = true) by simp [dataType])]
      refine wpAny_bind (listItems_at h1 h3 (wpAny_pure ?_))
      refine wpAny_bind (firsts_of t (fun d hd => ht d (List.mem_cons_of_mem _ hd)) fun fs hl _ => wpAny_pure (h _ (by simp [hl]) fun r e => ?_))
      cases e
      have e0 : vs.toList = [] := by
        have q := SeqAt.ReadsAll.length _ _ _ h4
        exact List.length_eq_zero_iff.mp (by simpa using q)
      refine ⟨fs, ?_⟩
      have : vs[0]? = none := by rw [← Array.getElem?_toList, e0] <;> rfl
      rw [this]
open PySem.W in
theorem kind0 {M : Model} {vs : List Value} {ds : List D} {Q : SortKind → Shared → Prop} (e : EachIs (fun v d => ∃ as, Reads s.heap v d as) vs ds) (h0 : Tup0 ds) (h : Q oneType' s) : wpAny M A (keyKind' vs.toArray) Q E s := by
  obtain ⟨r, rfl, hr⟩ := h0
  have ht : ∀ d ∈ PyData.tuple [] :: r, ∃ xs, d = .tuple xs := fun d hd => (List.mem_cons.mp hd).elim (fun z => ⟨_, z⟩) (hr d)
  rw [keyKind'_eq, List.mapM_toArray, map_eq_pure_bind]
  refine wpAny_bind (wpAny_bind (firsts_of e ht fun fs hl hf => wpAny_pure ?_))
  obtain ⟨q, rfl⟩ := hf r rfl
  rw [if_neg (by simp), if_neg (by simp)]
  rw [oneTypeOnly'_eq, List.mapM_toArray, map_eq_pure_bind]
  have hT : ∀ v ∈ vs, Looks M s.heap (typeOf v) (.type "tuple") := fun v hv => by
    obtain ⟨d, hd, as, rd⟩ := e.left v hv
    obtain ⟨xs, rfl⟩ := ht d hd
    exact looks_reads rd
  refine wpAny_bind (wpAny_bind (wpAny_bind (kas_mapM (r := Value.type "tuple") _ (fun v hv Q' hq => (hT v hv).here hq) (wpAny_pure ?_))))
  cases e with
  | @cons v _ vs _ _ _ =>
    have hall : ((List.map (fun _ => Value.type "tuple") (v :: vs)).toArray.all fun x => x == Value.type "tuple") = true := by
      simp only [List.all_toArray, List.all_map, List.all_eq_true]
      intro _ _
      exact beq_self_eq_true _
    have z0 : (List.map (fun _ => Value.type "tuple") (v :: vs)).toArray[0]? = some (Value.type "tuple") := by simp
    rw [z0]
    simp only [hall, if_true]
    exact wpAny_pure (wpAny_pure h)
open PySem.W in
theorem sorts2 {vs : List Value} {ds : List D} (e : EachIs (fun v d => ∃ as, Reads s.heap v d as) vs ds) (hal : AllAlike ds) (hk : Tup0 ds ∨ PySem.W.Sortable ds) (hu : ∀ d, d ∈ ds → A.units + d.depth < cLine) : SortsAt prog w A s (dataKind s.heap ds) vs := by
  rcases hk with h0 | hk
  · refine ⟨fun v hv => ?_, oneType', ?_, fun _ E Q hq => kind0 e h0 hq⟩
    · obtain ⟨d, hd, as, r⟩ := e.left v hv
      exact ⟨_, dataKind_some hal hd r⟩
    · intro E x y a b Q ha hb hq
      obtain ⟨d, as, hd, ra, rfl⟩ := dataKind_inv ha
      obtain ⟨d', as', hd', rb, rfl⟩ := dataKind_inv hb
      have ht : ∀ d ∈ ds, ∃ xs, d = .tuple xs := by
        obtain ⟨r, rfl, hr⟩ := h0
        exact fun d hd => (List.mem_cons.mp hd).elim (fun z => ⟨_, z⟩) (hr d)
      have hdd := hal d hd d' hd'
      have room := hu d hd
      obtain ⟨xs, rfl⟩ := ht d hd
      obtain ⟨ys, rfl⟩ := ht d' hd'
      rw [keyLt'_oneType]
      exact oneLt_tup ra rb hdd (Nat.lt_of_le_of_lt (Nat.add_le_add_left (Nat.min_le_left _ _) _) room) hq
  · exact SortsAt.data e hal hk hu
open PySem.W in
theorem sorted_data2 {β : Type} {R : Value → β → Prop} {enc : β → PyData} {vs : List Value} {bs : List β} {l : Addr} {Q : Value → Shared → Prop} (hl : s.heap.IsList l vs.toArray) (e : EachIs R vs bs) (er : EachIs (fun v b => ∃ as, Reads s.heap v (enc b) as) vs bs) (hal : AllAlike (bs.map enc)) (hk : Tup0 (bs.map enc) ∨ PySem.W.Sortable (bs.map enc)) (hL : bs.length ≤ sizeLine)
    (hu : ∀ b, b ∈ bs → A.units + 2 + (enc b).depth < cLine) (h : ∀ out, out.length = bs.length → EachIs R out (bs.mergeSort (dataLe false enc)) → Q (.ref (s.heap.objs.size + 1)) { s with heap := sortedAll s.heap vs (List.toArray out) }) :
    wpAny (model prog w) A (call (.builtin "sorted") [.ref l]) Q E s := by
  have f : EachIs (fun v b => ∃ as, Reads (sortingHeap (copyHeap s.heap vs) (s.heap.objs.size + 1) vs) v (enc b) as) vs bs := er.mono fun _ _ ⟨as, r⟩ => ⟨as, PyProof.Rows.Reads.keeps (fun _ _ => sorting_copy_old) r⟩
  refine sorted_vals hl (sorts2 (s := { s with heap := sortingHeap (copyHeap s.heap vs) (s.heap.objs.size + 1) vs }) (each_map (R := fun v d => ∃ as, Reads (sortingHeap (copyHeap s.heap vs) (s.heap.objs.size + 1) vs) v d as) enc f) hal hk fun d hd => ?_) (by rw [e.length]; exact hL) ?_
  · obtain ⟨b, hb, rfl⟩ := List.mem_map.mp hd
    exact hu b hb
  · exact h _ (by rw [sortVals_length false rfl]; exact e.length) (sortVals_data false e f hal)
end
section
variable [KFrag]
theorem srt_out2 {H : Hp} {A : Addr → Prop} {xs : List V} {ds es : List D} {out : List Value} (f : Fzs H A xs ds) (h : srtD2 ds = some es) (e : EachIs (RVD H A) out ((xs.zip ds).mergeSort (dataLe false (·.2)))) : ∃ ys, Vals ys out ∧ Fzs H A ys es := by
  obtain ⟨h1, h2⟩ := each_back e
  refine ⟨_, h1, ?_⟩
  have q : ((xs.zip ds).mergeSort (dataLe false (·.2))).map (·.2) = es := by
    refine (List.map_mergeSort (f := fun b : V × D => b.2) (s := dataLe false id) (fun a _ b _ => rfl)).trans ?_
    rw [zip_snd f, (srt2_merge h).1]
  rw [q] at h2
  exact h2
section
variable {X : Cx} [HK X]
def rSortL2 : List V → Hp → VK → Prop := fun vs H Q => ∃ A a xs ds es, vs = [.ref a] ∧ H a = some (.lst xs) ∧ Fzs H A xs ds ∧ srtD2 ds = some es ∧ ∀ ys p, Fzs H A ys es → H p = none → Q (.ref p) (upd H p (.lst ys))
theorem cr_sortL2 (hu : X.A.units + 64 < cLine) : CallR X (.builtin "sorted") rSortL2 := by
  rintro pins s σ H vs us Q I rv ⟨A, a, xs, ds, es, rfl, e, f, h, q⟩
  cases rv with
  | cons r1 r2 =>
  cases r2
  cases (show _ = Value.ref a from r1)
  obtain ⟨hl, ws, n, r, ho⟩ := lst_at I e
  obtain ⟨_, ok⟩ := srt2_merge h
  obtain ⟨f1, f2, f3⟩ := srt2_facts ok
  have ez := zip_snd f
  have el := each_of f r
  have bl : (xs.zip ds).length = xs.length := by rw [List.length_zip, f.len]; omega
  refine sorted_data2 (R := RVD H A) (enc := (·.2)) (vs := ws) (bs := xs.zip ds) ⟨_, ho, rfl, n, rfl⟩ el (each_reads I el) (by rw [ez]; exact fun d hd d' hd' => al_alike _ _ (f2 d hd d' hd')) (by rw [ez]; exact f3) (by rw [bl]; exact hl)
    (fun b hb => by have := pl_depth 8 _ (zip_all f1 b hb); omega) fun out ho1 ho2 => ?_
  obtain ⟨ys, y1, y2⟩ := srt_out2 f h ho2
  obtain ⟨c, hc⟩ := sortedAll_at s.heap ws (List.toArray out)
  have hn := I.hok.fresh (Nat.le_succ s.heap.objs.size)
  refine ⟨.ref (s.heap.objs.size + 1), upd H (s.heap.objs.size + 1) (.lst ys), I.laid (t' := s.toks) (fun b u z => sortedAll_old z) (Nat.le_succ _) ⟨?_, out, c, y1, hc⟩, rfl, q ys _ y2 hn⟩
  rw [y1.length, ho1, bl]
  exact hl
def srtW2 (ws : List W) (s : CS) : R W := match ws with
  | [.d (.list ds)] => match srtD2 ds with
    | some es => .ok (.d (.list es)) s
    | none => .bad
  | _ => .bad
def fSrt2 (fs : En → CS → R (List W)) (ρ : En) (s : CS) : R W := (fs ρ s).bind srtW2
theorem de_srt2 {T : TX} {Wx : WXc} {e : Expr} {fs : En → CS → R (List W)} {p pos : Pos} (hu : X.A.units + 64 < cLine) (hg : Gl X "sorted") (hm : X.mg "sorted" = none) (hv : bootBuiltins "sorted" = some (.builtin "sorted")) (ha : DA X T Wx [e] fs)
    (he : starEach [e] X.env = (false, eval e X.env) :: starEach [] X.env := by rfl) (hpl : (backTo pos (starEach [] X.env)).any (·.1) = false := by rfl) : DE X T Wx (.Call (.Name "sorted" p) [e] [] pos) (fSrt2 fs) :=
  PE_imp (pe_callB (cr_sortL2 hu) hg hm hv ha (by decide) (by decide) he hpl) fun σ H Q ⟨B, μ, s, ρ, r, e, q⟩ => tD_bind r e q fun ws s1 vs μ1 H1 st1 r1 e1 rel1 q1 => by
    replace rel1 : RWs B μ1 s1 H1 vs ws := rel1
    unfold srtW2 at q1
    split at q1
    · rename_i ds
      cases rel1 with
      | cons a1 a2 =>
      cases a2
      split at q1
      · rename_i es hs
        replace a1 : Fz H1 (Av B μ1 s1) _ (.list ds) := a1
        cases a1 with
        | lst h1 f1 =>
        exact ⟨Av B μ1 s1, _, _, ds, es, rfl, h1.1, f1, hs, fun ys p fy hp => Fin.use (a := W) (w := .d (.list es)) q1 (same_upd hp) r1 (Fz.newL r1.bt' hp fy)⟩
      · exact q1.elim
    · exact q1.elim
/-! min of three -/
def min3D : List D → Option D
  | [.int i, .int j, .int k] => some (.int (minI i [j, k]))
  | _ => none
theorem nu_min3 (i j k : Int) : nuMin3 (.int i) (.int j) (.int k) = some (.int (minI i [j, k])) := by
  by_cases h1 : j < i
  · by_cases h2 : k < j
    · simp [nuMin3, nuMin2, nuLt, nuCB, minI, h1, h2]
    · simp [nuMin3, nuMin2, nuLt, nuCB, minI, h1, h2]
  · by_cases h2 : k < i
    · simp [nuMin3, nuMin2, nuLt, nuCB, minI, h1, h2]
    · simp [nuMin3, nuMin2, nuLt, nuCB, minI, h1, h2]
theorem dc_min3 (hc : X.calm = true) : DCall X (.builtin "min") min3D := by
  intro pins s σ H xs us Q I r h
  obtain ⟨A, ds, z, bt, fz, e, q⟩ := h
  unfold min3D at e
  split at e
  · rename_i i j k
    cases e
    cases fz with
    | cons f1 t =>
      cases t with
      | cons f2 t =>
        cases t with
        | cons f3 t =>
          cases t
          cases f1
          cases f2
          cases f3
          exact call_min3Nu hc pins s σ H _ us Q I r ⟨_, _, _, _, rfl, nu_min3 i j k, q _ _ (Same.refl _) (.int _)⟩
  · cases e
end
end
end DL
namespace DL
open PySem PySem.Spec PyProof.Rows L2
/-! ### one of some defs, taken out of a written row, and called -/
section
variable [KFrag] {X : Cx} {Wx : WXc} {pos : Pos} {e : Expr} {es : List Expr} {t : TA} {fe : Expr} {tf : TE}
/-- whatever the callee is: a def that is known -/
def tCallE (X : Cx) (Wx : WXc) (tf : TE) (t : TA) : TE := fun σ H Q => tf σ H fun y H1 => ∃ (k : Nat) (f : Addr) (fd : FuncData) (ps : List Str) (sp : Sp), y = .ref f ∧ FnG X.prog X.w X.K X.mg X.base k f fd ps sp ∧ Room k X.A ∧ PySem.W.keepIn X.K (.ref f) = true ∧
  Binds X.K fd ps [] ∧ t σ H1 fun vs H2 => sp vs H2 Q (WE Wx σ)
theorem pe_callE (hgd : X.A.guards = some []) (tk : Takes X Wx) (hf : PE X fe tf) (ha : PA X (e :: es) t)
    (ht : eval (.Call fe (e :: es) [] pos) X.env = (do callWith pos (← eval fe X.env) [] (backTo pos (starEach (e :: es) X.env)) (backToKw pos (keywordEach [] X.env))) := by rfl)
    (he : starEach (e :: es) X.env = (false, eval e X.env) :: starEach es X.env := by rfl) (hpl : (backTo pos (starEach es X.env)).any (·.1) = false := by rfl) : PE X (.Call fe (e :: es) [] pos) (tCallE X Wx tf t) where
  run := fun pins s σ H Q I h => by
    refine Call_ (thn (hf.run pins s σ H _ I h) fun u s1 ⟨y, H1, I1, ry, k, f, fd, ps, sp, ey, F, hr, hk, hb, q⟩ => ?_) ht
    subst ey
    obtain rfl : u = Value.ref f := ry
    refine PySem.W.callWith_K (h₀ := X.base) I1.ok.mod.kin hk (thn (ha.run pos pins s1 σ H1 _ I1 q) fun us s2 z => ?_) he hpl
    obtain ⟨vs, H2, I2, r, q2⟩ := z
    have hl : us.length = ps.length := by rw [← r.length]; exact F.len _ _ _ _ q2
    have bd := hb s2 us I2.kIn (by rw [List.append_nil]; exact hl)
    rw [List.append_nil] at bd
    refine ⟨I2.kIn, wpAny_call (codeAny_mono (F.run X.A X.stack s2 H2 ⟨us, []⟩ us vs Q (WE Wx σ) hgd hr I2.env0 bd r q2) fun z s3 hz => ?_)⟩
    cases z with
    | error u => exact passAt tk σ pins H2 s2 u s3 I2 hz
    | ok fl =>
      cases fl with
      | ret u => exact I2.after hz
      | next => exact hz.elim
      | brk => exact hz.elim
      | cont => exact hz.elim
/-- names of defs, one behind the other -/
def tNms (fs : List Addr) : TA := fun _ H Q => Q (fs.map V.ref) H
theorem pn_nil : PA X [] (tNms []) := pa_nil
theorem pn_cons {x : Str} {p : Pos} {f : Addr} {ns : List Expr} {fs : List Addr} (hg : Gl X x) (hm : X.mg x = some (.ref f)) (h : PA X ns (tNms fs)) (hd : (x == ("__debug__" : Str)) = false := by decide)
    (hs : starEach (.Name x p :: ns) X.env = (false, eval (.Name x p) X.env) :: starEach ns X.env := by rfl) : PA X (.Name x p :: ns) (tNms (f :: fs)) :=
  PA_imp (pa_cons (pe_glob hg hm (v := .ref f) rfl hd) h hs) fun σ H Q q => q
end
section
variable [KFrag] {X : Cx} [HK X] {T : TX} {Wx : WXc} {e ei : Expr} {es ns : List Expr} {pos p1 p2 : Pos} {fi : En → CS → R W} {fs : En → CS → R (List W)}
abbrev Mir : Type := List W → CS → R W
def selW (hs : List Mir) (w : W) : Option Mir := match w with
  | .d (.int j) => atI hs j
  | _ => none
def fSel (m : Nat) (hs : List Mir) (fi : En → CS → R W) (fs : En → CS → R (List W)) (ρ : En) (s : CS) : R W := (fi ρ s).bind fun w s => match selW hs w with
  | some h => (fs ρ s).bind fun ws s => if ws.length = m then noX h ws s else .bad
  | none => .bad
/-- a def that is known, by its mirror -/
def Hld (X : Cx) (T : TX) (m : Nat) (q : Addr × Mir) : Prop := ∃ (k : Nat) (fd : FuncData) (ps : List Str), FnG X.prog X.w X.K X.mg X.base k q.1 fd ps (spD T m q.2) ∧ Room k X.A ∧ PySem.W.keepIn X.K (.ref q.1) = true ∧ Binds X.K fd ps []
theorem hld_nil {m : Nat} : ∀ q ∈ ([] : List (Addr × Mir)), Hld X T m q := fun q h => by cases h
theorem hld_cons {m : Nat} {q : Addr × Mir} {qs : List (Addr × Mir)} (h : Hld X T m q) (t : ∀ q ∈ qs, Hld X T m q) : ∀ r ∈ q :: qs, Hld X T m r := fun r hr => (List.mem_cons.mp hr).elim (fun e => by rw [e]; exact h) (t r)
theorem hld_of {m k : Nat} {f : Addr} {fd : FuncData} {ps : List Str} {h : Mir} (F : FnG X.prog X.w X.K X.mg X.base k f fd ps (spD T m h)) (hr : Room k X.A) (hk : PySem.W.keepIn X.K (.ref f) = true) (hb : Binds X.K fd ps []) : Hld X T m (f, h) := ⟨k, fd, ps, F, hr, hk, hb⟩
theorem atI_map {α β : Type} (g : α → β) (xs : List α) (i : Int) : atI (xs.map g) i = (atI xs i).map g := by
  unfold atI
  rw [List.length_map]
  cases ixN xs.length i with
  | none => rfl
  | some j => simp
theorem de_sel {m : Nat} (qs : List (Addr × Mir)) (hgd : X.A.guards = some []) (tk : Takes X Wx) (hq : ∀ q ∈ qs, Hld X T m q) (hl : qs.length ≤ 100) (hn : PA X ns (tNms (qs.map (·.1)))) (hi : DE X T Wx ei fi) (ha : DA X T Wx (e :: es) fs)
    (hp : PlainIx ei := by exact fun _ _ => rfl)
    (ht : eval (.Call (.Subscript (.List ns p1) ei p2) (e :: es) [] pos) X.env = (do callWith pos (← eval (.Subscript (.List ns p1) ei p2) X.env) [] (backTo pos (starEach (e :: es) X.env)) (backToKw pos (keywordEach [] X.env))) := by rfl)
    (he : starEach (e :: es) X.env = (false, eval e X.env) :: starEach es X.env := by rfl) (hpl : (backTo pos (starEach es X.env)).any (·.1) = false := by rfl) :
    DE X T Wx (.Call (.Subscript (.List ns p1) ei p2) (e :: es) [] pos) (fSel m (qs.map (·.2)) fi fs) :=
  PE_imp (pe_callE hgd tk (pe_ix ix_list (pe_lst hn) hi hp) ha ht he hpl) fun σ H Q ⟨B, μ, s, ρ, r, er, q⟩ => by
    show _ ∧ ∀ p, H p = none → _
    refine ⟨?_, fun p hp => ?_⟩
    · rw [List.length_map, List.length_map, sizeLine_eq]
      omega
    have k : Same H (upd H p (.lst ((qs.map (·.1)).map V.ref))) := same_upd hp
    have st : Stp μ s H μ s (upd H p (.lst ((qs.map (·.1)).map V.ref))) := Stp.same k
    refine tD_bind (r.same k) (er.stp st) (Fin.stp st q) fun w s1 v μ1 H1 st1 r1 e1 rel1 q1 => ?_
    replace rel1 : RW B μ1 s1 H1 v w := rel1
    have hp1 : H1 p = some (.lst ((qs.map (·.1)).map V.ref)) := by
      exact st1.keep p _ upd_same fun ⟨n, c, e, _⟩ => r.th n p e hp
    cases z : selW (qs.map (·.2)) w with
    | none => rw [z] at q1; exact q1.elim
    | some h =>
      rw [z] at q1
      unfold selW at z
      split at z
      · rename_i j
        replace rel1 : Fz H1 (Av B μ1 s1) v (.int j) := rel1
        cases rel1
        rw [atI_map] at z
        cases zq : atI qs j with
        | none => rw [zq] at z; cases z
        | some q0 =>
          rw [zq] at z
          cases z
          have hm : q0 ∈ qs := by
            obtain ⟨n, _, h2, _⟩ := atI_get zq
            exact List.mem_of_getElem? h2
          obtain ⟨k0, fd, ps, F, hr, hk, hb⟩ := hq q0 hm
          refine ⟨p, _, j, .ref q0.1, rfl, rfl, .inl (.inl hp1), ?_, k0, q0.1, fd, ps, _, rfl, F, hr, hk, hb, ?_⟩
          · rw [atI_map, atI_map, zq]
            rfl
          · refine tD_bind r1 e1 q1 fun ws s2 vs μ2 H2 st2 r2 e2 rel2 q2 => ?_
            replace rel2 : RWs B μ2 s2 H2 vs ws := rel2
            split at q2
            · rename_i hl2
              exact ⟨rel2.len.trans hl2, B, μ2, s2, ws, σ, r2, rel2, noX_un q2⟩
            · exact q2.elim
      · cases z
end

/-! ### dict([]), and a list as a cell -/
section
variable [KFrag] {X : Cx} [HK X] {T : TX} {Wx : WXc} {e : Expr} {fs : En → CS → R (List W)} {p p1 pos : Pos}
theorem cr_dict0 (hc : X.calm = true) (hu : X.A.units + 64 < cLine) : CallR X (.type "dict") fun xs H Q => ∃ a, xs = [.ref a] ∧ SqL X.K H a [] ∧ ∀ p, H p = none → Q (.ref p) (upd H p (DObj X.w p [])) := by
  rintro pins s σ H xs us Q I r ⟨a, rfl, hq, q⟩
  obtain ⟨u, rfl, rx⟩ := vals1 r
  cases rx
  obtain ⟨its, rv, pl, hz⟩ := I.list hq
  cases rv
  obtain ⟨o, n, ho, hcl, hd, hdat⟩ := pl
  refine call_dict_pairsH (knd := nestedKind X.prog X.w) (ps := []) (PairArg.list a #[] (fun _ => 0) []) (I.ok.hd hc) (by show X.A.in1.in1.units + 8 < cLine; (have : X.A.in1.in1.units = X.A.units + 2 := rfl); omega) ⟨⟨o, n, ho, hcl, hd, hdat⟩, rfl, fun j k v e => by cases e⟩ ?_ ?_ (Nat.zero_le _) fun h' tk hd' k => ?_
  · exact ⟨rfl, fun i k v e => by cases e⟩
  · exact fun h' k x hx => by cases hx
  · have hm : (s.heap.objs.size == sysModules) = false := beq_eq_false_iff_ne.mpr (Nat.ne_of_gt I.big)
    exact ⟨.ref s.heap.objs.size, upd H s.heap.objs.size (DObj X.w s.heap.objs.size []), I.laid (t' := tk) (fun b u e => k b u (by simp) e) (Nat.le_refl _) (dct_ok (P := X.prog) (Nat.zero_le _) hm .nil hd'), rfl, q _ (I.hok.fresh (Nat.le_refl _))⟩
theorem de_dict0 (hw : X.w = KFrag.w) (hc : X.calm = true) (hu : X.A.units + 64 < cLine) (hg : Gl X "dict") (hm : X.mg "dict" = none) (he : starEach [.List [] p1] X.env = (false, eval (.List [] p1) X.env) :: starEach [] X.env := by rfl)
    (hpl : (backTo pos (starEach [] X.env)).any (·.1) = false := by rfl) : DE X T Wx (.Call (.Name "dict" p) [.List [] p1] [] pos) fNewD :=
  PE_imp (pe_callTy (cr_dict0 hc hu) hg hm PyProof.Rows.boot_dict (pa_cons (pe_lst pa_nil) pa_nil) (by decide) (by decide) he hpl) fun σ H Q ⟨B, μ, s, ρ, r, e, q⟩ => by
    show _ ∧ ∀ l, H l = none → _
    refine ⟨Nat.zero_le _, fun l hl => ⟨l, rfl, .inl (.inl upd_same), fun p hp => ?_⟩⟩
    have k : Same H (upd H l (.lst [])) := same_upd hl
    obtain ⟨a, b⟩ := newCc (o := DObj X.w p []) (c := .dct []) (r.same k) hp fun H' A' k e => .inl ⟨[], by rw [← hw]; exact e, .nil⟩
    refine q _ _ _ ((Stp.same k).trans b) a ⟨p, rfl, ?_⟩
    rw [← r.len]
    simp
/-- list(x), changed from now on -/
def newLW (ws : List W) (s : CS) : R W := match ws with
  | [.d (.tuple ds)] => .ok (.c s.length) (s ++ [.lst ds])
  | [.d (.list ds)] => .ok (.c s.length) (s ++ [.lst ds])
  | _ => .bad
def fNewL (fs : En → CS → R (List W)) (ρ : En) (s : CS) : R W := (fs ρ s).bind newLW
theorem de_newL (hg : Gl X "list") (hm : X.mg "list" = none) (ha : DA X T Wx [e] fs)
    (he : starEach [e] X.env = (false, eval e X.env) :: starEach [] X.env := by rfl) (hpl : (backTo pos (starEach [] X.env)).any (·.1) = false := by rfl) : DE X T Wx (.Call (.Name "list" p) [e] [] pos) (fNewL fs) :=
  PE_imp (pe_callTy call_list_of hg hm PyProof.Rows.boot_list ha (by decide) (by decide) he hpl) fun σ H Q ⟨B, μ, s, ρ, r, e, q⟩ => tD_bind r e q fun ws s1 vs μ1 H1 st1 r1 e1 rel1 q1 => by
    replace rel1 : RWs B μ1 s1 H1 vs ws := rel1
    unfold newLW at q1
    split at q1
    · rename_i ds
      cases rel1 with
      | cons a1 a2 =>
      cases a2
      replace a1 : Fz H1 (Av B μ1 s1) _ (.tuple ds) := a1
      cases a1 with
      | @tup a ys _ h1 f1 =>
        refine ⟨a, ys, rfl, .inr h1.sq, fun l hl => ?_⟩
        obtain ⟨sr, st⟩ := newC r1 hl f1
        refine q1 _ _ _ st sr ⟨l, rfl, ?_⟩
        rw [← r1.len]
        simp
    · rename_i ds
      cases rel1 with
      | cons a1 a2 =>
      cases a2
      replace a1 : Fz H1 (Av B μ1 s1) _ (.list ds) := a1
      cases a1 with
      | @lst a ys _ h1 f1 =>
        refine ⟨a, ys, rfl, .inl h1.sq, fun l hl => ?_⟩
        obtain ⟨sr, st⟩ := newC r1 hl f1
        refine q1 _ _ _ st sr ⟨l, rfl, ?_⟩
        rw [← r1.len]
        simp
    · exact q1.elim
end
end DL
namespace DL
open PySem PySem.Spec PyProof.Rows L2
/-! ### what is taken out of a list; d.get(k); dict([(k, v)]) -/
section
variable [KFrag] {X : Cx} [HK X] {T : TX} {Wx : WXc} {e e2 o i : Expr} {f g : En → CS → R W} {p p1 p2 apos pos : Pos}
theorem Fzs.del {H : Hp} {A : Addr → Prop} : ∀ {v : List V} {d : List D} (k : Nat), Fzs H A v d → Fzs H A (v.eraseIdx k) (d.eraseIdx k)
  | _, _, _, .nil => .nil
  | _, _, 0, .cons _ t => t
  | _, _, k + 1, .cons h t => .cons h (Fzs.del k t)
def popW (n : Nat) (u : W) (s : CS) : R W := match u with
  | .d (.int i) => match s[n]? with
    | some (.lst ds) => if -1000000 ≤ i ∧ i < 1000000 then (match ixN ds.length i with
      | some k => match ds[k]? with
        | some x => .ok (.d x) (s.set n (.lst (ds.eraseIdx k)))
        | none => .bad
      | none => .bad) else .bad
    | _ => .bad
  | _ => .bad
def popC (g : En → CS → R W) (ρ : En) (w : W) (s : CS) : R W := match w with
  | .c n => match s[n]? with
    | some (.lst _) => (g ρ s).bind fun u s => popW n u s
    | _ => .bad
  | _ => .bad
/-- x.pop(i), a list that is changed -/
def fPopI (f g : En → CS → R W) (ρ : En) (s : CS) : R W := (f ρ s).bind fun w s => popC g ρ w s
theorem de_popI (ha : DE X T Wx e f) (hb : DE X T Wx e2 g) (hbase : attributeBase e "pop" X.env (eval e X.env) = eval e X.env := by rfl)
    (hfew : ((backTo p2 (starEach [e2] X.env)).all (fun x => !x.1) && (backToKw p2 (keywordEach [] X.env)).all (fun x => x.1.isSome)
      && decide ([e2].length + ([] : List Keyword).length + (if ([] : List Keyword).isEmpty then 0 else 1) < 30)) = true := by rfl)
    (hline : (apos.endLine == p2.line) = true := by rfl) (hs : starEach [e2] X.env = (false, eval e2 X.env) :: starEach [] X.env := by rfl) (hplain : (backTo p2 (starEach [] X.env)).any (·.1) = false := by rfl) :
    DE X T Wx (.Call (.Attribute e "pop" apos) [e2] [] p2) (fPopI f g) :=
  PE_imp (pe_bm PySem.F.plainAttrs_list PySem.F.slot_list_pop PySem.F.type_list_pop mt_popAt ha (pa_cons hb pa_nil hs) hbase hfew hline hs hplain) fun σ H Q ⟨B, μ, s, ρ, r, er, q⟩ =>
  tD_bind r er q fun w s1 v μ1 H1 st1 r1 e1 rel1 q1 => by
    unfold popC at q1
    split at q1
    · rename_i n
      split at q1
      · rename_i ds0 hs0
        obtain ⟨a, rfl, ha⟩ := (show ∃ a, v = .ref a ∧ μ1[n]? = some a from rel1)
        obtain ⟨xs0, ea0, _⟩ := r1.cell n a _ ha hs0
        refine ⟨.inl ⟨rfl, xs0, .of ea0⟩, ?_⟩
        refine tD_bind r1 e1 q1 fun u s2 y μ2 H2 st2 r2 e2 rel2 q2 => ?_
        have ha2 : μ2[n]? = some a := by
          obtain ⟨t, rfl⟩ := st2.pre
          rw [List.getElem?_append_left (List.getElem?_eq_some_iff.mp ha).1]
          exact ha
        unfold popW at q2
        split at q2
        · rename_i i
          split at q2
          · rename_i ds hds
            split at q2
            · rename_i hb
              split at q2
              · rename_i k hk
                split at q2
                · rename_i x hx
                  replace rel2 : Fz H2 (Av B μ2 s2) y (.int i) := rel2
                  cases rel2
                  obtain ⟨xs, ea, fz⟩ := r2.cell n a _ ha2 hds
                  obtain ⟨z, hz, fx⟩ := fz.get hx
                  obtain ⟨h1, h2, h3, h4⟩ := ixN_seq hk
                  obtain ⟨sr, st⟩ := putC r2 ha2 hds (fz.del k)
                  refine ⟨a, xs, i, k, z, rfl, rfl, ea, by omega, by omega, by rw [fz.len]; exact h1, hz, ?_⟩
                  exact q2 z μ2 _ st sr (Rp.stp (a := W) (b := V) st (show RW B μ2 s2 H2 z (.d x) from fx))
                · exact q2.elim
              · exact q2.elim
            · exact q2.elim
          · exact q2.elim
        · exact q2.elim
      · exact q1.elim
    · exact q1.elim
end
section
variable [KFrag] {X : Cx} [HK X] {T : TX} {Wx : WXc} {e e2 o i : Expr} {f g : En → CS → R W} {fs : En → CS → R (List W)} {p p1 p2 p3 apos pos : Pos} {td ty : TE}
/-! d.get(k) -/
def tNGetM [KFrag] (w : World) (td ty : TE) : TE := fun σ H Q => td σ H fun x H1 => (∃ A ds, NRd w H1 A x ds) ∧ ty σ H1 fun y H2 => ∃ A ds d, NRd w H2 A x ds ∧ Fz H2 A y d ∧ keyOk d = true ∧ (match lookD ds d with
  | some z => ∀ v, Fz H2 A v z → Q v H2
  | none => Q .non H2)
theorem n_getM {pins : List (Addr × Obj)} {σ : L2.St} {H : Hp} {s : Shared} {B : Around} {E : Value → Shared → Prop} {A : Addr → Prop} {y : V} {u : Value} {ds : List (D × D)} {d : D} {a : Addr} {Q : Value → Shared → Prop} (hu : B.units + 65 < cLine) (I : Inv X pins σ H s) (g : NRd X.w H A (.ref a) ds) (f : Fz H A y d) (ry : RelV y u) (hk : keyOk d = true)
    (h : match lookD ds d with
      | some z => ∀ v w' s', Fz H A v z → Inv X pins σ H s' → RelV v w' → Q w' s'
      | none => ∀ s', Inv X pins σ H s' → Q .none s') : wpAny (model X.prog X.w) B (call (.builtin "dict.get") [.ref a, u]) Q E s := by
  obtain ⟨a', es, e, rd, kp⟩ := g
  cases e
  obtain ⟨b, k, rfl, rfl, e1, e2, hi⟩ := n_key I f ry hk
  obtain ⟨_, hs, xs, rel, dd⟩ := dct_rd I.hok (kin I) rd kp
  have room : (nestedKind X.prog X.w).room B.in1 := by
    show B.in1.units + 8 < cLine
    have : B.in1.units = B.units + 1 := rfl
    omega
  refine call_meetsIn PySem.F.slot_dict_get dd.typeIs PySem.F.entry_dict_get (PySem.F.args_dict_get_2 _ _) (meetsH_dict_get (nestedKind X.prog X.w) a b hs) ⟨room, k, xs, hi, dd, ?_⟩
  cases z : lookD ds d with
  | some y =>
    rw [z] at h
    obtain ⟨p, v, e3, rv, fv⟩ := (look_kp kp rel e1).1 y z
    rw [e3]
    exact h v _ _ fv (I.tok _) rv
  | none =>
    rw [z] at h
    rw [(look_kp kp rel e1).2 z]
    exact h _ (I.tok _)
theorem pe_ngetM (hu : X.A.units + 65 < cLine) (ho : PE X o td) (hi : PE X i ty) (hbase : attributeBase o "get" X.env (eval o X.env) = eval o X.env := by rfl)
    (hfew : ((backTo p2 (starEach [i] X.env)).all (fun x => !x.1) && (backToKw p2 (keywordEach [] X.env)).all (fun x => x.1.isSome)
      && decide ([i].length + ([] : List Keyword).length + (if ([] : List Keyword).isEmpty then 0 else 1) < 30)) = true := by rfl)
    (hline : (apos.endLine == p2.line) = true := by rfl) (hs : starEach [i] X.env = (false, eval i X.env) :: starEach [] X.env := by rfl) (hplain : (backTo p2 (starEach [] X.env)).any (·.1) = false := by rfl) :
    PE X (.Call (.Attribute o "get" apos) [i] [] p2) (tNGetM X.w td ty) := by
  refine ⟨fun pins s σ H Q I h => ?_⟩
  refine wpAny_Call_method_late hbase hfew hline rfl (thn (ho.run pins s σ H _ I h) fun v s1 ⟨x, H1, I1, r1, ⟨A, ds, g⟩, q1⟩ => ?_)
  obtain ⟨a, es, rfl, rd, kp⟩ := id g
  obtain rfl : v = Value.ref a := r1
  have h2 : ∀ a', Value.ref a = .ref a' → ∃ o, s1.heap.get? a' = some o ∧ o.dict = none := fun a' e => by
    cases e
    obtain ⟨_, _, xs, _, dd⟩ := dct_rd I1.hok (kin I1) rd kp
    obtain ⟨o, _, _, h1, h2, _⟩ := dd
    exact ⟨o, h1, h2.2.1⟩
  refine ⟨"dict", "dict.get", PySem.F.plainAttrs_dict, PySem.F.slot_dict_get, PySem.F.type_dict_get, n_typeIs I1 g, h2, ?_⟩
  have hA := (pa_cons hi pa_nil hs).run p2 pins s1 σ H1 (fun vs H2 => match vs with
    | [y] => ∃ A ds d, NRd X.w H2 A (.ref a) ds ∧ Fz H2 A y d ∧ keyOk d = true ∧ (match lookD ds d with
      | some z => ∀ v, Fz H2 A v z → Q v H2
      | none => Q .non H2)
    | _ => False) I1 q1
  rw [hs] at hA ⊢
  refine Calls.callWith_builtin (by show (false || (backTo p2 (starEach [] X.env)).any (·.1)) = false; rw [hplain] <;> rfl) (Calls.evalArgs_plain ?_)
  refine thn hA fun us s2 ⟨vs, H2, I2, r2, q3⟩ => ?_
  dsimp only at q3
  split at q3
  case h_2 => exact q3.elim
  rename_i y
  obtain ⟨A2, ds2, d, g2, f, hk, q2⟩ := q3
  obtain ⟨u, rfl, ru⟩ := r2.one
  refine n_getM hu I2 g2 f ru hk ?_
  split
  · rename_i z hz
    rw [hz] at q2
    exact fun v w' s' fv I3 rw' => ⟨v, H2, I3, rw', q2 v fv⟩
  · rename_i hz
    rw [hz] at q2
    exact fun s' I3 => ⟨.non, H2, I3, rfl, q2⟩
def dGetM (w u : W) (s : CS) : R W := match dctOf w s, u with
  | some ds, .d k => if keyOk k = true then (match lookD ds k with
    | some z => .ok (.d z) s
    | none => .ok (.d .none) s) else .bad
  | _, _ => .bad
def dGetM0 (g : En → CS → R W) (ρ : En) (w : W) (s : CS) : R W := match dctOf w s with
  | some _ => (g ρ s).bind fun u s => dGetM w u s
  | none => .bad
/-- d.get(k) -/
def fDGetM (f g : En → CS → R W) (ρ : En) (s : CS) : R W := (f ρ s).bind fun w s => dGetM0 g ρ w s
theorem de_dgetM (hw : X.w = KFrag.w) (hu : X.A.units + 65 < cLine) (ha : DE X T Wx o f) (hb : DE X T Wx i g) (hbase : attributeBase o "get" X.env (eval o X.env) = eval o X.env := by rfl)
    (hfew : ((backTo p2 (starEach [i] X.env)).all (fun x => !x.1) && (backToKw p2 (keywordEach [] X.env)).all (fun x => x.1.isSome)
      && decide ([i].length + ([] : List Keyword).length + (if ([] : List Keyword).isEmpty then 0 else 1) < 30)) = true := by rfl)
    (hline : (apos.endLine == p2.line) = true := by rfl) (hs : starEach [i] X.env = (false, eval i X.env) :: starEach [] X.env := by rfl) (hplain : (backTo p2 (starEach [] X.env)).any (·.1) = false := by rfl) :
    DE X T Wx (.Call (.Attribute o "get" apos) [i] [] p2) (fDGetM f g) :=
  PE_imp (pe_ngetM hu ha hb hbase hfew hline hs hplain) fun σ H Q ⟨B, μ, s, ρ, r, e, q⟩ => tD_bind r e q fun w s1 x μ1 H1 st1 r1 e1 rel1 q1 => by
    unfold dGetM0 at q1
    split at q1
    · rename_i ds0 hd0
      refine ⟨⟨Av B μ1 s1, ds0, by rw [hw]; exact dctOf_rd r1 rel1 hd0⟩, ?_⟩
      refine tD_bind r1 e1 q1 fun u s2 y μ2 H2 st2 r2 e2 rel2 q2 => ?_
      have rel1 := RW.stp st2 rel1
      unfold dGetM at q2
      split at q2
      · rename_i ds k hd
        split at q2
        · rename_i hk
          refine ⟨Av B μ2 s2, ds, k, by rw [hw]; exact dctOf_rd r2 rel1 hd, rel2, hk, ?_⟩
          split at q2
          · rename_i z hz
            exact fun v fv => Fin.here (a := W) (w := .d z) q2 r2 fv
          · rename_i hz
            exact Fin.here (a := W) (w := .d .none) q2 r2 .non
        · exact q2.elim
      · exact q2.elim
    · exact q1.elim
/-! dict([(k, v)]) -/
theorem cr_dict1 (hc : X.calm = true) (hu : X.A.units + 64 < cLine) : CallR X (.type "dict") fun xs H Q => ∃ a p x y A d z, xs = [.ref a] ∧ SqL X.K H a [.ref p] ∧ SqT X.K H p [x, y] ∧ Fz H A x d ∧ keyOk d = true ∧ Fz H A y z ∧ ∀ q es', H q = none → KPs H A es' [(d, z)] → Q (.ref q) (upd H q (DObj X.w q es')) := by
  rintro pins s σ H xs us Q I r ⟨a, p, x, y, A, d, z, rfl, hq, hp, fx, hk, fy, q⟩
  obtain ⟨u, rfl, rx⟩ := r.one
  obtain rfl : u = Value.ref a := rx
  obtain ⟨its, rv, pl, hz⟩ := I.list hq
  obtain ⟨w1, rfl, rw1⟩ := rv.one
  obtain rfl : w1 = Value.ref p := rw1
  obtain ⟨o, n, ho, hcl, hd, hdat⟩ := pl
  obtain ⟨its2, rv2, pt, hz2⟩ := I.tuple hp
  obtain ⟨ux, uy, ei, r1, ry⟩ := vals2 rv2
  subst ei
  obtain ⟨b, k, rfl, rfl, e1, e2, hi⟩ := n_key I fx r1 hk
  refine call_dict_pairsH (knd := nestedKind X.prog X.w) (ps := [(k, b, uy)]) (PairArg.list a #[.ref p] (fun _ => p) [(.ref b, uy)]) (I.ok.hd hc) (by show X.A.in1.in1.units + 8 < cLine; (have : X.A.in1.in1.units = X.A.units + 2 := rfl); omega) ⟨⟨o, n, ho, hcl, hd, hdat⟩, rfl, fun j k v e => ?_⟩ ⟨rfl, fun i key v e => ?_⟩ (fun h' k' x hx => ?_) (by rw [sizeLine_eq]; simp) fun h' tk hd' k' => ?_
  · cases j with
    | zero => cases e; exact ⟨rfl, .inl pt⟩
    | succ j => cases e
  · cases i with
    | zero => cases e; exact ⟨k, b, rfl, rfl⟩
    | succ i => cases e
  · rw [List.mem_singleton] at hx
    subst hx
    have I2 : Inv X pins σ H { s with heap := h' } := I.kept (t' := s.toks) fun b o e => k' b o (Nat.ne_of_lt (Heap.lt_size e)) (by simp) e
    obtain ⟨b', k2, e3, e4, e5, _, hi2⟩ := n_key I2 fx rfl hk
    cases e3
    rw [e1] at e5
    cases e5
    exact hi2
  · have hm : (s.heap.objs.size == sysModules) = false := beq_eq_false_iff_ne.mpr (Nat.ne_of_gt I.big)
    have hn := I.hok.fresh (Nat.le_refl s.heap.objs.size)
    exact ⟨.ref s.heap.objs.size, upd H s.heap.objs.size (DObj X.w s.heap.objs.size [(k, b, y)]), I.laid (t' := tk) (fun b u e => k' b u (by simp) e) (Nat.le_refl _) (dct_ok (P := X.prog) (by rw [sizeLine_eq]; simp) hm (.cons ⟨rfl, rfl, ry⟩ .nil) hd'), rfl, q _ _ hn (.cons e1 e2 fx fy .nil)⟩
def fNewDP (f g : En → CS → R W) (ρ : En) (s : CS) : R W := (f ρ s).bind fun u s => (g ρ s).bind fun v s => match u, v with
  | .d k, .d x => if keyOk k = true then .ok (.c s.length) (s ++ [.dct [(k, x)]]) else .bad
  | _, _ => .bad
theorem de_dict1 {kk : Nat} (hw : X.w = KFrag.w) (hc : X.calm = true) (hu : X.A.units + 64 < cLine) (hg : Gl X "dict") (hm : X.mg "dict" = none) (ha : DE X T Wx o f) (hb : DE X T Wx i g)
    (hs : starEach [o, i] X.env = (false, eval o X.env) :: starEach [i] X.env := by rfl) (hs2 : starEach [i] X.env = (false, eval i X.env) :: starEach [] X.env := by rfl)
    (hs3 : starEach [.Tuple [o, i] kk p3] X.env = (false, eval (.Tuple [o, i] kk p3) X.env) :: starEach [] X.env := by rfl)
    (he : starEach [.List [.Tuple [o, i] kk p3] p1] X.env = (false, eval (.List [.Tuple [o, i] kk p3] p1) X.env) :: starEach [] X.env := by rfl)
    (hpl : (backTo pos (starEach [] X.env)).any (·.1) = false := by rfl) : DE X T Wx (.Call (.Name "dict" p) [.List [.Tuple [o, i] kk p3] p1] [] pos) (fNewDP f g) :=
  PE_imp (pe_callTy (cr_dict1 hc hu) hg hm PyProof.Rows.boot_dict (pa_cons (pe_lst (pa_cons (pe_tup (pa_cons ha (pa_cons hb pa_nil hs2) hs)) pa_nil hs3)) pa_nil he) (by decide) (by decide) he hpl) fun σ H Q ⟨B, μ, s, ρ, r, e, q⟩ => by
    refine tD_bind r e q fun u s1 x μ1 H1 st1 r1 e1 rel1 q1 => tD_bind r1 e1 q1 fun v s2 y μ2 H2 st2 r2 e2 rel2 q2 => ?_
    replace rel1 := RW.stp st2 rel1
    split at q2
    · rename_i k z
      split at q2
      · rename_i hk
        replace rel1 : Fz H2 (Av B μ2 s2) x k := rel1
        replace rel2 : Fz H2 (Av B μ2 s2) y z := rel2
        refine ⟨by rw [sizeLine_eq]; simp, fun p hp => ?_⟩
        have k1 : Same H2 (upd H2 p (.tup [x, y])) := same_upd hp
        refine ⟨by rw [sizeLine_eq]; simp, fun l hl => ?_⟩
        have k2 : Same (upd H2 p (.tup [x, y])) (upd (upd H2 p (.tup [x, y])) l (.lst [.ref p])) := same_upd hl
        have k3 : Same H2 (upd (upd H2 p (.tup [x, y])) l (.lst [.ref p])) := k1.trans k2
        refine ⟨l, p, x, y, Av B μ2 s2, k, z, rfl, .inl (.inl upd_same), .inl (.inl (k2 _ _ upd_same)), rel1.same k3, hk, rel2.same k3, fun q es' hq kp => ?_⟩
        obtain ⟨a, b⟩ := newCc (o := DObj X.w q es') (c := .dct [(k, z)]) (r2.same k3) hq fun H' A' kk e => .inl ⟨es', by rw [← hw]; exact e, kp.kp kk⟩
        refine q2 _ _ _ ((Stp.same k3).trans b) a ⟨q, rfl, ?_⟩
        rw [← r2.len]
        simp
      · exact q2.elim
    · exact q2.elim
/-! range(i, j, -1) -/
def rngU (i : Int) (n : Nat) : List D := (List.range n).map fun k => .int (i + (k : Nat) * (-1))
theorem itr_rngU {B : Addr → Prop} {μ : List Addr} {s : CS} {H : Hp} {i : Int} {n : Nat} : ItR B μ s H (Itc i (-1) n) (rngU i n) := by
  have hl : (rngU i n).length = n := by simp [rngU]
  refine ⟨fun _ => True, YFn fun k => .int (i + (k : Nat) * (-1)), by rw [hl]; exact walk_rangeC, fun _ _ _ _ => trivial, fun k H' A' v H'' kk bt hi y => ?_⟩
  obtain ⟨rfl, rfl⟩ := y
  rw [hl] at hi
  exact ⟨Same.refl _, .int (i + ((k : Nat) : Int) * (-1)), by simp [rngU, hi], .int _⟩
def rngUW (w u c : W) (s : CS) : R (List D) := match w, u, c with
  | .d (.int i), .d (.int j), .d (.int (.negSucc 0)) => if -1000000 ≤ i ∧ i < 1000000 ∧ -1000000 ≤ j ∧ j < 1000000 then .ok (rngU i (i - j).toNat) s else .bad
  | _, _, _ => .bad
def fRngU (f g h : En → CS → R W) (ρ : En) (s : CS) : R (List D) := (f ρ s).bind fun w s => (g ρ s).bind fun u s => (h ρ s).bind fun c s => rngUW w u c s
theorem di_rngU {tg c : Expr} {h : En → CS → R W} (hg : Gl X "range") (hm : X.mg "range" = none) (ha : DE X T Wx e f) (hb : DE X T Wx e2 g) (hc : DE X T Wx c h)
    (hs : starEach [e, e2, c] X.env = (false, eval e X.env) :: starEach [e2, c] X.env := by rfl) (hs2 : starEach [e2, c] X.env = (false, eval e2 X.env) :: starEach [c] X.env := by rfl) (hs3 : starEach [c] X.env = (false, eval c X.env) :: starEach [] X.env := by rfl)
    (hpl : (backTo pos (starEach [e2, c] X.env)).any (·.1) = false := by rfl) : DI X T Wx tg (.Call (.Name "range" p) [e, e2, c] [] pos) (fRngU f g h) :=
  PI_imp (pi_range3 hg hm (pa_cons ha (pa_cons hb (pa_cons hc pa_nil hs3) hs2) hs) hs hpl) fun σ H Q ⟨B, μ, s, ρ, r, er, q⟩ =>
  tD_bind r er q fun w s1 v μ1 H1 st1 r1 e1 rel1 q1 => tD_bind r1 e1 q1 fun u s2 v2 μ2 H2 st2 r2 e2 rel2 q2 => tD_bind r2 e2 q2 fun c s3 v3 μ3 H3 st3 r3 e3 rel3 q3 => by
    unfold rngUW at q3
    split at q3
    · rename_i i j
      split at q3
      · rename_i hj
        have rel1 : Fz H1 (Av B μ1 s1) v (.int i) := rel1
        have rel2 : Fz H2 (Av B μ2 s2) v2 (.int j) := rel2
        have rel3 : Fz H3 (Av B μ3 s3) v3 (.int (.negSucc 0)) := rel3
        cases rel1
        cases rel2
        cases rel3
        exact ⟨i, j, -1, (i - j).toNat, rfl, RgC.neg (by omega) (by omega) (by omega) (by omega), Fin.here (a := List D) q3 r3 itr_rngU⟩
      · exact q3.elim
    · exact q3.elim
end
/-! comparing what a cell holds, without giving it up -/
def peek (w : W) (s : CS) : Option D := match w with
  | .d x => some x
  | .c n => match s[n]? with
    | some (.lst ds) => some (.list ds)
    | _ => none
  | _ => none
def cmpP (g : D → D → Option D) (w u : W) (s : CS) : R W := match peek w s, peek u s with
  | some x, some y => match g x y with
    | some (.bool b) => .ok (.d (.bool b)) s
    | _ => .bad
  | _, _ => .bad
def fCmpP (g : D → D → Option D) (fa fb : En → CS → R W) (ρ : En) (s : CS) : R W := (fa ρ s).bind fun x s => (fb ρ s).bind fun y s => cmpP g x y s
section
variable [KFrag] {X : Cx} [HK X] {T : TX} {Wx : WXc} {a b : Expr} {fa fb : En → CS → R W} {g : D → D → Option D} {pos : Pos}
theorem peek_fz {B : Addr → Prop} {μ : List Addr} {s : CS} {H : Hp} {v : V} {w : W} {d : D} (r : SR B μ s H) (rel : RW B μ s H v w) (e : peek w s = some d) : Fz H (fun _ => False) v d := by
  unfold peek at e
  split at e
  · cases e
    exact Fz.mono (fun _ z => z.elim) (show Fz H (Av B μ s) v _ from rel)
  · rename_i n
    split at e
    · rename_i ds hs
      cases e
      obtain ⟨a, rfl, ha⟩ := (show ∃ a, v = .ref a ∧ μ[n]? = some a from rel)
      obtain ⟨xs, ea, fz⟩ := r.cell n a _ ha hs
      exact .lst ⟨ea, fun z => z.elim⟩ (fz.mono fun _ z => z.elim)
    · cases e
  · cases e
theorem cmpP_use {σ : L2.St} {H : Hp} {Q : VK} (h : tD T Wx (fCmpP g fa fb) σ H Q) : tOp (rD g) (tD T Wx fa) (tD T Wx fb) σ H Q := by
  obtain ⟨B, μ, s, ρ, r, e, q⟩ := h
  exact tD_bind r e q fun w s1 v μ1 H1 st1 r1 e1 rel1 q1 => tD_bind r1 e1 q1 fun u s2 x μ2 H2 st2 r2 e2 rel2 q2 => by
    replace rel1 := RW.stp st2 rel1
    unfold cmpP at q2
    split at q2
    · rename_i dx dy hx hy
      split at q2
      · rename_i z hz
        refine ⟨fun _ => False, dx, dy, .bool z, fun _ h => h.elim, peek_fz r2 rel1 hx, peek_fz r2 rel2 hy, hz, fun v H' k f => ?_⟩
        cases f
        exact Fin.use (a := W) (w := .d (.bool z)) q2 k r2 (Fz.bl z)
      · exact q2.elim
    · exact q2.elim
theorem de_cmpP {op : CmpOp} (ho : DOp X (compareOp op) g) (ha : DE X T Wx a fa) (hb : DE X T Wx b fb) (hm : behindInMarks op b = false := by first | exact nomark _ | rfl) : DE X T Wx (.Compare a [op] [b] pos) (fCmpP g fa fb) :=
  PE_imp (pe_cmpR ho ha hb hm) fun _ _ _ => cmpP_use
theorem dt_cmpP {op : CmpOp} (ho : DOp X (compareOp op) g) (ha : DE X T Wx a fa) (hb : DE X T Wx b fb) (hm : behindInMarks op b = false := by first | exact nomark _ | rfl) : DT X T Wx (.Compare a [op] [b] pos) (fB (fCmpP g fa fb)) :=
  PT_imp (pt_cmp ⟨fun pins s σ H Q I h => binT ha hb I (cmpP_use h) fun v u s2 x y H2 I2 rx ry q => ho pins s2 σ H2 x y v u Q I2 rx ry q⟩ hm) fun _ _ _ => tB_use
end
end DL
namespace DL
open PySem PySem.Spec PyProof.Rows L2
/-! ### what a def with a pen gives: the pen is cell 0, further cells may come behind -/
def IsPen (c : Cell) : Prop := ∃ (ns : List Int) (a r : Int), c = .lst [.list (ns.map .int), .int a, .int r]
def Pn (s : CS) : Prop := ∃ p, s[0]? = some p ∧ IsPen p
def Sp {α : Type} (f : CS → R α) (P : α → Prop) : Prop := ∀ s, Pn s → ∃ w p t, IsPen p ∧ f s = .ok w (s.set 0 p ++ t) ∧ P w
theorem Pn.ne {s : CS} (h : Pn s) : 0 < s.length := by
  obtain ⟨p, e, _⟩ := h
  exact (List.getElem?_eq_some_iff.mp e).1
theorem Pn.set {s : CS} (h : Pn s) {p : Cell} (hp : IsPen p) (t : CS) : Pn (s.set 0 p ++ t) := by
  refine ⟨p, ?_, hp⟩
  rw [List.getElem?_append_left (by rw [List.length_set]; exact h.ne), List.getElem?_set_self h.ne]
theorem set_set {s : CS} (h : Pn s) (p q : Cell) (t u : CS) : (s.set 0 p ++ t).set 0 q ++ u = s.set 0 q ++ (t ++ u) := by
  rw [List.set_append_left _ _ (by rw [List.length_set]; exact h.ne), List.set_set, List.append_assoc]
theorem set_id {s : CS} {p : Cell} (h : s[0]? = some p) : s.set 0 p ++ [] = s := by
  rw [List.append_nil]
  apply List.ext_getElem?
  intro i
  by_cases hi : 0 = i
  · subst hi
    rw [List.getElem?_set_self (List.getElem?_eq_some_iff.mp h).1, h]
  · rw [List.getElem?_set_ne hi]
section
variable {α β : Type}
theorem Sp.here {f : CS → R α} {P : α → Prop} {w : α} (h : ∀ s, f s = .ok w s) (q : P w) : Sp f P := fun s ⟨p, e, hp⟩ => ⟨w, p, [], hp, by rw [set_id e]; exact h s, q⟩
theorem Sp.bind {f : CS → R α} {g : α → CS → R β} {P : α → Prop} {Q : β → Prop} (hf : Sp f P) (hg : ∀ w, P w → Sp (g w) Q) : Sp (fun s => (f s).bind g) Q := fun s hs => by
  obtain ⟨w, p, t, hp, e, hw⟩ := hf s hs
  obtain ⟨v, q, u, hq, e2, hv⟩ := hg w hw _ (hs.set hp t)
  refine ⟨v, q, t ++ u, hq, ?_, hv⟩
  show (f s).bind g = _
  rw [e]
  show g w _ = _
  rw [e2, set_set hs]
theorem Sp.imp {f : CS → R α} {P Q : α → Prop} (h : Sp f P) (k : ∀ w, P w → Q w) : Sp f Q := fun s hs => let ⟨w, p, t, hp, e, hw⟩ := h s hs; ⟨w, p, t, hp, e, k w hw⟩
end
/-- .. of data -/
def Dd (p : D → Prop) (w : W) : Prop := ∃ x, w = .d x ∧ p x
abbrev SpD (f : En → CS → R W) (ρ : En) (p : D → Prop) : Prop := Sp (f ρ) (Dd p)
theorem sp_c {ρ : En} {x : D} {p : D → Prop} (h : p x) : SpD (fC x) ρ p := Sp.here (fun _ => rfl) ⟨x, rfl, h⟩
theorem sp_v {ρ : En} {i : Nat} {x : D} {p : D → Prop} (e : ρ[i]? = some (some (.d x))) (h : p x) : SpD (fVar i) ρ p := Sp.here (fun s => by simp only [fVar, e]) ⟨x, rfl, h⟩
theorem sp_2 {g : D → D → Option D} {fa fb : En → CS → R W} {ρ : En} {pa pb p : D → Prop} (ha : SpD fa ρ pa) (hb : SpD fb ρ pb) (h : ∀ x y, pa x → pb y → ∃ z, g x y = some z ∧ p z) : SpD (f2 g fa fb) ρ p :=
  Sp.bind (g := fun x s => (fb ρ s).bind fun y s => lift2 g x y s) ha fun w ⟨x, ew, hx⟩ => Sp.bind (g := fun y s => lift2 g w y s) hb fun v ⟨y, ev, hy⟩ => by
    obtain ⟨z, e, hz⟩ := h x y hx hy
    subst ew
    subst ev
    exact Sp.here (w := .d z) (fun s => by simp only [lift2, e]) ⟨z, rfl, hz⟩
theorem sp_1 {g : D → Option D} {fa : En → CS → R W} {ρ : En} {pa p : D → Prop} (ha : SpD fa ρ pa) (h : ∀ x, pa x → ∃ z, g x = some z ∧ p z) : SpD (f1 g fa) ρ p :=
  Sp.bind (g := fun x s => lift1 g x s) ha fun w ⟨x, ew, hx⟩ => by
    obtain ⟨z, e, hz⟩ := h x hx
    subst ew
    exact Sp.here (w := .d z) (fun s => by simp only [lift1, e]) ⟨z, rfl, hz⟩
/-! argument lists -/
abbrev SpL (fs : En → CS → R (List W)) (ρ : En) (P : List W → Prop) : Prop := Sp (fs ρ) P
theorem sp_nil {ρ : En} : SpL fNil ρ (· = []) := Sp.here (fun _ => rfl) rfl
theorem sp_cons {f : En → CS → R W} {g : En → CS → R (List W)} {ρ : En} {P : W → Prop} {Q : List W → Prop} (hf : Sp (f ρ) P) (hg : SpL g ρ Q) : SpL (fCons f g) ρ fun ws => ∃ w r, ws = w :: r ∧ P w ∧ Q r :=
  Sp.bind (g := fun w s => (g ρ s).bind fun ws s => .ok (w :: ws) s) hf fun w hw => Sp.bind (g := fun ws s => .ok (w :: ws) s) hg fun r hr => Sp.here (fun _ => rfl) ⟨w, r, rfl, hw, hr⟩
theorem sp_pen {ρ : En} {i : Nat} (e : ρ[i]? = some (some (.c 0))) : Sp (fVar i ρ) (· = .c 0) := Sp.here (fun s => by simp only [fVar, e]) rfl
/-- a call of what is told -/
theorem sp_call {m : Nat} {h : List W → CS → R W} {fs : En → CS → R (List W)} {ρ : En} {P : List W → Prop} {Q : W → Prop} (ha : SpL fs ρ P) (hl : ∀ ws, P ws → ws.length = m) (hh : ∀ ws, P ws → Sp (noX h ws) Q) : Sp (fCall m h fs ρ) Q :=
  Sp.bind (g := fun (ws : List W) (s : CS) => if ws.length = m then noX h ws s else .bad) ha fun ws hw => by
    have e : (fun s => if ws.length = m then noX h ws s else R.bad) = noX h ws := funext fun s => if_pos (hl ws hw)
    rw [e]
    exact hh ws hw
theorem sp_N {g : List D → Option D} {fs : En → CS → R (List W)} {ρ : En} {P : List W → Prop} {p : D → Prop} (ha : SpL fs ρ P) (h : ∀ ws, P ws → ∃ xs z, allD ws = some xs ∧ g xs = some z ∧ p z) : SpD (fN g fs) ρ p :=
  Sp.bind (g := fun ws s => liftN g ws s) ha fun ws hw => by
    obtain ⟨xs, z, e1, e2, hz⟩ := h ws hw
    exact Sp.here (w := .d z) (fun s => by simp only [liftN, e1, e2]) ⟨z, rfl, hz⟩
/-! truths -/
theorem sp_B {f : En → CS → R W} {ρ : En} {p : Bool → Prop} (h : SpD f ρ fun x => ∃ b, x = .bool b ∧ p b) : Sp (fB f ρ) p :=
  Sp.bind (g := toB) h fun w ⟨x, ew, b, ex, hb⟩ => by
    subst ew
    subst ex
    exact Sp.here (fun _ => rfl) hb
theorem sp_not {f : En → CS → R Bool} {ρ : En} {p q : Bool → Prop} (h : Sp (f ρ) p) (k : ∀ b, p b → q (!b)) : Sp (fNot f ρ) q := Sp.bind (g := fun b s => .ok (!b) s) h fun b hb => Sp.here (fun _ => rfl) (k b hb)
theorem sp_and {f g : En → CS → R Bool} {ρ : En} {p q r : Bool → Prop} (h : Sp (f ρ) p) (k : Sp (g ρ) q) (h1 : p false → r false) (h2 : ∀ b, p true → q b → r b) : Sp (fAnd f g ρ) r :=
  Sp.bind (g := fun b s => if b = true then g ρ s else .ok false s) h fun b hb => by
    cases b with
    | true => exact k.imp fun c hc => h2 c hb hc
    | false => exact Sp.here (fun _ => rfl) (h1 hb)
theorem sp_if {t : En → CS → R Bool} {f g : En → CS → R W} {ρ : En} {p : Bool → Prop} {P : W → Prop} (h : Sp (t ρ) p) (h1 : p true → Sp (f ρ) P) (h2 : p false → Sp (g ρ) P) : Sp (fIf t f g ρ) P :=
  Sp.bind (g := fun b s => if b = true then f ρ s else g ρ s) h fun b hb => by
    cases b with
    | true => exact h1 hb
    | false => exact h2 hb
/-! a row of what is told -/
theorem sp_comp {h : W → En → Option En} {f : En → CS → R W} {ρ : En} {p : D → Prop} : ∀ items : List D, (∀ x ∈ items, ∃ ρ1, h (.d x) ρ = some ρ1 ∧ SpD f ρ1 p) → Sp (compL h fYes f ρ items) fun ys => ys.length = items.length ∧ ∀ y ∈ ys, p y
  | [], _ => Sp.here (fun _ => rfl) ⟨rfl, fun y hy => (nomatch hy)⟩
  | x :: r, hx => by
    obtain ⟨ρ1, e1, hf⟩ := hx x (by simp)
    have ih := sp_comp (h := h) (f := f) (ρ := ρ) (p := p) r fun y hy => hx y (by simp [hy])
    intro s hs
    obtain ⟨w, q, t, hq, e2, y, rfl, hy⟩ := hf s hs
    obtain ⟨ys, q2, t2, hq2, e3, h3, h4⟩ := ih _ (hs.set hq t)
    refine ⟨y :: ys, q2, t ++ t2, hq2, ?_, by simp [h3], fun z hz => (List.mem_cons.mp hz).elim (fun q => by rw [q]; exact hy) (h4 z)⟩
    unfold compL
    simp only [e1, fYes, R.bind0, if_true, e2, consR, e3]
    rw [set_set hs]
theorem sp_lc {vs : List Nat} {fi : En → CS → R (List D)} {h : W → En → Option En} {f : En → CS → R W} {ρ : En} {q : List D → Prop} {p : D → Prop} (hi : Sp (fi ρ) q) (hl : ∀ xs, q xs → xs.length ≤ line) (hx : ∀ xs, q xs → ∀ x ∈ xs, ∃ ρ1, h (.d x) (wipeE ρ vs) = some ρ1 ∧ SpD f ρ1 p) :
    SpD (fLc vs fi h fYes f) ρ fun z => ∃ xs ys, q xs ∧ z = .list ys ∧ ys.length = xs.length ∧ ∀ y ∈ ys, p y :=
  Sp.bind (g := fun (items : List D) (s : CS) => if items.length ≤ line then endL [] (compL h fYes f (wipeE ρ vs) items s) else .bad) hi fun xs hq => by
    have e : (fun s => if xs.length ≤ line then endL [] (compL h fYes f (wipeE ρ vs) xs s) else R.bad) = fun s => endL [] (compL h fYes f (wipeE ρ vs) xs s) := funext fun s => if_pos (hl xs hq)
    rw [e]
    intro s hs
    obtain ⟨ys, p1, t, hp, e1, h1, h2⟩ := sp_comp xs (hx xs hq) s hs
    exact ⟨.d (.list ys), p1, t, hp, by show endL [] _ = _; rw [e1]; rfl, .list ys, rfl, xs, ys, hq, rfl, h1, h2⟩
def rngK (w : W) (s : CS) : R (List D) := match w with
  | .d (.int j) => if -(2 ^ 62) ≤ j ∧ j < 2 ^ 62 then .ok (rngD 0 j.toNat) s else .bad
  | _ => .bad
theorem sp_rng {f : En → CS → R W} {ρ : En} {p : Int → Prop} (h : SpD f ρ fun x => ∃ j, x = .int j ∧ 0 ≤ j ∧ j < 1000000 ∧ p j) : Sp (fRng1 f ρ) fun xs => ∃ j, xs = rngD 0 j.toNat ∧ 0 ≤ j ∧ j < 1000000 ∧ p j :=
  Sp.bind (g := rngK) h fun w ⟨x, ew, j, ex, h0, h1, hj⟩ => by
    subst ew
    subst ex
    exact Sp.here (w := rngD 0 j.toNat) (fun s => by
      show (if -(2 ^ 62) ≤ j ∧ j < 2 ^ 62 then _ else _) = _
      rw [if_pos ⟨by omega, by omega⟩]) ⟨j, rfl, h0, h1, hj⟩
theorem sp_it {f : En → CS → R W} {ρ : En} {p : List D → Prop} (h : SpD f ρ fun x => ∃ ds, (x = .tuple ds ∨ x = .list ds) ∧ p ds) : Sp (fIt f ρ) p :=
  Sp.bind h fun w ⟨x, ew, ds, ex, hp⟩ => by
    subst ew
    rcases ex with rfl | rfl
    · exact Sp.here (fun _ => rfl) hp
    · exact Sp.here (fun _ => rfl) hp
/-! statements -/
def SpN (g : En → CS → RT) (ρ : En) (Q : En → Prop) : Prop := ∀ s, Pn s → ∃ ρ' p t, IsPen p ∧ g ρ s = .nx ρ' (s.set 0 p ++ t) ∧ Q ρ'
def SpR (g : En → CS → RT) (ρ : En) (P : W → Prop) : Prop := ∀ s, Pn s → ∃ w p t, IsPen p ∧ g ρ s = .rt w (s.set 0 p ++ t) ∧ P w
theorem sp_ret {f : En → CS → R W} {ρ : En} {P : W → Prop} (h : Sp (f ρ) P) : SpR (gRet f) ρ P := fun s hs => by
  obtain ⟨w, p, t, hp, e, hw⟩ := h s hs
  exact ⟨w, p, t, hp, by rw [gRet, e]; rfl, hw⟩
theorem sp_asg {h : W → En → Option En} {f : En → CS → R W} {ρ : En} {P : W → Prop} {Q : En → Prop} (hf : Sp (f ρ) P) (k : ∀ w, P w → ∃ ρ', h w ρ = some ρ' ∧ Q ρ') : SpN (gAsg h f) ρ Q := fun s hs => by
  obtain ⟨w, p, t, hp, e, hw⟩ := hf s hs
  obtain ⟨ρ', e2, hq⟩ := k w hw
  exact ⟨ρ', p, t, hp, asg_at e e2, hq⟩
theorem sp_seq {g k : En → CS → RT} {ρ : En} {Q : En → Prop} {P : W → Prop} (h : SpN g ρ Q) (j : ∀ ρ', Q ρ' → SpR k ρ' P) : SpR (gSeq g k) ρ P := fun s hs => by
  obtain ⟨ρ', p, t, hp, e, hq⟩ := h s hs
  obtain ⟨w, p2, t2, hp2, e2, hw⟩ := j ρ' hq _ (hs.set hp t)
  exact ⟨w, p2, t ++ t2, hp2, by rw [seq_at e, e2, set_set hs], hw⟩
theorem sp_seqN {g k : En → CS → RT} {ρ : En} {Q Q' : En → Prop} (h : SpN g ρ Q) (j : ∀ ρ', Q ρ' → SpN k ρ' Q') : SpN (gSeq g k) ρ Q' := fun s hs => by
  obtain ⟨ρ', p, t, hp, e, hq⟩ := h s hs
  obtain ⟨w, p2, t2, hp2, e2, hw⟩ := j ρ' hq _ (hs.set hp t)
  exact ⟨w, p2, t ++ t2, hp2, by rw [seq_at e, e2, set_set hs], hw⟩
theorem sp_nx {ρ : En} {Q : En → Prop} (h : Q ρ) : SpN gNx ρ Q := fun s ⟨p, e, hp⟩ => ⟨ρ, p, [], hp, by rw [set_id e]; rfl, h⟩
/-- a test whose first branch returns -/
theorem sp_ifR {t : En → CS → R Bool} {g k j : En → CS → RT} {ρ : En} {p : Bool → Prop} {P : W → Prop} (h : Sp (t ρ) p) (h1 : p true → SpR g ρ P) (h2 : p false → SpR (gSeq k j) ρ P) : SpR (gSeq (gIf t g k) j) ρ P := fun s hs => by
  obtain ⟨b, q, u, hq, e, hb⟩ := h s hs
  cases b with
  | true =>
    obtain ⟨w, p2, t2, hp2, e2, hw⟩ := h1 hb _ (hs.set hq u)
    refine ⟨w, p2, u ++ t2, hp2, ?_, hw⟩
    have : gIf t g k ρ s = .rt w (s.set 0 p2 ++ (u ++ t2)) := by
      rw [gIf, e]
      show g ρ _ = _
      rw [e2, set_set hs]
    rw [gSeq, this]
  | false =>
    obtain ⟨w, p2, t2, hp2, e2, hw⟩ := h2 hb _ (hs.set hq u)
    refine ⟨w, p2, u ++ t2, hp2, ?_, hw⟩
    have : gIf t g k ρ s = k ρ (s.set 0 q ++ u) := by
      rw [gIf, e]
      rfl
    rw [gSeq, this]
    show gSeq k j ρ _ = _
    rw [e2, set_set hs]
theorem sp_ifN {t : En → CS → R Bool} {g k : En → CS → RT} {ρ : En} {p : Bool → Prop} {Q : En → Prop} (h : Sp (t ρ) p) (h1 : p true → SpN g ρ Q) (h2 : p false → SpN k ρ Q) : SpN (gIf t g k) ρ Q := fun s hs => by
  obtain ⟨b, q, u, hq, e, hb⟩ := h s hs
  have : gIf t g k ρ s = if b = true then g ρ (s.set 0 q ++ u) else k ρ (s.set 0 q ++ u) := by
    rw [gIf, e]
    rfl
  cases b with
  | true =>
    obtain ⟨ρ', p2, t2, hp2, e2, hw⟩ := h1 hb _ (hs.set hq u)
    exact ⟨ρ', p2, u ++ t2, hp2, by rw [this, if_pos rfl, e2, set_set hs], hw⟩
  | false =>
    obtain ⟨ρ', p2, t2, hp2, e2, hw⟩ := h2 hb _ (hs.set hq u)
    exact ⟨ρ', p2, u ++ t2, hp2, by rw [this, if_neg Bool.false_ne_true, e2, set_set hs], hw⟩
theorem sp_par2 {i j : Nat} {fs : En → CS → R (List W)} {ρ : En} {P : List W → Prop} {Q : En → Prop} (hf : SpL fs ρ P) (k : ∀ ws, P ws → ∃ v w, ws = [v, w] ∧ Q ((ρ.set i (some v)).set j (some w))) : SpN (gPar2 i j fs) ρ Q := fun s hs => by
  obtain ⟨ws, p, t, hp, e, hw⟩ := hf s hs
  obtain ⟨v, w, rfl, hq⟩ := k ws hw
  exact ⟨_, p, t, hp, by rw [gPar2, e]; rfl, hq⟩
/-- a def -/
theorem sp_def {m n : Nat} {g : En → CS → RT} {ws : List W} {P : W → Prop} (hl : ws.length = m) (h : SpR g (startE n ws) P) : Sp (noX (fnR m n g) ws) P := fun s hs => by
  obtain ⟨w, p, t, hp, e, hw⟩ := h s hs
  refine ⟨w, p, t, hp, ?_, hw⟩
  unfold noX fnR
  rw [if_pos hl, e]
end DL
namespace K05
open PySem PySem.Spec PyProof.Rows L2 DL
/-! the text -/
def topS (i : Nat) : Stmt := PySem.Challenge.pw_movedfolders_k05_what_comes_about_withou.main.body.getD i (.Pass ⟨0, 0, 0, 0⟩)
abbrev xcome_to_s : Stmt := topS 1
abbrev xcome_to_N : List Str := ["house"]
theorem xcome_to_sc : FnScope xcome_to_N ["house"] (defScope xcome_to_s) := ⟨rfl, rfl, rfl, by decide +kernel, rfl, by decide +kernel, by decide +kernel⟩
abbrev xrow_to_s : Stmt := topS 2
abbrev xrow_to_N : List Str := ["house", "content"]
theorem xrow_to_sc : FnScope xrow_to_N ["house", "content"] (defScope xrow_to_s) := ⟨rfl, rfl, rfl, by decide +kernel, rfl, by decide +kernel, by decide +kernel⟩
abbrev xmade_by_s : Stmt := topS 3
abbrev xmade_by_N : List Str := ["house", "kind", "content", "step"]
theorem xmade_by_sc : FnScope xmade_by_N ["house", "kind", "content"] (defScope xmade_by_s) := ⟨rfl, rfl, rfl, by decide +kernel, rfl, by decide +kernel, by decide +kernel⟩
abbrev y_behind_step_s : Stmt := topS 4
abbrev y_behind_step_N : List Str := ["sizes", "step", "content", "_", "cell", "low", "high", "inner"]
theorem y_behind_step_sc : FnScope y_behind_step_N ["sizes", "step", "content"] (defScope y_behind_step_s) := ⟨rfl, rfl, rfl, by decide +kernel, rfl, by decide +kernel, by decide +kernel⟩
abbrev y_behind_plain_step_s : Stmt := topS 5
abbrev y_behind_plain_step_N : List Str := ["sizes", "step", "content", "cell", "value"]
theorem y_behind_plain_step_sc : FnScope y_behind_plain_step_N ["sizes", "step", "content"] (defScope y_behind_plain_step_s) := ⟨rfl, rfl, rfl, by decide +kernel, rfl, by decide +kernel, by decide +kernel⟩
abbrev y_new_value_s : Stmt := topS 6
abbrev y_new_value_N : List Str := ["sizes", "step", "content", "word", "cell", "last"]
theorem y_new_value_sc : FnScope y_new_value_N ["sizes", "step", "content"] (defScope y_new_value_s) := ⟨rfl, rfl, rfl, by decide +kernel, rfl, by decide +kernel, by decide +kernel⟩
abbrev y_shortest_rows_s : Stmt := topS 7
abbrev y_shortest_rows_N : List Str := ["house", "begin", "rows", "newest"]
theorem y_shortest_rows_sc : FnScope y_shortest_rows_N ["house"] (defScope y_shortest_rows_s) := ⟨rfl, rfl, rfl, by decide +kernel, rfl, by decide +kernel, by decide +kernel⟩
abbrev y_add_longer_rows_s : Stmt := topS 8
abbrev y_add_longer_rows_N : List Str := ["house", "rows", "newest", "found", "content", "kind", "made"]
theorem y_add_longer_rows_sc : FnScope y_add_longer_rows_N ["house", "rows", "newest"] (defScope y_add_longer_rows_s) := ⟨rfl, rfl, rfl, by decide +kernel, rfl, by decide +kernel, by decide +kernel⟩
abbrev y_law_pen_s : Stmt := topS 10
abbrev y_law_pen_N : List Str := ["_law_script"]
theorem y_law_pen_sc : FnScope y_law_pen_N ["_law_script"] (defScope y_law_pen_s) := ⟨rfl, rfl, rfl, by decide +kernel, rfl, by decide +kernel, by decide +kernel⟩
abbrev y_law_fresh_s : Stmt := topS 11
abbrev y_law_fresh_N : List Str := ["_law_pen_here", "_law_at", "_law_cell", "_law_p", "_law_state", "_law_found", "_law_turn"]
theorem y_law_fresh_sc : FnScope y_law_fresh_N ["_law_pen_here"] (defScope y_law_fresh_s) := ⟨rfl, rfl, rfl, by decide +kernel, rfl, by decide +kernel, by decide +kernel⟩
abbrev y_law_draw_s : Stmt := topS 12
abbrev y_law_draw_N : List Str := ["_law_pen_here", "_law_many", "_law_digit"]
theorem y_law_draw_sc : FnScope y_law_draw_N ["_law_pen_here", "_law_many"] (defScope y_law_draw_s) := ⟨rfl, rfl, rfl, by decide +kernel, rfl, by decide +kernel, by decide +kernel⟩
abbrev y_law_one_of_s : Stmt := topS 13
abbrev y_law_one_of_N : List Str := ["_law_pen_here", "_law_rows"]
theorem y_law_one_of_sc : FnScope y_law_one_of_N ["_law_pen_here", "_law_rows"] (defScope y_law_one_of_s) := ⟨rfl, rfl, rfl, by decide +kernel, rfl, by decide +kernel, by decide +kernel⟩
abbrev y_law_sizes_s : Stmt := topS 14
abbrev y_law_sizes_N : List Str := ["_law_pen_here", "_law_some"]
theorem y_law_sizes_sc : FnScope y_law_sizes_N ["_law_pen_here"] (defScope y_law_sizes_s) := ⟨rfl, rfl, rfl, by decide +kernel, rfl, by decide +kernel, by decide +kernel⟩
abbrev y_law_plain_s : Stmt := topS 15
abbrev y_law_plain_N : List Str := ["_law_pen_here", "_law_sizes_here", "_law_cell", "_law_word", "_law_other"]
theorem y_law_plain_sc : FnScope y_law_plain_N ["_law_pen_here", "_law_sizes_here"] (defScope y_law_plain_s) := ⟨rfl, rfl, rfl, by decide +kernel, rfl, by decide +kernel, by decide +kernel⟩
abbrev y_law_step_s : Stmt := topS 16
abbrev y_law_step_N : List Str := ["_law_pen_here", "_law_sizes_here", "_law_found", "_law_cell", "_law_low"]
theorem y_law_step_sc : FnScope y_law_step_N ["_law_pen_here", "_law_sizes_here"] (defScope y_law_step_s) := ⟨rfl, rfl, rfl, by decide +kernel, rfl, by decide +kernel, by decide +kernel⟩
abbrev y_law_kind_s : Stmt := topS 17
abbrev y_law_kind_N : List Str := ["_law_pen_here", "_law_sizes_here", "_law_most", "_law_lap"]
theorem y_law_kind_sc : FnScope y_law_kind_N ["_law_pen_here", "_law_sizes_here", "_law_most"] (defScope y_law_kind_s) := ⟨rfl, rfl, rfl, by decide +kernel, rfl, by decide +kernel, by decide +kernel⟩
abbrev y_law_house_of_s : Stmt := topS 18
abbrev y_law_house_of_N : List Str := ["_law_pen_here", "_law_sizes_here", "_law_many", "_law_begin", "_law_most", "_law_size", "_law_lap"]
theorem y_law_house_of_sc : FnScope y_law_house_of_N ["_law_pen_here", "_law_sizes_here", "_law_many"] (defScope y_law_house_of_s) := ⟨rfl, rfl, rfl, by decide +kernel, rfl, by decide +kernel, by decide +kernel⟩
abbrev y_law_some_house_s : Stmt := topS 19
abbrev y_law_some_house_N : List Str := ["_law_pen_here"]
theorem y_law_some_house_sc : FnScope y_law_some_house_N ["_law_pen_here"] (defScope y_law_some_house_s) := ⟨rfl, rfl, rfl, by decide +kernel, rfl, by decide +kernel, by decide +kernel⟩
abbrev y_law_small_house_s : Stmt := topS 20
abbrev y_law_small_house_N : List Str := ["_law_pen_here", "_law_sizes_here"]
theorem y_law_small_house_sc : FnScope y_law_small_house_N ["_law_pen_here"] (defScope y_law_small_house_s) := ⟨rfl, rfl, rfl, by decide +kernel, rfl, by decide +kernel, by decide +kernel⟩
abbrev y_law_wide_s : Stmt := topS 21
abbrev y_law_wide_N : List Str := ["_law_pen_here", "_law_kinds", "_law_more"]
theorem y_law_wide_sc : FnScope y_law_wide_N ["_law_pen_here"] (defScope y_law_wide_s) := ⟨rfl, rfl, rfl, by decide +kernel, rfl, by decide +kernel, by decide +kernel⟩
abbrev y_law_trap_s : Stmt := topS 22
abbrev y_law_trap_N : List Str := ["_law_pen_here", "_law_one", "_law_two", "_law_kinds", "_law_more"]
theorem y_law_trap_sc : FnScope y_law_trap_N ["_law_pen_here"] (defScope y_law_trap_s) := ⟨rfl, rfl, rfl, by decide +kernel, rfl, by decide +kernel, by decide +kernel⟩
abbrev y_law_deep_s : Stmt := topS 23
abbrev y_law_deep_N : List Str := ["_law_pen_here", "_law_need", "_law_house"]
theorem y_law_deep_sc : FnScope y_law_deep_N ["_law_pen_here"] (defScope y_law_deep_s) := ⟨rfl, rfl, rfl, by decide +kernel, rfl, by decide +kernel, by decide +kernel⟩
abbrev y_law_rules_s : Stmt := topS 24
abbrev y_law_rules_N : List Str := ["_law_pen_here", "_law_house", "_law_most", "_law_found", "_law_lap", "_law_sides", "_law_side", "_law_some", "_law_content"]
theorem y_law_rules_sc : FnScope y_law_rules_N ["_law_pen_here", "_law_house", "_law_most"] (defScope y_law_rules_s) := ⟨rfl, rfl, rfl, by decide +kernel, rfl, by decide +kernel, by decide +kernel⟩
abbrev y_law_pair_s : Stmt := topS 25
abbrev y_law_pair_N : List Str := ["_law_pen_here", "_law_option", "_law_house"]
theorem y_law_pair_sc : FnScope y_law_pair_N ["_law_pen_here"] (defScope y_law_pair_s) := ⟨rfl, rfl, rfl, by decide +kernel, rfl, by decide +kernel, by decide +kernel⟩
abbrev y_law_contents_s : Stmt := topS 26
abbrev y_law_contents_N : List Str := ["_law_house", "_law_found", "_law_size", "_law_rows", "_law_row", "_law_value"]
theorem y_law_contents_sc : FnScope y_law_contents_N ["_law_house"] (defScope y_law_contents_s) := ⟨rfl, rfl, rfl, by decide +kernel, rfl, by decide +kernel, by decide +kernel⟩
abbrev y_law_stepped_s : Stmt := topS 27
abbrev y_law_stepped_N : List Str := ["_law_sizes_here", "_law_cells", "_law_step_here", "_law_word", "_law_cell", "_law_number"]
theorem y_law_stepped_sc : FnScope y_law_stepped_N ["_law_sizes_here", "_law_cells", "_law_step_here"] (defScope y_law_stepped_s) := ⟨rfl, rfl, rfl, by decide +kernel, rfl, by decide +kernel, by decide +kernel⟩
abbrev y_law_made_s : Stmt := topS 28
abbrev y_law_made_N : List Str := ["_law_house", "_law_content", "_law_kind_here", "_law_cells", "_law_step_here"]
theorem y_law_made_sc : FnScope y_law_made_N ["_law_house", "_law_content", "_law_kind_here"] (defScope y_law_made_s) := ⟨rfl, rfl, rfl, by decide +kernel, rfl, by decide +kernel, by decide +kernel⟩
abbrev y_law_steps_to_s : Stmt := topS 29
abbrev y_law_steps_to_N : List Str := ["_law_house", "_law_found", "_law_row", "_law_content", "_law_kind_here", "_law_behind"]
theorem y_law_steps_to_sc : FnScope y_law_steps_to_N ["_law_house"] (defScope y_law_steps_to_s) := ⟨rfl, rfl, rfl, by decide +kernel, rfl, by decide +kernel, by decide +kernel⟩
abbrev y_law_right_s : Stmt := topS 30
abbrev y_law_right_N : List Str := ["_law_house", "_law_found", "_law_content", "_law_told", "_law_behind", "_law_kind_here"]
theorem y_law_right_sc : FnScope y_law_right_N ["_law_house"] (defScope y_law_right_s) := ⟨rfl, rfl, rfl, by decide +kernel, rfl, by decide +kernel, by decide +kernel⟩
abbrev xlaw_s : Stmt := topS 31
abbrev xlaw_N : List Str := ["_law_script", "_law_pen_here", "_law_turn", "_law_house", "_law_rules_here", "_law_text", "_law_steps", "_law_start", "_law_row", "_law_due_row", "_law_value", "_law_told"]
theorem xlaw_sc : FnScope xlaw_N ["_law_script"] (defScope xlaw_s) := ⟨rfl, rfl, rfl, by decide +kernel, rfl, by decide +kernel, by decide +kernel⟩
/-! the mirrors -/
def y_new_value_g : En → CS → RT := (gSeq (gAsg (hT 3 (hsC (hN 3) (hsC (hN 4) (hsC (hN 5) hsN)))) (fVar 1))
    (gSeq (gIf (fB (f2 eqD (fVar 3) (fC (.str "set")))) (gRet (fVar 5)) gNx)
    (gSeq (gIf (fB (f2 eqD (fVar 3) (fC (.str "raise")))) (gRet (fN max2D (fCons (f2 ixD (fVar 2) (fVar 4)) (fCons (fVar 5) fNil)))) gNx)
    (gSeq (gIf (fB (f2 eqD (fVar 3) (fC (.str "lower")))) (gRet (fN minA (fCons (f2 ixD (fVar 2) (fVar 4)) (fCons (fVar 5) fNil)))) gNx)
    (gRet (fN minA (fCons (f2 ixD (fVar 2) (fVar 5)) (fCons (f2 subD (f2 ixD (fVar 0) (fVar 4)) (fC (.int 1))) fNil))))))))
abbrev y_new_value_r : List W → CS → R W := fnR 3 6 y_new_value_g
def y_behind_plain_step_g : En → CS → RT := (gSeq (gAsg (hN 3) (f2 ixD (fVar 1) (fC (.int 1))))
    (gSeq (gAsg (hN 4) (fCallP 3 (noX y_new_value_r) (fCons (fVar 0) (fCons (fVar 1) (fCons (fVar 2) fNil)))))
    (gRet (f2 addD (f2 addD (fSl (fVar 2) fO0 (fO1 (fVar 3))) (fN tupD (fCons (fVar 4) fNil))) (fSl (fVar 2) (fO1 (f2 addD (fVar 3) (fC (.int 1)))) fO0)))))
abbrev y_behind_plain_step_r : List W → CS → R W := fnR 3 5 y_behind_plain_step_g
def y_behind_step_g : En → CS → RT := (gSeq (gIf (fB (f2 neD (f2 ixD (fVar 1) (fC (.int 0))) (fC (.str "when")))) (gRet (fCallP 3 (noX y_behind_plain_step_r) (fCons (fVar 0) (fCons (fVar 1) (fCons (fVar 2) fNil))))) gNx)
    (gSeq (gAsg (hT 5 (hsC (hN 3) (hsC (hN 4) (hsC (hN 5) (hsC (hN 6) (hsC (hN 7) hsN)))))) (fVar 1))
    (gSeq (gIf (fB (fChain leD leD (fVar 5) (f2 ixD (fVar 2) (fVar 4)) (fVar 6))) (gRet (fCallP 3 (noX y_behind_plain_step_r) (fCons (fVar 0) (fCons (fVar 7) (fCons (fVar 2) fNil))))) gNx)
    (gRet (fVar 2)))))
abbrev y_behind_step_r : List W → CS → R W := fnR 3 8 y_behind_step_g
def xmade_by_g : En → CS → RT := (gSeq (gFor (fIt (f2 ixD (f2 ixD (fVar 0) (fC (.int 2))) (fVar 1))) (hN 3) (gAsg (hN 2) (fCallP 3 (noX y_behind_step_r) (fCons (f2 ixD (fVar 0) (fC (.int 0))) (fCons (fVar 3) (fCons (fVar 2) fNil))))))
    (gRet (fVar 2)))
abbrev xmade_by_r : List W → CS → R W := fnR 3 4 xmade_by_g
def y_add_longer_rows_g : En → CS → RT := (gSeq (gAsg (hN 3) (fNew fNil))
    (gSeq (gFor (fIt (fVar 2)) (hN 4) (gFor (fRng1 (fN lenD (fCons (f2 ixD (fVar 0) (fC (.int 2))) fNil))) (hN 5) (gSeq (gAsg (hN 6) (fCallP 3 (noX xmade_by_r) (fCons (fVar 0) (fCons (fVar 5) (fCons (fVar 4) fNil)))))
    (gIf (fB (fDIn true (fVar 6) (fVar 1))) (gSeq (gDPut (f2 addD (fDGet (fVar 1) (fVar 4)) (fN tupD (fCons (fVar 5) fNil))) (fVar 1) (fVar 6))
    (gAppC (fVar 3) (fVar 6))) gNx))))
    (gRet (fFrz 3))))
abbrev y_add_longer_rows_r : List W → CS → R W := fnR 3 7 y_add_longer_rows_g
def y_shortest_rows_g : En → CS → RT := (gSeq (gAsg (hN 1) (f2 ixD (fVar 0) (fC (.int 1))))
    (gSeq (gAsg (hN 2) (fNewD1 (fVar 1) (fN tupD fNil)))
    (gSeq (gAsg (hN 3) (fN lstD (fCons (fVar 1) fNil)))
    (gSeq (whileL (fTr (fVar 3)) (gAsg (hN 3) (fCall 3 y_add_longer_rows_r (fCons (fVar 0) (fCons (fVar 2) (fCons (fVar 3) fNil))))) 4096)
    (gRet (fFrzD 2))))))
abbrev y_shortest_rows_r : List W → CS → R W := fnR 1 4 y_shortest_rows_g
def xcome_to_g : En → CS → RT := (gRet (fN tupleD (fCons (fSrt (fCons (fCall 1 y_shortest_rows_r (fCons (fVar 0) fNil)) fNil)) fNil)))
abbrev xcome_to_r : List W → CS → R W := fnR 1 1 xcome_to_g
def xrow_to_g : En → CS → RT := (gRet (fDGetM (fCall 1 y_shortest_rows_r (fCons (fVar 0) fNil)) (fVar 1)))
abbrev xrow_to_r : List W → CS → R W := fnR 2 2 xrow_to_g
def y_law_pen_g : En → CS → RT := (gRet (fNew (fCons (fN listD (fCons (fSl (fVar 0) fO0 (fO1 (fC (.int 63)))) fNil)) (fCons (fC (.int 0)) (fCons (fC (.int 0)) fNil)))))
abbrev y_law_pen_r : List W → CS → R W := fnR 1 1 y_law_pen_g
def y_law_fresh_g : En → CS → RT := (gSeq (gAsg (hN 1) (fIxC (fVar 0) (fC (.int 1))))
    (gSeq (gPutC (f2 addD (fVar 1) (fC (.int 1))) (fVar 0) (fC (.int 1)))
    (gSeq (gAsg (hN 2) (fC (.int 0)))
    (gSeq (gIf (fB (f2 neD (fIxC (fVar 0) (fC (.int 0))) (fN lstD fNil))) (gAsg (hN 2) (f2 ixD (fIxC (fVar 0) (fC (.int 0))) (f2 modD (fN intD (fCons (fVar 1) fNil)) (fN lenD (fCons (fIxC (fVar 0) (fC (.int 0))) fNil))))) gNx)
    (gSeq (gIf (fAnd (fB (f2 ltD (fVar 1) (fN lenD (fCons (fIxC (fVar 0) (fC (.int 0))) fNil)))) (fB (f2 geD (fVar 2) (f2 powD (fC (.int 10)) (fC (.int 18)))))) (gRet (f2 subD (fVar 2) (f2 powD (fC (.int 10)) (fC (.int 18))))) gNx)
    (gSeq (gAsg (hN 3) (fC (.int 2305843009213693951)))
    (gSeq (gAsg (hN 4) (f2 modD (fN intD (fCons (f2 addD (f2 addD (f2 mulD (fVar 2) (fC (.int 48271))) (f2 mulD (fC (.int 40692)) (fVar 1))) (fC (.int 31))) fNil)) (fVar 3)))
    (gSeq (gAsg (hN 5) (fVar 4))
    (gSeq (gFor (fRng1 (fC (.int 6))) (hN 6) (gSeq (gAsg (hN 4) (f2 modD (fN intD (fCons (f2 addD (f2 addD (f2 mulD (fVar 4) (fVar 4)) (f2 mulD (f2 mulD (fC (.int 69621)) (f2 addD (fVar 6) (fC (.int 1)))) (f2 addD (fVar 1) (fC (.int 1))))) (fVar 2)) fNil)) (fVar 3)))
    (gAsg (hN 5) (f2 addD (f2 mulD (fVar 5) (fVar 3)) (fVar 4)))))
    (gRet (fVar 5)))))))))))
abbrev y_law_fresh_r : List W → CS → R W := fnR 1 7 y_law_fresh_g
def y_law_draw_g : En → CS → RT := (gSeq (gIf (fB (f2 ltD (fIxC (fVar 0) (fC (.int 2))) (fVar 1))) (gPutC (fCall 1 y_law_fresh_r (fCons (fVar 0) fNil)) (fVar 0) (fC (.int 2))) gNx)
    (gSeq (gAsg (hN 2) (f2 modD (fN intD (fCons (fIxC (fVar 0) (fC (.int 2))) fNil)) (fVar 1)))
    (gSeq (gPutC (f2 fdivD (fN intD (fCons (fIxC (fVar 0) (fC (.int 2))) fNil)) (fVar 1)) (fVar 0) (fC (.int 2)))
    (gRet (fVar 2)))))
abbrev y_law_draw_r : List W → CS → R W := fnR 2 3 y_law_draw_g
def y_law_one_of_g : En → CS → RT := (gRet (f2 ixD (fVar 1) (fCall 2 y_law_draw_r (fCons (fVar 0) (fCons (fN lenD (fCons (fVar 1) fNil)) fNil)))))
abbrev y_law_one_of_r : List W → CS → R W := fnR 2 2 y_law_one_of_g
def y_law_sizes_g : En → CS → RT := (gSeq (gAsg (hN 1) (fN lstD (fCons (fN tupD (fCons (fC (.int 2)) fNil)) (fCons (fN tupD (fCons (fC (.int 3)) fNil)) (fCons (fN tupD (fCons (fC (.int 3)) fNil)) (fCons (fN tupD (fCons (fC (.int 4)) fNil)) (fCons (fN tupD (fCons (fC (.int 2)) (fCons (fC (.int 2)) fNil))) (fCons (fN tupD (fCons (fC (.int 2)) (fCons (fC (.int 2)) fNil))) (fCons (fN tupD (fCons (fC (.int 2)) (fCons (fC (.int 3)) fNil))) (fCons (fN tupD (fCons (fC (.int 3)) (fCons (fC (.int 2)) fNil))) (fCons (fN tupD (fCons (fC (.int 4)) fNil)) (fCons (fN tupD (fCons (fC (.int 5)) fNil)) (fCons (fN tupD (fCons (fC (.int 6)) fNil)) (fCons (fN tupD (fCons (fC (.int 2)) (fCons (fC (.int 2)) (fCons (fC (.int 2)) fNil)))) fNil))))))))))))))
    (gRet (fCall 2 y_law_one_of_r (fCons (fVar 0) (fCons (f2 addD (fVar 1) (fN lstD (fCons (fN tupD (fCons (fC (.int 2)) (fCons (fC (.int 4)) fNil))) (fCons (fN tupD (fCons (fC (.int 4)) (fCons (fC (.int 2)) fNil))) (fCons (fN tupD (fCons (fC (.int 7)) fNil)) (fCons (fN tupD (fCons (fC (.int 8)) fNil)) fNil)))))) fNil)))))
abbrev y_law_sizes_r : List W → CS → R W := fnR 1 2 y_law_sizes_g
def y_law_plain_g : En → CS → RT := (gSeq (gPar2 2 3 (fCons (fCall 2 y_law_draw_r (fCons (fVar 0) (fCons (fN lenD (fCons (fVar 1) fNil)) fNil))) (fCons (fCall 2 y_law_one_of_r (fCons (fVar 0) (fCons (fN lstD (fCons (fC (.str "set")) (fCons (fC (.str "raise")) (fCons (fC (.str "lower")) (fCons (fC (.str "copy")) fNil))))) fNil))) fNil)))
    (gSeq (gAsg (hN 4) (fCall 2 y_law_draw_r (fCons (fVar 0) (fCons (fN lenD (fCons (fVar 1) fNil)) fNil))))
    (gSeq (gIf (fAnd (fB (f2 eqD (fVar 3) (fC (.str "copy")))) (fB (f2 neD (fVar 4) (fVar 2)))) (gRet (fN tupD (fCons (fVar 3) (fCons (fVar 2) (fCons (fVar 4) fNil))))) gNx)
    (gSeq (gAsg (hN 3) (fIf (fB (f2 eqD (fVar 3) (fC (.str "copy")))) (fC (.str "set")) (fVar 3)))
    (gRet (fN tupD (fCons (fVar 3) (fCons (fVar 2) (fCons (fCall 2 y_law_draw_r (fCons (fVar 0) (fCons (f2 ixD (fVar 1) (fVar 2)) fNil))) fNil)))))))))
abbrev y_law_plain_r : List W → CS → R W := fnR 2 5 y_law_plain_g
def y_law_step_g : En → CS → RT := (gSeq (gAsg (hN 2) (fCall 2 y_law_plain_r (fCons (fVar 0) (fCons (fVar 1) fNil))))
    (gSeq (gIf (fB (f2 eqD (fCall 2 y_law_draw_r (fCons (fVar 0) (fCons (fC (.int 3)) fNil))) (fC (.int 0)))) (gRet (fVar 2)) gNx)
    (gSeq (gAsg (hN 3) (fCall 2 y_law_draw_r (fCons (fVar 0) (fCons (fN lenD (fCons (fVar 1) fNil)) fNil))))
    (gSeq (gAsg (hN 4) (fCall 2 y_law_draw_r (fCons (fVar 0) (fCons (f2 ixD (fVar 1) (fVar 3)) fNil))))
    (gRet (fN tupD (fCons (fC (.str "when")) (fCons (fVar 3) (fCons (fVar 4) (fCons (f2 addD (fVar 4) (fCall 2 y_law_draw_r (fCons (fVar 0) (fCons (f2 subD (f2 ixD (fVar 1) (fVar 3)) (fVar 4)) fNil)))) (fCons (fVar 2) fNil)))))))))))
abbrev y_law_step_r : List W → CS → R W := fnR 2 5 y_law_step_g
def y_law_kind_g : En → CS → RT := (gRet (fN tupleD (fCons (fLc [3] (fRng1 (fCall 2 y_law_one_of_r (fCons (fVar 0) (fCons (fN lstD (fCons (fC (.int 0)) (fCons (fC (.int 1)) (fCons (fC (.int 1)) (fCons (fC (.int 2)) (fCons (fC (.int 2)) (fCons (fVar 2) fNil))))))) fNil)))) (hN 3) fYes (fCall 2 y_law_step_r (fCons (fVar 0) (fCons (fVar 1) fNil)))) fNil)))
abbrev y_law_kind_r : List W → CS → R W := fnR 3 4 y_law_kind_g
def y_law_house_of_g : En → CS → RT := (gSeq (gAsg (hN 3) (fN tupleD (fCons (fLc [5] (fIt (fVar 1)) (hN 5) fYes (fCall 2 y_law_draw_r (fCons (fVar 0) (fCons (fVar 5) fNil)))) fNil)))
    (gSeq (gAsg (hN 4) (f2 addD (fC (.int 2)) (fCall 2 y_law_draw_r (fCons (fVar 0) (fCons (fC (.int 5)) fNil)))))
    (gRet (fN tupD (fCons (fVar 1) (fCons (fVar 3) (fCons (fN tupleD (fCons (fLc [6] (fRng1 (fVar 2)) (hN 6) fYes (fCall 3 y_law_kind_r (fCons (fVar 0) (fCons (fVar 1) (fCons (fVar 4) fNil))))) fNil)) fNil)))))))
abbrev y_law_house_of_r : List W → CS → R W := fnR 3 7 y_law_house_of_g
def y_law_some_house_g : En → CS → RT := (gRet (fCall 3 y_law_house_of_r (fCons (fVar 0) (fCons (fCall 1 y_law_sizes_r (fCons (fVar 0) fNil)) (fCons (f2 addD (fC (.int 1)) (fCall 2 y_law_draw_r (fCons (fVar 0) (fCons (fC (.int 5)) fNil)))) fNil)))))
abbrev y_law_some_house_r : List W → CS → R W := fnR 1 1 y_law_some_house_g
def y_law_small_house_g : En → CS → RT := (gSeq (gAsg (hN 1) (fCall 2 y_law_one_of_r (fCons (fVar 0) (fCons (fN lstD (fCons (fN tupD (fCons (fC (.int 2)) fNil)) (fCons (fN tupD (fCons (fC (.int 3)) fNil)) (fCons (fN tupD (fCons (fC (.int 2)) (fCons (fC (.int 2)) fNil))) (fCons (fN tupD (fCons (fC (.int 4)) fNil)) (fCons (fN tupD (fCons (fC (.int 3)) fNil)) (fCons (fN tupD (fCons (fC (.int 2)) (fCons (fC (.int 2)) fNil))) (fCons (fN tupD (fCons (fC (.int 3)) (fCons (fC (.int 2)) fNil))) (fCons (fN tupD (fCons (fC (.int 2)) (fCons (fC (.int 3)) fNil))) fNil))))))))) fNil))))
    (gRet (fCall 3 y_law_house_of_r (fCons (fVar 0) (fCons (fVar 1) (fCons (f2 addD (fC (.int 1)) (fCall 2 y_law_draw_r (fCons (fVar 0) (fCons (fIf (fB (f2 inDD (fVar 1) (fN tupD (fCons (fN tupD (fCons (fC (.int 3)) (fCons (fC (.int 2)) fNil))) (fCons (fN tupD (fCons (fC (.int 2)) (fCons (fC (.int 3)) fNil))) fNil))))) (fC (.int 2)) (fC (.int 3))) fNil)))) fNil))))))
abbrev y_law_small_house_r : List W → CS → R W := fnR 1 2 y_law_small_house_g
def y_law_wide_g : En → CS → RT := (gSeq (gAsg (hN 1) (fN tupD (fCons (fN tupD (fCons (fN tupD (fCons (fC (.str "set")) (fCons (fC (.int 0)) (fCons (fC (.int 0)) fNil)))) fNil)) (fCons (fN tupD (fCons (fN tupD (fCons (fC (.str "raise")) (fCons (fC (.int 0)) (fCons (fC (.int 1)) fNil)))) fNil)) (fCons (fN tupD (fCons (fN tupD (fCons (fC (.str "when")) (fCons (fC (.int 0)) (fCons (fC (.int 1)) (fCons (fC (.int 1)) (fCons (fN tupD (fCons (fC (.str "set")) (fCons (fC (.int 0)) (fCons (fC (.int 2)) fNil)))) fNil)))))) fNil)) fNil)))))
    (gSeq (gAsg (hN 2) (f2 ixD (fN lstD (fCons (fN tupD fNil) (fCons (fN tupD (fCons (fN tupD (fCons (fC (.int 3)) (fCons (fN tupD (fCons (fN tupD (fCons (fC (.int 1)) fNil)) fNil)) (fCons (fN tupD (fCons (fN tupD (fCons (fC (.int 0)) fNil)) fNil)) fNil)))) fNil)) (fCons (fN tupD (fCons (fN tupD (fCons (fC (.int 1)) (fCons (fN tupD (fCons (fN tupD (fCons (fC (.int 0)) fNil)) (fCons (fN tupD (fCons (fC (.int 2)) fNil)) fNil))) (fCons (fN tupD (fCons (fN tupD (fCons (fC (.int 1)) fNil)) fNil)) fNil)))) fNil)) fNil)))) (fCall 2 y_law_draw_r (fCons (fVar 0) (fCons (fC (.int 3)) fNil)))))
    (gRet (fN tupD (fCons (fN tupD (fCons (fN tupD (fCons (fC (.int 3)) fNil)) (fCons (fN tupD (fCons (fC (.int 0)) fNil)) (fCons (fVar 1) fNil)))) (fCons (f2 addD (fN tupD (fCons (fN tupD (fCons (fC (.int 2)) (fCons (fN tupD (fCons (fN tupD (fCons (fC (.int 0)) fNil)) fNil)) (fCons (fN tupD (fCons (fN tupD (fCons (fC (.int 1)) fNil)) fNil)) fNil)))) fNil)) (fVar 2)) fNil))))))
abbrev y_law_wide_r : List W → CS → R W := fnR 1 3 y_law_wide_g
def y_law_trap_g : En → CS → RT := (gSeq (gAsg (hN 1) (fN tupD (fCons (fN tupD (fCons (fC (.str "when")) (fCons (fC (.int 0)) (fCons (fC (.int 5)) (fCons (fC (.int 5)) (fCons (fN tupD (fCons (fC (.str "set")) (fCons (fC (.int 0)) (fCons (fC (.int 1)) fNil)))) fNil)))))) fNil)))
    (gSeq (gAsg (hN 2) (fN tupD (fCons (fN tupD (fCons (fC (.str "when")) (fCons (fC (.int 0)) (fCons (fC (.int 3)) (fCons (fC (.int 3)) (fCons (fN tupD (fCons (fC (.str "set")) (fCons (fC (.int 0)) (fCons (fC (.int 1)) fNil)))) fNil)))))) (fCons (fN tupD (fCons (fC (.str "when")) (fCons (fC (.int 0)) (fCons (fC (.int 4)) (fCons (fC (.int 4)) (fCons (fN tupD (fCons (fC (.str "set")) (fCons (fC (.int 0)) (fCons (fC (.int 2)) fNil)))) fNil)))))) fNil))))
    (gSeq (gAsg (hN 3) (fN tupD (fCons (fVar 1) (fCons (fVar 2) (fCons (fN tupD (fCons (fN tupD (fCons (fC (.str "raise")) (fCons (fC (.int 0)) (fCons (fC (.int 3)) fNil)))) fNil)) (fCons (fN tupD (fCons (fN tupD (fCons (fC (.str "raise")) (fCons (fC (.int 0)) (fCons (fC (.int 4)) fNil)))) fNil)) (fCons (fN tupD (fCons (fN tupD (fCons (fC (.str "raise")) (fCons (fC (.int 0)) (fCons (fC (.int 5)) fNil)))) fNil)) fNil)))))))
    (gSeq (gAsg (hN 4) (f2 ixD (fN lstD (fCons (fN tupD fNil) (fCons (fN tupD (fCons (fN tupD (fCons (fC (.int 5)) (fCons (fN tupD (fCons (fN tupD (fCons (fC (.int 1)) fNil)) fNil)) (fCons (fN tupD (fCons (fN tupD (fCons (fC (.int 1)) fNil)) fNil)) fNil)))) fNil)) fNil))) (fCall 2 y_law_draw_r (fCons (fVar 0) (fCons (fC (.int 2)) fNil)))))
    (gRet (fN tupD (fCons (fN tupD (fCons (fN tupD (fCons (fC (.int 6)) fNil)) (fCons (fN tupD (fCons (fC (.int 0)) fNil)) (fCons (fVar 3) fNil)))) (fCons (f2 addD (fN tupD (fCons (fN tupD (fCons (fC (.int 0)) (fCons (fN tupD (fCons (fN tupD (fCons (fC (.int 0)) fNil)) fNil)) (fCons (fN tupD (fCons (fN tupD (fCons (fC (.int 5)) fNil)) fNil)) fNil)))) (fCons (fN tupD (fCons (fC (.int 1)) (fCons (fN tupD (fCons (fN tupD (fCons (fC (.int 3)) fNil)) fNil)) (fCons (fN tupD (fCons (fN tupD (fCons (fC (.int 4)) fNil)) fNil)) fNil)))) fNil))) (fVar 4)) fNil))))))))
abbrev y_law_trap_r : List W → CS → R W := fnR 1 5 y_law_trap_g
def y_law_deep_g : En → CS → RT := (gSeq (gAsg (hN 1) (fN tupD (fCons (fN tupD (fCons (fC (.str "when")) (fCons (fC (.int 0)) (fCons (fC (.int 1)) (fCons (fC (.int 1)) (fCons (fN tupD (fCons (fC (.str "set")) (fCons (fC (.int 0)) (fCons (fC (.int 0)) fNil)))) fNil)))))) (fCons (fN tupD (fCons (fC (.str "when")) (fCons (fC (.int 0)) (fCons (fC (.int 2)) (fCons (fC (.int 2)) (fCons (fN tupD (fCons (fC (.str "set")) (fCons (fC (.int 0)) (fCons (fC (.int 1)) fNil)))) fNil)))))) fNil))))
    (gSeq (gAsg (hN 2) (fN tupD (fCons (fN tupD (fCons (fC (.int 3)) fNil)) (fCons (fN tupD (fCons (fC (.int 0)) fNil)) (fCons (fN tupD (fCons (fN tupD (fCons (fN tupD (fCons (fC (.str "raise")) (fCons (fC (.int 0)) (fCons (fC (.int 2)) fNil)))) fNil)) (fCons (fVar 1) (fCons (fVar 1) fNil)))) fNil)))))
    (gRet (fN tupD (fCons (fVar 2) (fCons (fN tupD (fCons (fN tupD (fCons (fC (.int 1)) (fCons (fN tupD (fCons (fN tupD (fCons (fC (.int 0)) fNil)) fNil)) (fCons (fN tupD (fCons (fN tupD (fCons (fC (.int 2)) fNil)) fNil)) fNil)))) (fCons (fN tupD (fCons (fC (.int 2)) (fCons (fN tupD (fCons (fN tupD (fCons (fC (.int 1)) fNil)) fNil)) (fCons (fN tupD (fCons (fN tupD (fCons (fC (.int 2)) fNil)) fNil)) fNil)))) fNil))) fNil))))))
abbrev y_law_deep_r : List W → CS → R W := fnR 1 3 y_law_deep_g
def y_law_contents_g : En → CS → RT := (gSeq (gAsg (hN 1) (fN lstD (fCons (fN tupD fNil) fNil)))
    (gSeq (gFor (fIt (f2 ixD (fVar 0) (fC (.int 0)))) (hN 2) (gSeq (gAsg (hN 3) (fNew fNil))
    (gSeq (gFor (fIt (fVar 1)) (hN 4) (gExtC (fVar 3) (fLc [5] (fRng1 (fVar 2)) (hN 5) fYes (f2 addD (fVar 4) (fN tupD (fCons (fVar 5) fNil))))))
    (gAsg (hN 1) (fFrz 3)))))
    (gRet (fVar 1))))
abbrev y_law_contents_r : List W → CS → R W := fnR 1 6 y_law_contents_g
def y_law_rules_g : En → CS → RT := (gSeq (gAsg (hN 3) (fNew fNil))
    (gSeq (gFor (fRng1 (fCall 2 y_law_draw_r (fCons (fVar 0) (fCons (f2 addD (fVar 2) (fC (.int 1))) fNil)))) (hN 4) (gSeq (gAsg (hN 5) (fNew fNil))
    (gSeq (gFor (fRng1 (fC (.int 2))) (hN 6) (gSeq (gAsg (hN 7) (fLc [8] (fIt (fCallP 1 (noX y_law_contents_r) (fCons (fVar 1) fNil))) (hN 8) (fB (f2 eqD (fCall 2 y_law_draw_r (fCons (fVar 0) (fCons (fC (.int 2)) fNil))) (fC (.int 0)))) (fVar 8)))
    (gAppC (fVar 5) (fIf (fB (f2 neD (fVar 7) (fN lstD fNil))) (fN tupleD (fCons (fVar 7) fNil)) (fN tupD (fCons (fCall 2 y_law_one_of_r (fCons (fVar 0) (fCons (fCallP 1 (noX y_law_contents_r) (fCons (fVar 1) fNil)) fNil))) fNil))))))
    (gAppC (fVar 3) (fN tupD (fCons (fCall 2 y_law_draw_r (fCons (fVar 0) (fCons (f2 addD (fN lenD (fCons (f2 ixD (fVar 1) (fC (.int 2))) fNil)) (fC (.int 1))) fNil))) (fCons (fIxA (fVar 5) (fC (.int 0))) (fCons (fIxA (fVar 5) (fC (.int 1))) fNil))))))))
    (gRet (fN tupleD (fCons (fFrz 3) fNil)))))
abbrev y_law_rules_r : List W → CS → R W := fnR 3 9 y_law_rules_g
def y_law_pair_g : En → CS → RT := (gSeq (gAsg (hN 1) (fCall 2 y_law_draw_r (fCons (fVar 0) (fCons (fC (.int 8)) fNil))))
    (gSeq (gIf (fB (f2 ltD (fVar 1) (fC (.int 3)))) (gRet (fSel 1 [y_law_wide_r, y_law_trap_r, y_law_deep_r] (fVar 1) (fCons (fVar 0) fNil))) gNx)
    (gSeq (gAsg (hN 2) (fIf (fB (f2 ltD (fVar 1) (fC (.int 7)))) (fCall 1 y_law_small_house_r (fCons (fVar 0) fNil)) (fCall 1 y_law_some_house_r (fCons (fVar 0) fNil))))
    (gRet (fN tupD (fCons (fVar 2) (fCons (fCall 3 y_law_rules_r (fCons (fVar 0) (fCons (fVar 2) (fCons (fC (.int 3)) fNil)))) fNil)))))))
abbrev y_law_pair_r : List W → CS → R W := fnR 1 3 y_law_pair_g
def y_law_stepped_g : En → CS → RT := (gSeq (gAsg (hT 3 (hsC (hN 3) (hsC (hN 4) (hsC (hN 5) hsN)))) (fVar 2))
    (gIf (fB (f2 eqD (fVar 3) (fC (.str "set")))) (gPutC (fVar 5) (fVar 1) (fVar 4)) (gIf (fB (f2 eqD (fVar 3) (fC (.str "raise")))) (gPutC (fN max2D (fCons (fIxA (fVar 1) (fVar 4)) (fCons (fVar 5) fNil))) (fVar 1) (fVar 4)) (gIf (fB (f2 eqD (fVar 3) (fC (.str "lower")))) (gPutC (fN minA (fCons (fIxA (fVar 1) (fVar 4)) (fCons (fVar 5) fNil))) (fVar 1) (fVar 4)) (gPutC (fN minA (fCons (fIxA (fVar 1) (fVar 5)) (fCons (f2 subD (f2 ixD (fVar 0) (fVar 4)) (fC (.int 1))) fNil))) (fVar 1) (fVar 4))))))
abbrev y_law_stepped_r : List W → CS → R W := fnR 3 6 y_law_stepped_g
def y_law_made_g : En → CS → RT := (gSeq (gAsg (hN 3) (fNewL (fCons (fVar 1) fNil)))
    (gSeq (gFor (fIt (f2 ixD (f2 ixD (fVar 0) (fC (.int 2))) (fVar 2))) (hN 4) (gIf (fB (f2 neD (f2 ixD (fVar 4) (fC (.int 0))) (fC (.str "when")))) (gDrop (fCall 3 y_law_stepped_r (fCons (f2 ixD (fVar 0) (fC (.int 0))) (fCons (fVar 3) (fCons (fVar 4) fNil))))) (gIf (fB (fChain leD leD (f2 ixD (fVar 4) (fC (.int 2))) (fIxA (fVar 3) (f2 ixD (fVar 4) (fC (.int 1)))) (f2 ixD (fVar 4) (fC (.int 3))))) (gDrop (fCall 3 y_law_stepped_r (fCons (f2 ixD (fVar 0) (fC (.int 0))) (fCons (fVar 3) (fCons (f2 ixD (fVar 4) (fC (.int 4))) fNil))))) gNx)))
    (gRet (fN tupleD (fCons (fFrz 3) fNil)))))
abbrev y_law_made_r : List W → CS → R W := fnR 3 5 y_law_made_g
def y_law_steps_to_g : En → CS → RT := (gSeq (gPar2 1 2 (fCons (fNewDP (f2 ixD (fVar 0) (fC (.int 1))) (fC (.int 0))) (fCons (fNew (fCons (f2 ixD (fVar 0) (fC (.int 1))) fNil)) fNil)))
    (gSeq (whileL (fB (fCmpP neD (fVar 2) (fN lstD fNil))) (gSeq (gAsg (hN 3) (fPopI (fVar 2) (fC (.int 0))))
    (gFor (fRng1 (fN lenD (fCons (f2 ixD (fVar 0) (fC (.int 2))) fNil))) (hN 4) (gSeq (gAsg (hN 5) (fCallP 3 (noX y_law_made_r) (fCons (fVar 0) (fCons (fVar 3) (fCons (fVar 4) fNil)))))
    (gIf (fB (fDIn true (fVar 5) (fVar 1))) (gSeq (gDPut (f2 addD (fDGet (fVar 1) (fVar 3)) (fC (.int 1))) (fVar 1) (fVar 5))
    (gAppC (fVar 2) (fVar 5))) gNx)))) 4096)
    (gRet (fFrzD 1))))
abbrev y_law_steps_to_r : List W → CS → R W := fnR 1 6 y_law_steps_to_g
def y_law_right_t3 : En → CS → RT := (gRet (fC (.bool true)))
def y_law_right_t2 : En → CS → RT := (gSeq (gFor (fIt (fCallP 1 (noX y_law_contents_r) (fCons (fVar 0) fNil))) (hN 2) (gSeq (gAsg (hN 3) (fCallP 2 (noX xrow_to_r) (fCons (fVar 0) (fCons (fVar 2) fNil))))
    (gSeq (gIf (fB (f2 neD (fIsN false (fVar 3)) (fDIn true (fVar 2) (fVar 1)))) (gRet (fC (.bool false))) gNx)
    (gIf (fB (fIsN true (fVar 3))) (gSeq (gAsg (hN 4) (f2 ixD (fVar 0) (fC (.int 1))))
    (gSeq (gFor (fIt (fVar 3)) (hN 5) (gAsg (hN 4) (fCallP 3 (noX y_law_made_r) (fCons (fVar 0) (fCons (fVar 4) (fCons (fVar 5) fNil))))))
    (gIf (fOr (fNot (fB (f1 (isiD isTuple) (fVar 3)))) (fOr (fB (f2 neD (fN lenD (fCons (fVar 3) fNil)) (fDGet (fVar 1) (fVar 2)))) (fB (f2 neD (fVar 4) (fVar 2))))) (gRet (fC (.bool false))) gNx))) gNx)))) y_law_right_t3)
def y_law_right_t1 : En → CS → RT := (gSeq (gIf (fB (f2 neD (fN reprD (fCons (fCallP 1 (noX xcome_to_r) (fCons (fVar 0) fNil)) fNil)) (fN reprD (fCons (fN tupleD (fCons (fSrt (fCons (fVar 1) fNil)) fNil)) fNil)))) (gRet (fC (.bool false))) gNx) y_law_right_t2)
def y_law_right_g : En → CS → RT := (gSeq (gAsg (hN 1) (fCall 1 y_law_steps_to_r (fCons (fVar 0) fNil))) y_law_right_t1)
abbrev y_law_right_r : List W → CS → R W := fnR 1 6 y_law_right_g
def xlaw_t9 : En → CS → RT := (gRet (fAndV (fCallP 1 (noX y_law_right_r) (fCons (fVar 8) fNil)) (f2 eqD (fVar 11) (fSl (fFrz 9) (fO1 (f2 subD (fC (.int 3)) (fVar 7))) fO0))))
def xlaw_t8 : En → CS → RT := (gSeq (gIf (fB (f2 neD (fCallP 1 (noX xcome_to_r) (fCons (fVar 8) fNil)) (fN tupleD (fCons (fLc [10] (fRng2 (fVar 7) (fC (.int 8))) (hN 10) fYes (fN tupD (fCons (fVar 10) fNil))) fNil)))) (gRet (fC (.bool false))) gNx) xlaw_t9)
def xlaw_t7 : En → CS → RT := (gSeq (gAsg (hN 11) (fLc [10] (fRng1 (fC (.int 8))) (hN 10) fYes (fCallP 2 (noX xrow_to_r) (fCons (fVar 8) (fCons (fN tupD (fCons (fVar 10) fNil)) fNil))))) xlaw_t8)
def xlaw_t6 : En → CS → RT := (gSeq (gFor (fRng2 (fVar 7) (fC (.int 8))) (hN 10) (gAppC (fVar 9) (f2 addD (f2 mulD (fN tupD (fCons (fC (.int 0)) fNil)) (fN intD (fCons (fAndV (f2 eqD (fVar 7) (fC (.int 0))) (f2 gtD (fVar 10) (fC (.int 0)))) fNil))) (f2 mulD (fN tupD (fCons (fC (.int 1)) fNil)) (f2 subD (fVar 10) (fN max2D (fCons (fVar 7) (fCons (fC (.int 1)) fNil)))))))) xlaw_t7)
def xlaw_t5 : En → CS → RT := (gSeq (gAsg (hN 9) (fNew (fCons (fC .none) (fCons (fC .none) (fCons (fC .none) fNil))))) xlaw_t6)
def xlaw_t4 : En → CS → RT := (gSeq (gAsg (hN 8) (fN tupD (fCons (fN tupD (fCons (fC (.int 8)) fNil)) (fCons (fN tupD (fCons (fVar 7) fNil)) (fCons (fN tupD (fCons (fN tupD (fCons (fN tupD (fCons (fC (.str "when")) (fCons (fC (.int 0)) (fCons (fC (.int 0)) (fCons (fC (.int 0)) (fCons (fN tupD (fCons (fC (.str "set")) (fCons (fC (.int 0)) (fCons (fC (.int 1)) fNil)))) fNil)))))) fNil)) (fCons (fVar 6) fNil))) fNil))))) xlaw_t5)
def xlaw_t3 : En → CS → RT := (gSeq (gAsg (hN 7) (fCall 2 y_law_draw_r (fCons (fVar 1) (fCons (fC (.int 3)) fNil)))) xlaw_t4)
def xlaw_t2 : En → CS → RT := (gSeq (gAsg (hN 6) (fN tupleD (fCons (fLc [10] (fRngU (fC (.int 6)) (fC (.int 0)) (f1 negD (fC (.int 1)))) (hN 10) fYes (fN tupD (fCons (fC (.str "when")) (fCons (fC (.int 0)) (fCons (fVar 10) (fCons (fVar 10) (fCons (fN tupD (fCons (fC (.str "set")) (fCons (fC (.int 0)) (fCons (f2 addD (fVar 10) (fC (.int 1))) fNil)))) fNil))))))) fNil))) xlaw_t3)
def xlaw_t1 : En → CS → RT := (gSeq (gFor (fRng1 (fC (.int 6))) (hN 2) (gSeq (gAsg (hT 2 (hsC (hN 3) (hsC (hN 4) hsN))) (fCall 1 y_law_pair_r (fCons (fVar 1) fNil)))
    (gSeq (gAsg (hN 5) (fN reprD (fCons (fVar 3) fNil)))
    (gIf (fOr (fNot (fB (fCallP 1 (noX y_law_right_r) (fCons (fVar 3) fNil)))) (fB (f2 neD (fN reprD (fCons (fVar 3) fNil)) (fVar 5)))) (gRet (fC (.bool false))) gNx)))) xlaw_t2)
def xlaw_g : En → CS → RT := (gSeq (gAsg (hN 1) (fCall 1 y_law_pen_r (fCons (fVar 0) fNil))) xlaw_t1)
abbrev xlaw_r : List W → CS → R W := fnR 1 12 xlaw_g
/-! what the top has written -/
structure Txt [KFrag] (K : PySem.W.Frag) (mg : Str → Option Value) (a : Nat → Addr) (d : Nat → FuncData) : Prop where
  F0 : Fun K "come_to" "come_to" xcome_to_s (a 0) (d 0)
  M0 : mg "come_to" = some (.ref (a 0))
  B0 : Binds K (d 0) ["house"] []
  F1 : Fun K "row_to" "row_to" xrow_to_s (a 1) (d 1)
  M1 : mg "row_to" = some (.ref (a 1))
  B1 : Binds K (d 1) ["house", "content"] []
  F2 : Fun K "made_by" "made_by" xmade_by_s (a 2) (d 2)
  M2 : mg "made_by" = some (.ref (a 2))
  B2 : Binds K (d 2) ["house", "kind", "content"] []
  F3 : Fun K "_behind_step" "_behind_step" y_behind_step_s (a 3) (d 3)
  M3 : mg "_behind_step" = some (.ref (a 3))
  B3 : Binds K (d 3) ["sizes", "step", "content"] []
  F4 : Fun K "_behind_plain_step" "_behind_plain_step" y_behind_plain_step_s (a 4) (d 4)
  M4 : mg "_behind_plain_step" = some (.ref (a 4))
  B4 : Binds K (d 4) ["sizes", "step", "content"] []
  F5 : Fun K "_new_value" "_new_value" y_new_value_s (a 5) (d 5)
  M5 : mg "_new_value" = some (.ref (a 5))
  B5 : Binds K (d 5) ["sizes", "step", "content"] []
  F6 : Fun K "_shortest_rows" "_shortest_rows" y_shortest_rows_s (a 6) (d 6)
  M6 : mg "_shortest_rows" = some (.ref (a 6))
  B6 : Binds K (d 6) ["house"] []
  F7 : Fun K "_add_longer_rows" "_add_longer_rows" y_add_longer_rows_s (a 7) (d 7)
  M7 : mg "_add_longer_rows" = some (.ref (a 7))
  B7 : Binds K (d 7) ["house", "rows", "newest"] []
  F8 : Fun K "_law_pen" "_law_pen" y_law_pen_s (a 8) (d 8)
  M8 : mg "_law_pen" = some (.ref (a 8))
  B8 : Binds K (d 8) ["_law_script"] []
  F9 : Fun K "_law_fresh" "_law_fresh" y_law_fresh_s (a 9) (d 9)
  M9 : mg "_law_fresh" = some (.ref (a 9))
  B9 : Binds K (d 9) ["_law_pen_here"] []
  F10 : Fun K "_law_draw" "_law_draw" y_law_draw_s (a 10) (d 10)
  M10 : mg "_law_draw" = some (.ref (a 10))
  B10 : Binds K (d 10) ["_law_pen_here", "_law_many"] []
  F11 : Fun K "_law_one_of" "_law_one_of" y_law_one_of_s (a 11) (d 11)
  M11 : mg "_law_one_of" = some (.ref (a 11))
  B11 : Binds K (d 11) ["_law_pen_here", "_law_rows"] []
  F12 : Fun K "_law_sizes" "_law_sizes" y_law_sizes_s (a 12) (d 12)
  M12 : mg "_law_sizes" = some (.ref (a 12))
  B12 : Binds K (d 12) ["_law_pen_here"] []
  F13 : Fun K "_law_plain" "_law_plain" y_law_plain_s (a 13) (d 13)
  M13 : mg "_law_plain" = some (.ref (a 13))
  B13 : Binds K (d 13) ["_law_pen_here", "_law_sizes_here"] []
  F14 : Fun K "_law_step" "_law_step" y_law_step_s (a 14) (d 14)
  M14 : mg "_law_step" = some (.ref (a 14))
  B14 : Binds K (d 14) ["_law_pen_here", "_law_sizes_here"] []
  F15 : Fun K "_law_kind" "_law_kind" y_law_kind_s (a 15) (d 15)
  M15 : mg "_law_kind" = some (.ref (a 15))
  B15 : Binds K (d 15) ["_law_pen_here", "_law_sizes_here", "_law_most"] []
  F16 : Fun K "_law_house_of" "_law_house_of" y_law_house_of_s (a 16) (d 16)
  M16 : mg "_law_house_of" = some (.ref (a 16))
  B16 : Binds K (d 16) ["_law_pen_here", "_law_sizes_here", "_law_many"] []
  F17 : Fun K "_law_some_house" "_law_some_house" y_law_some_house_s (a 17) (d 17)
  M17 : mg "_law_some_house" = some (.ref (a 17))
  B17 : Binds K (d 17) ["_law_pen_here"] []
  F18 : Fun K "_law_small_house" "_law_small_house" y_law_small_house_s (a 18) (d 18)
  M18 : mg "_law_small_house" = some (.ref (a 18))
  B18 : Binds K (d 18) ["_law_pen_here"] []
  F19 : Fun K "_law_wide" "_law_wide" y_law_wide_s (a 19) (d 19)
  M19 : mg "_law_wide" = some (.ref (a 19))
  B19 : Binds K (d 19) ["_law_pen_here"] []
  F20 : Fun K "_law_trap" "_law_trap" y_law_trap_s (a 20) (d 20)
  M20 : mg "_law_trap" = some (.ref (a 20))
  B20 : Binds K (d 20) ["_law_pen_here"] []
  F21 : Fun K "_law_deep" "_law_deep" y_law_deep_s (a 21) (d 21)
  M21 : mg "_law_deep" = some (.ref (a 21))
  B21 : Binds K (d 21) ["_law_pen_here"] []
  F22 : Fun K "_law_rules" "_law_rules" y_law_rules_s (a 22) (d 22)
  M22 : mg "_law_rules" = some (.ref (a 22))
  B22 : Binds K (d 22) ["_law_pen_here", "_law_house", "_law_most"] []
  F23 : Fun K "_law_pair" "_law_pair" y_law_pair_s (a 23) (d 23)
  M23 : mg "_law_pair" = some (.ref (a 23))
  B23 : Binds K (d 23) ["_law_pen_here"] []
  F24 : Fun K "_law_contents" "_law_contents" y_law_contents_s (a 24) (d 24)
  M24 : mg "_law_contents" = some (.ref (a 24))
  B24 : Binds K (d 24) ["_law_house"] []
  F25 : Fun K "_law_stepped" "_law_stepped" y_law_stepped_s (a 25) (d 25)
  M25 : mg "_law_stepped" = some (.ref (a 25))
  B25 : Binds K (d 25) ["_law_sizes_here", "_law_cells", "_law_step_here"] []
  F26 : Fun K "_law_made" "_law_made" y_law_made_s (a 26) (d 26)
  M26 : mg "_law_made" = some (.ref (a 26))
  B26 : Binds K (d 26) ["_law_house", "_law_content", "_law_kind_here"] []
  F27 : Fun K "_law_steps_to" "_law_steps_to" y_law_steps_to_s (a 27) (d 27)
  M27 : mg "_law_steps_to" = some (.ref (a 27))
  B27 : Binds K (d 27) ["_law_house"] []
  F28 : Fun K "_law_right" "_law_right" y_law_right_s (a 28) (d 28)
  M28 : mg "_law_right" = some (.ref (a 28))
  B28 : Binds K (d 28) ["_law_house"] []
  F29 : Fun K "law" "law" xlaw_s (a 29) (d 29)
  M29 : mg "law" = some (.ref (a 29))
  B29 : Binds K (d 29) ["_law_script"] []
  z_dict : mg "dict" = none
  z_int : mg "int" = none
  z_isinstance : mg "isinstance" = none
  z_len : mg "len" = none
  z_list : mg "list" = none
  z_max : mg "max" = none
  z_min : mg "min" = none
  z_range : mg "range" = none
  z_repr : mg "repr" = none
  z_sorted : mg "sorted" = none
  z_tuple : mg "tuple" = none
end K05
namespace K05
open PySem PySem.Spec PyProof.Rows L2 DL
section
variable [KFrag] {P : Program} {w : World} {K : PySem.W.Frag} {mg : Str → Option Value} {base : Heap} {a : Nat → Addr} {d : Nat → FuncData} {T : TX}
theorem y_new_value_ok (hKF : K = KFrag.K) (hKw : w = KFrag.w) (Tx : Txt K mg a d) : FnG P w K mg base 1 (a 5) (d 5) ["sizes", "step", "content"] (spD T 3 y_new_value_r) := by
  subst hKF
  exact fnG (g := y_new_value_g) Tx.F5 y_new_value_sc rfl rfl fun cdv A outer s H E hgd hr => (by
  have nd := y_new_value_sc.nd
  refine dss_cons ?_ ?_
  · refine ds_asg (is := [3, 4, 5]) ?_ ?_
    · exact de_var (pv 1)
    · refine dgT rfl ?_
      · refine dgsC (is := [3]) (js := [4, 5]) ?_ ?_
        · exact dg_name (pg_name (i := 3) nd rfl (by first | exact Or.inl rfl | exact Or.inr rfl))
        · refine dgsC (is := [4]) (js := [5]) ?_ ?_
          · exact dg_name (pg_name (i := 4) nd rfl (by first | exact Or.inl rfl | exact Or.inr rfl))
          · refine dgsC (is := [5]) (js := []) ?_ ?_
            · exact dg_name (pg_name (i := 5) nd rfl (by first | exact Or.inl rfl | exact Or.inr rfl))
            · exact dgs_nil
  · refine dss_cons ?_ ?_
    · refine ds_if ?_ ?_ ?_
      · refine dt_cmp (dop_eq hr.units) ?_ ?_
        · exact de_var (pv 3)
        · exact de_str
      · refine dss_one ?_
        · refine ds_ret ?_
          · exact de_var (pv 5)
      · exact dss_nil
    · refine dss_cons ?_ ?_
      · refine ds_if ?_ ?_ ?_
        · refine dt_cmp (dop_eq hr.units) ?_ ?_
          · exact de_var (pv 3)
          · exact de_str
        · refine dss_one ?_
          · refine ds_ret ?_
            · refine de_callB (dc_max2 rfl) rfl Tx.z_max PyProof.Rows.boot_max ?_
              · refine da_cons ?_ ?_
                · refine de_ix dix ?_ ?_
                  · exact de_var (pv 2)
                  · exact de_var (pv 4)
                · refine da_cons ?_ ?_
                  · exact de_var (pv 5)
                  · exact da_nil
        · exact dss_nil
      · refine dss_cons ?_ ?_
        · refine ds_if ?_ ?_ ?_
          · refine dt_cmp (dop_eq hr.units) ?_ ?_
            · exact de_var (pv 3)
            · exact de_str
          · refine dss_one ?_
            · refine ds_ret ?_
              · refine de_callB (dc_minA rfl) rfl Tx.z_min PyProof.Rows.boot_min ?_
                · refine da_cons ?_ ?_
                  · refine de_ix dix ?_ ?_
                    · exact de_var (pv 2)
                    · exact de_var (pv 4)
                  · refine da_cons ?_ ?_
                    · exact de_var (pv 5)
                    · exact da_nil
          · exact dss_nil
        · refine dss_one ?_
          · refine ds_ret ?_
            · refine de_callB (dc_minA rfl) rfl Tx.z_min PyProof.Rows.boot_min ?_
              · refine da_cons ?_ ?_
                · refine de_ix dix ?_ ?_
                  · exact de_var (pv 2)
                  · exact de_var (pv 5)
                · refine da_cons ?_ ?_
                  · refine de_op dop_sub ?_ ?_
                    · refine de_ix dix ?_ ?_
                      · exact de_var (pv 0)
                      · exact de_var (pv 4)
                    · exact de_int
                  · exact da_nil)
end
end K05
namespace K05
open PySem PySem.Spec PyProof.Rows L2 DL
section
variable [KFrag] {P : Program} {w : World} {K : PySem.W.Frag} {mg : Str → Option Value} {base : Heap} {a : Nat → Addr} {d : Nat → FuncData} {T : TX}
theorem y_behind_plain_step_ok (hKF : K = KFrag.K) (hKw : w = KFrag.w) (Tx : Txt K mg a d) : FnG P w K mg base 2 (a 4) (d 4) ["sizes", "step", "content"] (spD T 3 y_behind_plain_step_r) := by
  subst hKF
  exact fnG (g := y_behind_plain_step_g) Tx.F4 y_behind_plain_step_sc rfl rfl fun cdv A outer s H E hgd hr => (by
  have nd := y_behind_plain_step_sc.nd
  refine dss_cons ?_ ?_
  · refine ds_set (i := 3) nd rfl (by first | exact Or.inl rfl | exact Or.inr rfl) ?_
    · refine de_ix dix ?_ ?_
      · exact de_var (pv 1)
      · exact de_int
  · refine dss_cons ?_ ?_
    · refine ds_set (i := 4) nd rfl (by first | exact Or.inl rfl | exact Or.inr rfl) ?_
      · refine de_callPG hgd (takes_of rfl rfl rfl rfl) (y_new_value_ok rfl hKw Tx) (hr.mono (by decide)) rfl Tx.M5 Tx.F5.kp Tx.B5 ?_
        · refine da_cons ?_ ?_
          · exact de_var (pv 0)
          · refine da_cons ?_ ?_
            · exact de_var (pv 1)
            · refine da_cons ?_ ?_
              · exact de_var (pv 2)
              · exact da_nil
    · refine dss_one ?_
      · refine ds_ret ?_
        · refine de_op dop_add ?_ ?_
          · refine de_op dop_add ?_ ?_
            · refine de_slice rfl ?_ ?_ ?_
              · exact de_var (pv 2)
              · exact do_none
              · refine do_some ?_
                · exact de_var (pv 3)
            · refine de_tup ?_
              · refine da_cons ?_ ?_
                · exact de_var (pv 4)
                · exact da_nil
          · refine de_slice rfl ?_ ?_ ?_
            · exact de_var (pv 2)
            · refine do_some ?_
              · refine de_op dop_add ?_ ?_
                · exact de_var (pv 3)
                · exact de_int
            · exact do_none)
end
end K05
namespace K05
open PySem PySem.Spec PyProof.Rows L2 DL
section
variable [KFrag] {P : Program} {w : World} {K : PySem.W.Frag} {mg : Str → Option Value} {base : Heap} {a : Nat → Addr} {d : Nat → FuncData} {T : TX}
theorem y_behind_step_ok (hKF : K = KFrag.K) (hKw : w = KFrag.w) (Tx : Txt K mg a d) : FnG P w K mg base 3 (a 3) (d 3) ["sizes", "step", "content"] (spD T 3 y_behind_step_r) := by
  subst hKF
  exact fnG (g := y_behind_step_g) Tx.F3 y_behind_step_sc rfl rfl fun cdv A outer s H E hgd hr => (by
  have nd := y_behind_step_sc.nd
  refine dss_cons ?_ ?_
  · refine ds_if ?_ ?_ ?_
    · refine dt_cmp (dop_ne hr.units) ?_ ?_
      · refine de_ix dix ?_ ?_
        · exact de_var (pv 1)
        · exact de_int
      · exact de_str
    · refine dss_one ?_
      · refine ds_ret ?_
        · refine de_callPG hgd (takes_of rfl rfl rfl rfl) (y_behind_plain_step_ok rfl hKw Tx) (hr.mono (by decide)) rfl Tx.M4 Tx.F4.kp Tx.B4 ?_
          · refine da_cons ?_ ?_
            · exact de_var (pv 0)
            · refine da_cons ?_ ?_
              · exact de_var (pv 1)
              · refine da_cons ?_ ?_
                · exact de_var (pv 2)
                · exact da_nil
    · exact dss_nil
  · refine dss_cons ?_ ?_
    · refine ds_asg (is := [3, 4, 5, 6, 7]) ?_ ?_
      · exact de_var (pv 1)
      · refine dgT rfl ?_
        · refine dgsC (is := [3]) (js := [4, 5, 6, 7]) ?_ ?_
          · exact dg_name (pg_name (i := 3) nd rfl (by first | exact Or.inl rfl | exact Or.inr rfl))
          · refine dgsC (is := [4]) (js := [5, 6, 7]) ?_ ?_
            · exact dg_name (pg_name (i := 4) nd rfl (by first | exact Or.inl rfl | exact Or.inr rfl))
            · refine dgsC (is := [5]) (js := [6, 7]) ?_ ?_
              · exact dg_name (pg_name (i := 5) nd rfl (by first | exact Or.inl rfl | exact Or.inr rfl))
              · refine dgsC (is := [6]) (js := [7]) ?_ ?_
                · exact dg_name (pg_name (i := 6) nd rfl (by first | exact Or.inl rfl | exact Or.inr rfl))
                · refine dgsC (is := [7]) (js := []) ?_ ?_
                  · exact dg_name (pg_name (i := 7) nd rfl (by first | exact Or.inl rfl | exact Or.inr rfl))
                  · exact dgs_nil
    · refine dss_cons ?_ ?_
      · refine ds_if ?_ ?_ ?_
        · refine dt_chain dop_le dop_le ?_ ?_ ?_
          · exact de_var (pv 5)
          · refine de_ix dix ?_ ?_
            · exact de_var (pv 2)
            · exact de_var (pv 4)
          · exact de_var (pv 6)
        · refine dss_one ?_
          · refine ds_ret ?_
            · refine de_callPG hgd (takes_of rfl rfl rfl rfl) (y_behind_plain_step_ok rfl hKw Tx) (hr.mono (by decide)) rfl Tx.M4 Tx.F4.kp Tx.B4 ?_
              · refine da_cons ?_ ?_
                · exact de_var (pv 0)
                · refine da_cons ?_ ?_
                  · exact de_var (pv 7)
                  · refine da_cons ?_ ?_
                    · exact de_var (pv 2)
                    · exact da_nil
        · exact dss_nil
      · refine dss_one ?_
        · refine ds_ret ?_
          · exact de_var (pv 2))
end
end K05
namespace K05
open PySem PySem.Spec PyProof.Rows L2 DL
section
variable [KFrag] {P : Program} {w : World} {K : PySem.W.Frag} {mg : Str → Option Value} {base : Heap} {a : Nat → Addr} {d : Nat → FuncData} {T : TX}
theorem xmade_by_ok (hKF : K = KFrag.K) (hKw : w = KFrag.w) (Tx : Txt K mg a d) : FnG P w K mg base 4 (a 2) (d 2) ["house", "kind", "content"] (spD T 3 xmade_by_r) := by
  subst hKF
  exact fnG (g := xmade_by_g) Tx.F2 xmade_by_sc rfl rfl fun cdv A outer s H E hgd hr => (by
  have nd := xmade_by_sc.nd
  refine dss_cons ?_ ?_
  · refine ds_for (is := [3]) (passes_of rfl) rfl ?_ ?_ ?_
    · refine di_seq ?_
      · refine de_ix dix ?_ ?_
        · refine de_ix dix ?_ ?_
          · exact de_var (pv 0)
          · exact de_int
        · exact de_var (pv 1)
    · exact dg_name (pg_name (i := 3) nd rfl (by first | exact Or.inl rfl | exact Or.inr rfl))
    · refine dss_one ?_
      · refine ds_set (i := 2) nd rfl (by first | exact Or.inl rfl | exact Or.inr rfl) ?_
        · refine de_callPG hgd (takes_of rfl rfl rfl rfl) (y_behind_step_ok rfl hKw Tx) (hr.mono (by decide)) rfl Tx.M3 Tx.F3.kp Tx.B3 ?_
          · refine da_cons ?_ ?_
            · refine de_ix dix ?_ ?_
              · exact de_var (pv 0)
              · exact de_int
            · refine da_cons ?_ ?_
              · exact de_var (pv 3)
              · refine da_cons ?_ ?_
                · exact de_var (pv 2)
                · exact da_nil
  · refine dss_one ?_
    · refine ds_ret ?_
      · exact de_var (pv 2))
end
end K05
namespace K05
open PySem PySem.Spec PyProof.Rows L2 DL
section
variable [KFrag] {P : Program} {w : World} {K : PySem.W.Frag} {mg : Str → Option Value} {base : Heap} {a : Nat → Addr} {d : Nat → FuncData} {T : TX}
theorem y_add_longer_rows_ok (hKF : K = KFrag.K) (hKw : w = KFrag.w) (Tx : Txt K mg a d) : FnG P w K mg base 5 (a 7) (d 7) ["house", "rows", "newest"] (spD T 3 y_add_longer_rows_r) := by
  subst hKF
  exact fnG (g := y_add_longer_rows_g) Tx.F7 y_add_longer_rows_sc rfl rfl fun cdv A outer s H E hgd hr => (by
  have nd := y_add_longer_rows_sc.nd
  refine dss_cons ?_ ?_
  · refine ds_set (i := 3) nd rfl (by first | exact Or.inl rfl | exact Or.inr rfl) ?_
    · refine de_new ?_
      · exact da_nil
  · refine dss_cons ?_ ?_
    · refine ds_for (is := [4]) (passes_of rfl) rfl ?_ ?_ ?_
      · refine di_seq ?_
        · exact de_var (pv 2)
      · exact dg_name (pg_name (i := 4) nd rfl (by first | exact Or.inl rfl | exact Or.inr rfl))
      · refine dss_one ?_
        · refine ds_for (is := [5]) (passes_of rfl) rfl ?_ ?_ ?_
          · refine di_rng1 rfl Tx.z_range ?_
            · refine de_callB dc_len rfl Tx.z_len PySem.boot_len ?_
              · refine da_cons ?_ ?_
                · refine de_ix dix ?_ ?_
                  · exact de_var (pv 0)
                  · exact de_int
                · exact da_nil
          · exact dg_name (pg_name (i := 5) nd rfl (by first | exact Or.inl rfl | exact Or.inr rfl))
          · refine dss_cons ?_ ?_
            · refine ds_set (i := 6) nd rfl (by first | exact Or.inl rfl | exact Or.inr rfl) ?_
              · refine de_callPG hgd (takes_of rfl rfl rfl rfl) (xmade_by_ok rfl hKw Tx) (hr.mono (by decide)) rfl Tx.M2 Tx.F2.kp Tx.B2 ?_
                · refine da_cons ?_ ?_
                  · exact de_var (pv 0)
                  · refine da_cons ?_ ?_
                    · exact de_var (pv 5)
                    · refine da_cons ?_ ?_
                      · exact de_var (pv 4)
                      · exact da_nil
            · refine dss_one ?_
              · refine ds_if ?_ ?_ ?_
                · refine dt_dnin hKw hr.units ?_ ?_
                  · exact de_var (pv 6)
                  · exact de_var (pv 1)
                · refine dss_cons ?_ ?_
                  · refine ds_dput hKw hr.units ?_ ?_ ?_
                    · refine de_op dop_add ?_ ?_
                      · refine de_dget hKw hr.units ?_ ?_
                        · exact de_var (pv 1)
                        · exact de_var (pv 4)
                      · refine de_tup ?_
                        · refine da_cons ?_ ?_
                          · exact de_var (pv 5)
                          · exact da_nil
                    · exact de_var (pv 1)
                    · exact de_var (pv 6)
                  · refine dss_one ?_
                    · refine ds_app (de_var (pv 3)) ?_
                      · exact de_var (pv 6)
                · exact dss_nil
    · refine dss_one ?_
      · refine ds_ret ?_
        · exact de_frz (pv 3))
end
end K05
namespace K05
open PySem PySem.Spec PyProof.Rows L2 DL
section
variable [KFrag] {P : Program} {w : World} {K : PySem.W.Frag} {mg : Str → Option Value} {base : Heap} {a : Nat → Addr} {d : Nat → FuncData} {T : TX}
theorem y_shortest_rows_ok (hKF : K = KFrag.K) (hKw : w = KFrag.w) (Tx : Txt K mg a d) : FnG P w K mg base 6 (a 6) (d 6) ["house"] (spD T 1 y_shortest_rows_r) := by
  subst hKF
  exact fnG (g := y_shortest_rows_g) Tx.F6 y_shortest_rows_sc rfl rfl fun cdv A outer s H E hgd hr => (by
  have nd := y_shortest_rows_sc.nd
  refine dss_cons ?_ ?_
  · refine ds_set (i := 1) nd rfl (by first | exact Or.inl rfl | exact Or.inr rfl) ?_
    · refine de_ix dix ?_ ?_
      · exact de_var (pv 0)
      · exact de_int
  · refine dss_cons ?_ ?_
    · refine ds_set (i := 2) nd rfl (by first | exact Or.inl rfl | exact Or.inr rfl) ?_
      · refine de_newD1 hKw hr.units ?_ ?_
        · exact de_var (pv 1)
        · refine de_tup ?_
          · exact da_nil
    · refine dss_cons ?_ ?_
      · refine ds_set (i := 3) nd rfl (by first | exact Or.inl rfl | exact Or.inr rfl) ?_
        · refine de_lst ?_
          · refine da_cons ?_ ?_
            · exact de_var (pv 1)
            · exact da_nil
      · refine dss_cons ?_ ?_
        · refine ds_while 4096 (passes_of rfl) ?_ ?_
          · refine dt_truth ?_
            · exact de_var (pv 3)
          · refine dss_one ?_
            · refine ds_set (i := 3) nd rfl (by first | exact Or.inl rfl | exact Or.inr rfl) ?_
              · refine de_callG hgd (takes_of rfl rfl rfl rfl) (y_add_longer_rows_ok rfl hKw Tx) (hr.mono (by decide)) rfl Tx.M7 Tx.F7.kp Tx.B7 ?_
                · refine da_cons ?_ ?_
                  · exact de_var (pv 0)
                  · refine da_cons ?_ ?_
                    · exact de_var (pv 2)
                    · refine da_cons ?_ ?_
                      · exact de_var (pv 3)
                      · exact da_nil
        · refine dss_one ?_
          · refine ds_ret ?_
            · exact de_frzD (pv 2))
end
end K05
namespace K05
open PySem PySem.Spec PyProof.Rows L2 DL
section
variable [KFrag] {P : Program} {w : World} {K : PySem.W.Frag} {mg : Str → Option Value} {base : Heap} {a : Nat → Addr} {d : Nat → FuncData} {T : TX}
theorem xcome_to_ok (hKF : K = KFrag.K) (hKw : w = KFrag.w) (Tx : Txt K mg a d) : FnG P w K mg base 7 (a 0) (d 0) ["house"] (spD T 1 xcome_to_r) := by
  subst hKF
  exact fnG (g := xcome_to_g) Tx.F0 xcome_to_sc rfl rfl fun cdv A outer s H E hgd hr => (by
  have nd := xcome_to_sc.nd
  refine dss_one ?_
  · refine ds_ret ?_
    · refine de_callTy dc_tuple rfl Tx.z_tuple PyProof.Rows.boot_tuple ?_
      · refine da_cons ?_ ?_
        · refine de_srt hKw rfl hr.units rfl Tx.z_sorted PyProof.Rows.boot_sorted ?_
          · refine da_cons ?_ ?_
            · refine de_callG hgd (takes_of rfl rfl rfl rfl) (y_shortest_rows_ok rfl hKw Tx) (hr.mono (by decide)) rfl Tx.M6 Tx.F6.kp Tx.B6 ?_
              · refine da_cons ?_ ?_
                · exact de_var (pv 0)
                · exact da_nil
            · exact da_nil
        · exact da_nil)
end
end K05
namespace K05
open PySem PySem.Spec PyProof.Rows L2 DL
section
variable [KFrag] {P : Program} {w : World} {K : PySem.W.Frag} {mg : Str → Option Value} {base : Heap} {a : Nat → Addr} {d : Nat → FuncData} {T : TX}
theorem xrow_to_ok (hKF : K = KFrag.K) (hKw : w = KFrag.w) (Tx : Txt K mg a d) : FnG P w K mg base 7 (a 1) (d 1) ["house", "content"] (spD T 2 xrow_to_r) := by
  subst hKF
  exact fnG (g := xrow_to_g) Tx.F1 xrow_to_sc rfl rfl fun cdv A outer s H E hgd hr => (by
  have nd := xrow_to_sc.nd
  refine dss_one ?_
  · refine ds_ret ?_
    · refine de_dgetM hKw (units65 hr) ?_ ?_
      · refine de_callG hgd (takes_of rfl rfl rfl rfl) (y_shortest_rows_ok rfl hKw Tx) (hr.mono (by decide)) rfl Tx.M6 Tx.F6.kp Tx.B6 ?_
        · refine da_cons ?_ ?_
          · exact de_var (pv 0)
          · exact da_nil
      · exact de_var (pv 1))
end
end K05
namespace K05
open PySem PySem.Spec PyProof.Rows L2 DL
section
variable [KFrag] {P : Program} {w : World} {K : PySem.W.Frag} {mg : Str → Option Value} {base : Heap} {a : Nat → Addr} {d : Nat → FuncData} {T : TX}
theorem y_law_pen_ok (hKF : K = KFrag.K) (hKw : w = KFrag.w) (Tx : Txt K mg a d) : FnG P w K mg base 1 (a 8) (d 8) ["_law_script"] (spD T 1 y_law_pen_r) := by
  subst hKF
  exact fnG (g := y_law_pen_g) Tx.F8 y_law_pen_sc rfl rfl fun cdv A outer s H E hgd hr => (by
  have nd := y_law_pen_sc.nd
  refine dss_one ?_
  · refine ds_ret ?_
    · refine de_new ?_
      · refine da_cons ?_ ?_
        · refine de_callTy dc_list rfl Tx.z_list PyProof.Rows.boot_list ?_
          · refine da_cons ?_ ?_
            · refine de_slice rfl ?_ ?_ ?_
              · exact de_var (pv 0)
              · exact do_none
              · refine do_some ?_
                · exact de_int
            · exact da_nil
        · refine da_cons ?_ ?_
          · exact de_int
          · refine da_cons ?_ ?_
            · exact de_int
            · exact da_nil)
end
end K05
namespace K05
open PySem PySem.Spec PyProof.Rows L2 DL
section
variable [KFrag] {P : Program} {w : World} {K : PySem.W.Frag} {mg : Str → Option Value} {base : Heap} {a : Nat → Addr} {d : Nat → FuncData} {T : TX}
theorem y_law_fresh_ok (hKF : K = KFrag.K) (hKw : w = KFrag.w) (Tx : Txt K mg a d) : FnG P w K mg base 1 (a 9) (d 9) ["_law_pen_here"] (spD T 1 y_law_fresh_r) := by
  subst hKF
  exact fnG (g := y_law_fresh_g) Tx.F9 y_law_fresh_sc rfl rfl fun cdv A outer s H E hgd hr => (by
  have nd := y_law_fresh_sc.nd
  refine dss_cons ?_ ?_
  · refine ds_set (i := 1) nd rfl (by first | exact Or.inl rfl | exact Or.inr rfl) ?_
    · refine de_ixC (de_var (pv 0)) ?_
      · exact de_int
  · refine dss_cons ?_ ?_
    · refine ds_put ?_ (de_var (pv 0)) ?_
      · refine de_op dop_add ?_ ?_
        · exact de_var (pv 1)
        · exact de_int
      · exact de_int
    · refine dss_cons ?_ ?_
      · refine ds_set (i := 2) nd rfl (by first | exact Or.inl rfl | exact Or.inr rfl) ?_
        · exact de_int
      · refine dss_cons ?_ ?_
        · refine ds_if ?_ ?_ ?_
          · refine dt_cmp (dop_ne hr.units) ?_ ?_
            · refine de_ixC (de_var (pv 0)) ?_
              · exact de_int
            · refine de_lst ?_
              · exact da_nil
          · refine dss_one ?_
            · refine ds_set (i := 2) nd rfl (by first | exact Or.inl rfl | exact Or.inr rfl) ?_
              · refine de_ix dix ?_ ?_
                · refine de_ixC (de_var (pv 0)) ?_
                  · exact de_int
                · refine de_op dop_mod ?_ ?_
                  · refine de_callTy dc_int rfl Tx.z_int PyProof.Rows.boot_int ?_
                    · refine da_cons ?_ ?_
                      · exact de_var (pv 1)
                      · exact da_nil
                  · refine de_callB dc_len rfl Tx.z_len PySem.boot_len ?_
                    · refine da_cons ?_ ?_
                      · refine de_ixC (de_var (pv 0)) ?_
                        · exact de_int
                      · exact da_nil
          · exact dss_nil
        · refine dss_cons ?_ ?_
          · refine ds_if ?_ ?_ ?_
            · refine dt_w ?_
              · refine dw_and ?_ ?_
                · refine dt_cmp dop_lt ?_ ?_
                  · exact de_var (pv 1)
                  · refine de_callB dc_len rfl Tx.z_len PySem.boot_len ?_
                    · refine da_cons ?_ ?_
                      · refine de_ixC (de_var (pv 0)) ?_
                        · exact de_int
                      · exact da_nil
                · refine dw_and1 ?_
                  · refine dt_cmp dop_ge ?_ ?_
                    · exact de_var (pv 2)
                    · refine de_op dop_pow ?_ ?_
                      · exact de_int
                      · exact de_int
            · refine dss_one ?_
              · refine ds_ret ?_
                · refine de_op dop_sub ?_ ?_
                  · exact de_var (pv 2)
                  · refine de_op dop_pow ?_ ?_
                    · exact de_int
                    · exact de_int
            · exact dss_nil
          · refine dss_cons ?_ ?_
            · refine ds_set (i := 3) nd rfl (by first | exact Or.inl rfl | exact Or.inr rfl) ?_
              · exact de_int
            · refine dss_cons ?_ ?_
              · refine ds_set (i := 4) nd rfl (by first | exact Or.inl rfl | exact Or.inr rfl) ?_
                · refine de_op dop_mod ?_ ?_
                  · refine de_callTy dc_int rfl Tx.z_int PyProof.Rows.boot_int ?_
                    · refine da_cons ?_ ?_
                      · refine de_op dop_add ?_ ?_
                        · refine de_op dop_add ?_ ?_
                          · refine de_op dop_mul ?_ ?_
                            · exact de_var (pv 2)
                            · exact de_int
                          · refine de_op dop_mul ?_ ?_
                            · exact de_int
                            · exact de_var (pv 1)
                        · exact de_int
                      · exact da_nil
                  · exact de_var (pv 3)
              · refine dss_cons ?_ ?_
                · refine ds_set (i := 5) nd rfl (by first | exact Or.inl rfl | exact Or.inr rfl) ?_
                  · exact de_var (pv 4)
                · refine dss_cons ?_ ?_
                  · refine ds_for (is := [6]) (passes_of rfl) rfl ?_ ?_ ?_
                    · refine di_rng1 rfl Tx.z_range ?_
                      · exact de_int
                    · exact dg_name (pg_name (i := 6) nd rfl (by first | exact Or.inl rfl | exact Or.inr rfl))
                    · refine dss_cons ?_ ?_
                      · refine ds_set (i := 4) nd rfl (by first | exact Or.inl rfl | exact Or.inr rfl) ?_
                        · refine de_op dop_mod ?_ ?_
                          · refine de_callTy dc_int rfl Tx.z_int PyProof.Rows.boot_int ?_
                            · refine da_cons ?_ ?_
                              · refine de_op dop_add ?_ ?_
                                · refine de_op dop_add ?_ ?_
                                  · refine de_op dop_mul ?_ ?_
                                    · exact de_var (pv 4)
                                    · exact de_var (pv 4)
                                  · refine de_op dop_mul ?_ ?_
                                    · refine de_op dop_mul ?_ ?_
                                      · exact de_int
                                      · refine de_op dop_add ?_ ?_
                                        · exact de_var (pv 6)
                                        · exact de_int
                                    · refine de_op dop_add ?_ ?_
                                      · exact de_var (pv 1)
                                      · exact de_int
                                · exact de_var (pv 2)
                              · exact da_nil
                          · exact de_var (pv 3)
                      · refine dss_one ?_
                        · refine ds_set (i := 5) nd rfl (by first | exact Or.inl rfl | exact Or.inr rfl) ?_
                          · refine de_op dop_add ?_ ?_
                            · refine de_op dop_mul ?_ ?_
                              · exact de_var (pv 5)
                              · exact de_var (pv 3)
                            · exact de_var (pv 4)
                  · refine dss_one ?_
                    · refine ds_ret ?_
                      · exact de_var (pv 5))
end
end K05
namespace K05
open PySem PySem.Spec PyProof.Rows L2 DL
section
variable [KFrag] {P : Program} {w : World} {K : PySem.W.Frag} {mg : Str → Option Value} {base : Heap} {a : Nat → Addr} {d : Nat → FuncData} {T : TX}
theorem y_law_draw_ok (hKF : K = KFrag.K) (hKw : w = KFrag.w) (Tx : Txt K mg a d) : FnG P w K mg base 2 (a 10) (d 10) ["_law_pen_here", "_law_many"] (spD T 2 y_law_draw_r) := by
  subst hKF
  exact fnG (g := y_law_draw_g) Tx.F10 y_law_draw_sc rfl rfl fun cdv A outer s H E hgd hr => (by
  have nd := y_law_draw_sc.nd
  refine dss_cons ?_ ?_
  · refine ds_if ?_ ?_ ?_
    · refine dt_cmp dop_lt ?_ ?_
      · refine de_ixC (de_var (pv 0)) ?_
        · exact de_int
      · exact de_var (pv 1)
    · refine dss_one ?_
      · refine ds_put ?_ (de_var (pv 0)) ?_
        · refine de_callG hgd (takes_of rfl rfl rfl rfl) (y_law_fresh_ok rfl hKw Tx) (hr.mono (by decide)) rfl Tx.M9 Tx.F9.kp Tx.B9 ?_
          · refine da_cons ?_ ?_
            · exact de_var (pv 0)
            · exact da_nil
        · exact de_int
    · exact dss_nil
  · refine dss_cons ?_ ?_
    · refine ds_set (i := 2) nd rfl (by first | exact Or.inl rfl | exact Or.inr rfl) ?_
      · refine de_op dop_mod ?_ ?_
        · refine de_callTy dc_int rfl Tx.z_int PyProof.Rows.boot_int ?_
          · refine da_cons ?_ ?_
            · refine de_ixC (de_var (pv 0)) ?_
              · exact de_int
            · exact da_nil
        · exact de_var (pv 1)
    · refine dss_cons ?_ ?_
      · refine ds_put ?_ (de_var (pv 0)) ?_
        · refine de_op dop_fdiv ?_ ?_
          · refine de_callTy dc_int rfl Tx.z_int PyProof.Rows.boot_int ?_
            · refine da_cons ?_ ?_
              · refine de_ixC (de_var (pv 0)) ?_
                · exact de_int
              · exact da_nil
          · exact de_var (pv 1)
        · exact de_int
      · refine dss_one ?_
        · refine ds_ret ?_
          · exact de_var (pv 2))
end
end K05
namespace K05
open PySem PySem.Spec PyProof.Rows L2 DL
section
variable [KFrag] {P : Program} {w : World} {K : PySem.W.Frag} {mg : Str → Option Value} {base : Heap} {a : Nat → Addr} {d : Nat → FuncData} {T : TX}
theorem y_law_one_of_ok (hKF : K = KFrag.K) (hKw : w = KFrag.w) (Tx : Txt K mg a d) : FnG P w K mg base 3 (a 11) (d 11) ["_law_pen_here", "_law_rows"] (spD T 2 y_law_one_of_r) := by
  subst hKF
  exact fnG (g := y_law_one_of_g) Tx.F11 y_law_one_of_sc rfl rfl fun cdv A outer s H E hgd hr => (by
  have nd := y_law_one_of_sc.nd
  refine dss_one ?_
  · refine ds_ret ?_
    · refine de_ix dix ?_ ?_
      · exact de_var (pv 1)
      · refine de_callG hgd (takes_of rfl rfl rfl rfl) (y_law_draw_ok rfl hKw Tx) (hr.mono (by decide)) rfl Tx.M10 Tx.F10.kp Tx.B10 ?_
        · refine da_cons ?_ ?_
          · exact de_var (pv 0)
          · refine da_cons ?_ ?_
            · refine de_callB dc_len rfl Tx.z_len PySem.boot_len ?_
              · refine da_cons ?_ ?_
                · exact de_var (pv 1)
                · exact da_nil
            · exact da_nil)
end
end K05
namespace K05
open PySem PySem.Spec PyProof.Rows L2 DL
section
variable [KFrag] {P : Program} {w : World} {K : PySem.W.Frag} {mg : Str → Option Value} {base : Heap} {a : Nat → Addr} {d : Nat → FuncData} {T : TX}
theorem y_law_sizes_ok (hKF : K = KFrag.K) (hKw : w = KFrag.w) (Tx : Txt K mg a d) : FnG P w K mg base 4 (a 12) (d 12) ["_law_pen_here"] (spD T 1 y_law_sizes_r) := by
  subst hKF
  exact fnG (g := y_law_sizes_g) Tx.F12 y_law_sizes_sc rfl rfl fun cdv A outer s H E hgd hr => (by
  have nd := y_law_sizes_sc.nd
  refine dss_cons ?_ ?_
  · refine ds_set (i := 1) nd rfl (by first | exact Or.inl rfl | exact Or.inr rfl) ?_
    · refine de_lst ?_
      · refine da_cons ?_ ?_
        · refine de_tup ?_
          · refine da_cons ?_ ?_
            · exact de_int
            · exact da_nil
        · refine da_cons ?_ ?_
          · refine de_tup ?_
            · refine da_cons ?_ ?_
              · exact de_int
              · exact da_nil
          · refine da_cons ?_ ?_
            · refine de_tup ?_
              · refine da_cons ?_ ?_
                · exact de_int
                · exact da_nil
            · refine da_cons ?_ ?_
              · refine de_tup ?_
                · refine da_cons ?_ ?_
                  · exact de_int
                  · exact da_nil
              · refine da_cons ?_ ?_
                · refine de_tup ?_
                  · refine da_cons ?_ ?_
                    · exact de_int
                    · refine da_cons ?_ ?_
                      · exact de_int
                      · exact da_nil
                · refine da_cons ?_ ?_
                  · refine de_tup ?_
                    · refine da_cons ?_ ?_
                      · exact de_int
                      · refine da_cons ?_ ?_
                        · exact de_int
                        · exact da_nil
                  · refine da_cons ?_ ?_
                    · refine de_tup ?_
                      · refine da_cons ?_ ?_
                        · exact de_int
                        · refine da_cons ?_ ?_
                          · exact de_int
                          · exact da_nil
                    · refine da_cons ?_ ?_
                      · refine de_tup ?_
                        · refine da_cons ?_ ?_
                          · exact de_int
                          · refine da_cons ?_ ?_
                            · exact de_int
                            · exact da_nil
                      · refine da_cons ?_ ?_
                        · refine de_tup ?_
                          · refine da_cons ?_ ?_
                            · exact de_int
                            · exact da_nil
                        · refine da_cons ?_ ?_
                          · refine de_tup ?_
                            · refine da_cons ?_ ?_
                              · exact de_int
                              · exact da_nil
                          · refine da_cons ?_ ?_
                            · refine de_tup ?_
                              · refine da_cons ?_ ?_
                                · exact de_int
                                · exact da_nil
                            · refine da_cons ?_ ?_
                              · refine de_tup ?_
                                · refine da_cons ?_ ?_
                                  · exact de_int
                                  · refine da_cons ?_ ?_
                                    · exact de_int
                                    · refine da_cons ?_ ?_
                                      · exact de_int
                                      · exact da_nil
                              · exact da_nil
  · refine dss_one ?_
    · refine ds_ret ?_
      · refine de_callG hgd (takes_of rfl rfl rfl rfl) (y_law_one_of_ok rfl hKw Tx) (hr.mono (by decide)) rfl Tx.M11 Tx.F11.kp Tx.B11 ?_
        · refine da_cons ?_ ?_
          · exact de_var (pv 0)
          · refine da_cons ?_ ?_
            · refine de_op dop_add ?_ ?_
              · exact de_var (pv 1)
              · refine de_lst ?_
                · refine da_cons ?_ ?_
                  · refine de_tup ?_
                    · refine da_cons ?_ ?_
                      · exact de_int
                      · refine da_cons ?_ ?_
                        · exact de_int
                        · exact da_nil
                  · refine da_cons ?_ ?_
                    · refine de_tup ?_
                      · refine da_cons ?_ ?_
                        · exact de_int
                        · refine da_cons ?_ ?_
                          · exact de_int
                          · exact da_nil
                    · refine da_cons ?_ ?_
                      · refine de_tup ?_
                        · refine da_cons ?_ ?_
                          · exact de_int
                          · exact da_nil
                      · refine da_cons ?_ ?_
                        · refine de_tup ?_
                          · refine da_cons ?_ ?_
                            · exact de_int
                            · exact da_nil
                        · exact da_nil
            · exact da_nil)
end
end K05
namespace K05
open PySem PySem.Spec PyProof.Rows L2 DL
section
variable [KFrag] {P : Program} {w : World} {K : PySem.W.Frag} {mg : Str → Option Value} {base : Heap} {a : Nat → Addr} {d : Nat → FuncData} {T : TX}
theorem y_law_plain_ok (hKF : K = KFrag.K) (hKw : w = KFrag.w) (Tx : Txt K mg a d) : FnG P w K mg base 4 (a 13) (d 13) ["_law_pen_here", "_law_sizes_here"] (spD T 2 y_law_plain_r) := by
  subst hKF
  exact fnG (g := y_law_plain_g) Tx.F13 y_law_plain_sc rfl rfl fun cdv A outer s H E hgd hr => (by
  have nd := y_law_plain_sc.nd
  refine dss_cons ?_ ?_
  · refine ds_par2 (i := 2) (j := 3) rfl nd rfl rfl (by decide) rfl rfl ?_ rfl
    · refine da_cons ?_ ?_
      · refine de_callG hgd (takes_of rfl rfl rfl rfl) (y_law_draw_ok rfl hKw Tx) (hr.mono (by decide)) rfl Tx.M10 Tx.F10.kp Tx.B10 ?_
        · refine da_cons ?_ ?_
          · exact de_var (pv 0)
          · refine da_cons ?_ ?_
            · refine de_callB dc_len rfl Tx.z_len PySem.boot_len ?_
              · refine da_cons ?_ ?_
                · exact de_var (pv 1)
                · exact da_nil
            · exact da_nil
      · refine da_cons ?_ ?_
        · refine de_callG hgd (takes_of rfl rfl rfl rfl) (y_law_one_of_ok rfl hKw Tx) (hr.mono (by decide)) rfl Tx.M11 Tx.F11.kp Tx.B11 ?_
          · refine da_cons ?_ ?_
            · exact de_var (pv 0)
            · refine da_cons ?_ ?_
              · refine de_lst ?_
                · refine da_cons ?_ ?_
                  · exact de_str
                  · refine da_cons ?_ ?_
                    · exact de_str
                    · refine da_cons ?_ ?_
                      · exact de_str
                      · refine da_cons ?_ ?_
                        · exact de_str
                        · exact da_nil
              · exact da_nil
        · exact da_nil
  · refine dss_cons ?_ ?_
    · refine ds_set (i := 4) nd rfl (by first | exact Or.inl rfl | exact Or.inr rfl) ?_
      · refine de_callG hgd (takes_of rfl rfl rfl rfl) (y_law_draw_ok rfl hKw Tx) (hr.mono (by decide)) rfl Tx.M10 Tx.F10.kp Tx.B10 ?_
        · refine da_cons ?_ ?_
          · exact de_var (pv 0)
          · refine da_cons ?_ ?_
            · refine de_callB dc_len rfl Tx.z_len PySem.boot_len ?_
              · refine da_cons ?_ ?_
                · exact de_var (pv 1)
                · exact da_nil
            · exact da_nil
    · refine dss_cons ?_ ?_
      · refine ds_if ?_ ?_ ?_
        · refine dt_w ?_
          · refine dw_and ?_ ?_
            · refine dt_cmp (dop_eq hr.units) ?_ ?_
              · exact de_var (pv 3)
              · exact de_str
            · refine dw_and1 ?_
              · refine dt_cmp (dop_ne hr.units) ?_ ?_
                · exact de_var (pv 4)
                · exact de_var (pv 2)
        · refine dss_one ?_
          · refine ds_ret ?_
            · refine de_tup ?_
              · refine da_cons ?_ ?_
                · exact de_var (pv 3)
                · refine da_cons ?_ ?_
                  · exact de_var (pv 2)
                  · refine da_cons ?_ ?_
                    · exact de_var (pv 4)
                    · exact da_nil
        · exact dss_nil
      · refine dss_cons ?_ ?_
        · refine ds_set (i := 3) nd rfl (by first | exact Or.inl rfl | exact Or.inr rfl) ?_
          · refine de_if ?_ ?_ ?_
            · refine dt_cmp (dop_eq hr.units) ?_ ?_
              · exact de_var (pv 3)
              · exact de_str
            · exact de_str
            · exact de_var (pv 3)
        · refine dss_one ?_
          · refine ds_ret ?_
            · refine de_tup ?_
              · refine da_cons ?_ ?_
                · exact de_var (pv 3)
                · refine da_cons ?_ ?_
                  · exact de_var (pv 2)
                  · refine da_cons ?_ ?_
                    · refine de_callG hgd (takes_of rfl rfl rfl rfl) (y_law_draw_ok rfl hKw Tx) (hr.mono (by decide)) rfl Tx.M10 Tx.F10.kp Tx.B10 ?_
                      · refine da_cons ?_ ?_
                        · exact de_var (pv 0)
                        · refine da_cons ?_ ?_
                          · refine de_ix dix ?_ ?_
                            · exact de_var (pv 1)
                            · exact de_var (pv 2)
                          · exact da_nil
                    · exact da_nil)
end
end K05
namespace K05
open PySem PySem.Spec PyProof.Rows L2 DL
section
variable [KFrag] {P : Program} {w : World} {K : PySem.W.Frag} {mg : Str → Option Value} {base : Heap} {a : Nat → Addr} {d : Nat → FuncData} {T : TX}
theorem y_law_step_ok (hKF : K = KFrag.K) (hKw : w = KFrag.w) (Tx : Txt K mg a d) : FnG P w K mg base 5 (a 14) (d 14) ["_law_pen_here", "_law_sizes_here"] (spD T 2 y_law_step_r) := by
  subst hKF
  exact fnG (g := y_law_step_g) Tx.F14 y_law_step_sc rfl rfl fun cdv A outer s H E hgd hr => (by
  have nd := y_law_step_sc.nd
  refine dss_cons ?_ ?_
  · refine ds_set (i := 2) nd rfl (by first | exact Or.inl rfl | exact Or.inr rfl) ?_
    · refine de_callG hgd (takes_of rfl rfl rfl rfl) (y_law_plain_ok rfl hKw Tx) (hr.mono (by decide)) rfl Tx.M13 Tx.F13.kp Tx.B13 ?_
      · refine da_cons ?_ ?_
        · exact de_var (pv 0)
        · refine da_cons ?_ ?_
          · exact de_var (pv 1)
          · exact da_nil
  · refine dss_cons ?_ ?_
    · refine ds_if ?_ ?_ ?_
      · refine dt_cmp (dop_eq hr.units) ?_ ?_
        · refine de_callG hgd (takes_of rfl rfl rfl rfl) (y_law_draw_ok rfl hKw Tx) (hr.mono (by decide)) rfl Tx.M10 Tx.F10.kp Tx.B10 ?_
          · refine da_cons ?_ ?_
            · exact de_var (pv 0)
            · refine da_cons ?_ ?_
              · exact de_int
              · exact da_nil
        · exact de_int
      · refine dss_one ?_
        · refine ds_ret ?_
          · exact de_var (pv 2)
      · exact dss_nil
    · refine dss_cons ?_ ?_
      · refine ds_set (i := 3) nd rfl (by first | exact Or.inl rfl | exact Or.inr rfl) ?_
        · refine de_callG hgd (takes_of rfl rfl rfl rfl) (y_law_draw_ok rfl hKw Tx) (hr.mono (by decide)) rfl Tx.M10 Tx.F10.kp Tx.B10 ?_
          · refine da_cons ?_ ?_
            · exact de_var (pv 0)
            · refine da_cons ?_ ?_
              · refine de_callB dc_len rfl Tx.z_len PySem.boot_len ?_
                · refine da_cons ?_ ?_
                  · exact de_var (pv 1)
                  · exact da_nil
              · exact da_nil
      · refine dss_cons ?_ ?_
        · refine ds_set (i := 4) nd rfl (by first | exact Or.inl rfl | exact Or.inr rfl) ?_
          · refine de_callG hgd (takes_of rfl rfl rfl rfl) (y_law_draw_ok rfl hKw Tx) (hr.mono (by decide)) rfl Tx.M10 Tx.F10.kp Tx.B10 ?_
            · refine da_cons ?_ ?_
              · exact de_var (pv 0)
              · refine da_cons ?_ ?_
                · refine de_ix dix ?_ ?_
                  · exact de_var (pv 1)
                  · exact de_var (pv 3)
                · exact da_nil
        · refine dss_one ?_
          · refine ds_ret ?_
            · refine de_tup ?_
              · refine da_cons ?_ ?_
                · exact de_str
                · refine da_cons ?_ ?_
                  · exact de_var (pv 3)
                  · refine da_cons ?_ ?_
                    · exact de_var (pv 4)
                    · refine da_cons ?_ ?_
                      · refine de_op dop_add ?_ ?_
                        · exact de_var (pv 4)
                        · refine de_callG hgd (takes_of rfl rfl rfl rfl) (y_law_draw_ok rfl hKw Tx) (hr.mono (by decide)) rfl Tx.M10 Tx.F10.kp Tx.B10 ?_
                          · refine da_cons ?_ ?_
                            · exact de_var (pv 0)
                            · refine da_cons ?_ ?_
                              · refine de_op dop_sub ?_ ?_
                                · refine de_ix dix ?_ ?_
                                  · exact de_var (pv 1)
                                  · exact de_var (pv 3)
                                · exact de_var (pv 4)
                              · exact da_nil
                      · refine da_cons ?_ ?_
                        · exact de_var (pv 2)
                        · exact da_nil)
end
end K05
namespace K05
open PySem PySem.Spec PyProof.Rows L2 DL
section
variable [KFrag] {P : Program} {w : World} {K : PySem.W.Frag} {mg : Str → Option Value} {base : Heap} {a : Nat → Addr} {d : Nat → FuncData} {T : TX}
theorem y_law_kind_ok (hKF : K = KFrag.K) (hKw : w = KFrag.w) (Tx : Txt K mg a d) : FnG P w K mg base 6 (a 15) (d 15) ["_law_pen_here", "_law_sizes_here", "_law_most"] (spD T 3 y_law_kind_r) := by
  subst hKF
  exact fnG (g := y_law_kind_g) Tx.F15 y_law_kind_sc rfl rfl fun cdv A outer s H E hgd hr => (by
  have nd := y_law_kind_sc.nd
  refine dss_one ?_
  · refine ds_ret ?_
    · refine de_callTy dc_tuple rfl Tx.z_tuple PyProof.Rows.boot_tuple ?_
      · refine da_cons ?_ ?_
        · refine de_lc (is := [3]) (own := [("_law_lap", 3)]) rfl nd ?_ (blkOk_by (N := y_law_kind_N) (sc := defScope y_law_kind_s) (own := [("_law_lap", 3)]) (by decide +kernel)) (by decide) ?_ ?_ ?_
          · refine di_rng1 rfl Tx.z_range ?_
            · refine de_callG hgd (takes_of rfl rfl rfl rfl) (y_law_one_of_ok rfl hKw Tx) (hr.mono (by decide)) rfl Tx.M11 Tx.F11.kp Tx.B11 ?_
              · refine da_cons ?_ ?_
                · exact de_var (pv 0)
                · refine da_cons ?_ ?_
                  · refine de_lst ?_
                    · refine da_cons ?_ ?_
                      · exact de_int
                      · refine da_cons ?_ ?_
                        · exact de_int
                        · refine da_cons ?_ ?_
                          · exact de_int
                          · refine da_cons ?_ ?_
                            · exact de_int
                            · refine da_cons ?_ ?_
                              · exact de_int
                              · refine da_cons ?_ ?_
                                · exact de_var (pv 2)
                                · exact da_nil
                  · exact da_nil
          · refine fun _ _ _ _ _ => ?_
            · exact dg_name (pg_name (i := 3) nd rfl (by first | exact Or.inl rfl | exact Or.inr rfl))
          · refine fun _ _ _ _ _ => ?_
            · exact dts_nil
          · refine fun _ _ _ _ _ => ?_
            · refine de_callG hgd takes0 (y_law_step_ok rfl hKw Tx) (hr.mono (by decide)) rfl Tx.M14 Tx.F14.kp Tx.B14 ?_
              · refine da_cons ?_ ?_
                · exact de_var (pv 0)
                · refine da_cons ?_ ?_
                  · exact de_var (pv 1)
                  · exact da_nil
        · exact da_nil)
end
end K05
namespace K05
open PySem PySem.Spec PyProof.Rows L2 DL
section
variable [KFrag] {P : Program} {w : World} {K : PySem.W.Frag} {mg : Str → Option Value} {base : Heap} {a : Nat → Addr} {d : Nat → FuncData} {T : TX}
theorem y_law_house_of_ok (hKF : K = KFrag.K) (hKw : w = KFrag.w) (Tx : Txt K mg a d) : FnG P w K mg base 7 (a 16) (d 16) ["_law_pen_here", "_law_sizes_here", "_law_many"] (spD T 3 y_law_house_of_r) := by
  subst hKF
  exact fnG (g := y_law_house_of_g) Tx.F16 y_law_house_of_sc rfl rfl fun cdv A outer s H E hgd hr => (by
  have nd := y_law_house_of_sc.nd
  refine dss_cons ?_ ?_
  · refine ds_set (i := 3) nd rfl (by first | exact Or.inl rfl | exact Or.inr rfl) ?_
    · refine de_callTy dc_tuple rfl Tx.z_tuple PyProof.Rows.boot_tuple ?_
      · refine da_cons ?_ ?_
        · refine de_lc (is := [5]) (own := [("_law_size", 5)]) rfl nd ?_ (blkOk_by (N := y_law_house_of_N) (sc := defScope y_law_house_of_s) (own := [("_law_size", 5)]) (by decide +kernel)) (by decide) ?_ ?_ ?_
          · refine di_seq ?_
            · exact de_var (pv 1)
          · refine fun _ _ _ _ _ => ?_
            · exact dg_name (pg_name (i := 5) nd rfl (by first | exact Or.inl rfl | exact Or.inr rfl))
          · refine fun _ _ _ _ _ => ?_
            · exact dts_nil
          · refine fun _ _ _ _ _ => ?_
            · refine de_callG hgd takes0 (y_law_draw_ok rfl hKw Tx) (hr.mono (by decide)) rfl Tx.M10 Tx.F10.kp Tx.B10 ?_
              · refine da_cons ?_ ?_
                · exact de_var (pv 0)
                · refine da_cons ?_ ?_
                  · exact de_var (pv 5)
                  · exact da_nil
        · exact da_nil
  · refine dss_cons ?_ ?_
    · refine ds_set (i := 4) nd rfl (by first | exact Or.inl rfl | exact Or.inr rfl) ?_
      · refine de_op dop_add ?_ ?_
        · exact de_int
        · refine de_callG hgd (takes_of rfl rfl rfl rfl) (y_law_draw_ok rfl hKw Tx) (hr.mono (by decide)) rfl Tx.M10 Tx.F10.kp Tx.B10 ?_
          · refine da_cons ?_ ?_
            · exact de_var (pv 0)
            · refine da_cons ?_ ?_
              · exact de_int
              · exact da_nil
    · refine dss_one ?_
      · refine ds_ret ?_
        · refine de_tup ?_
          · refine da_cons ?_ ?_
            · exact de_var (pv 1)
            · refine da_cons ?_ ?_
              · exact de_var (pv 3)
              · refine da_cons ?_ ?_
                · refine de_callTy dc_tuple rfl Tx.z_tuple PyProof.Rows.boot_tuple ?_
                  · refine da_cons ?_ ?_
                    · refine de_lc (is := [6]) (own := [("_law_lap", 6)]) rfl nd ?_ (blkOk_by (N := y_law_house_of_N) (sc := defScope y_law_house_of_s) (own := [("_law_lap", 6)]) (by decide +kernel)) (by decide) ?_ ?_ ?_
                      · refine di_rng1 rfl Tx.z_range ?_
                        · exact de_var (pv 2)
                      · refine fun _ _ _ _ _ => ?_
                        · exact dg_name (pg_name (i := 6) nd rfl (by first | exact Or.inl rfl | exact Or.inr rfl))
                      · refine fun _ _ _ _ _ => ?_
                        · exact dts_nil
                      · refine fun _ _ _ _ _ => ?_
                        · refine de_callG hgd takes0 (y_law_kind_ok rfl hKw Tx) (hr.mono (by decide)) rfl Tx.M15 Tx.F15.kp Tx.B15 ?_
                          · refine da_cons ?_ ?_
                            · exact de_var (pv 0)
                            · refine da_cons ?_ ?_
                              · exact de_var (pv 1)
                              · refine da_cons ?_ ?_
                                · exact de_var (pv 4)
                                · exact da_nil
                    · exact da_nil
                · exact da_nil)
end
end K05
namespace K05
open PySem PySem.Spec PyProof.Rows L2 DL
section
variable [KFrag] {P : Program} {w : World} {K : PySem.W.Frag} {mg : Str → Option Value} {base : Heap} {a : Nat → Addr} {d : Nat → FuncData} {T : TX}
theorem y_law_some_house_ok (hKF : K = KFrag.K) (hKw : w = KFrag.w) (Tx : Txt K mg a d) : FnG P w K mg base 8 (a 17) (d 17) ["_law_pen_here"] (spD T 1 y_law_some_house_r) := by
  subst hKF
  exact fnG (g := y_law_some_house_g) Tx.F17 y_law_some_house_sc rfl rfl fun cdv A outer s H E hgd hr => (by
  have nd := y_law_some_house_sc.nd
  refine dss_one ?_
  · refine ds_ret ?_
    · refine de_callG hgd (takes_of rfl rfl rfl rfl) (y_law_house_of_ok rfl hKw Tx) (hr.mono (by decide)) rfl Tx.M16 Tx.F16.kp Tx.B16 ?_
      · refine da_cons ?_ ?_
        · exact de_var (pv 0)
        · refine da_cons ?_ ?_
          · refine de_callG hgd (takes_of rfl rfl rfl rfl) (y_law_sizes_ok rfl hKw Tx) (hr.mono (by decide)) rfl Tx.M12 Tx.F12.kp Tx.B12 ?_
            · refine da_cons ?_ ?_
              · exact de_var (pv 0)
              · exact da_nil
          · refine da_cons ?_ ?_
            · refine de_op dop_add ?_ ?_
              · exact de_int
              · refine de_callG hgd (takes_of rfl rfl rfl rfl) (y_law_draw_ok rfl hKw Tx) (hr.mono (by decide)) rfl Tx.M10 Tx.F10.kp Tx.B10 ?_
                · refine da_cons ?_ ?_
                  · exact de_var (pv 0)
                  · refine da_cons ?_ ?_
                    · exact de_int
                    · exact da_nil
            · exact da_nil)
end
end K05
namespace K05
open PySem PySem.Spec PyProof.Rows L2 DL
section
variable [KFrag] {P : Program} {w : World} {K : PySem.W.Frag} {mg : Str → Option Value} {base : Heap} {a : Nat → Addr} {d : Nat → FuncData} {T : TX}
theorem y_law_small_house_ok (hKF : K = KFrag.K) (hKw : w = KFrag.w) (Tx : Txt K mg a d) : FnG P w K mg base 8 (a 18) (d 18) ["_law_pen_here"] (spD T 1 y_law_small_house_r) := by
  subst hKF
  exact fnG (g := y_law_small_house_g) Tx.F18 y_law_small_house_sc rfl rfl fun cdv A outer s H E hgd hr => (by
  have nd := y_law_small_house_sc.nd
  refine dss_cons ?_ ?_
  · refine ds_set (i := 1) nd rfl (by first | exact Or.inl rfl | exact Or.inr rfl) ?_
    · refine de_callG hgd (takes_of rfl rfl rfl rfl) (y_law_one_of_ok rfl hKw Tx) (hr.mono (by decide)) rfl Tx.M11 Tx.F11.kp Tx.B11 ?_
      · refine da_cons ?_ ?_
        · exact de_var (pv 0)
        · refine da_cons ?_ ?_
          · refine de_lst ?_
            · refine da_cons ?_ ?_
              · refine de_tup ?_
                · refine da_cons ?_ ?_
                  · exact de_int
                  · exact da_nil
              · refine da_cons ?_ ?_
                · refine de_tup ?_
                  · refine da_cons ?_ ?_
                    · exact de_int
                    · exact da_nil
                · refine da_cons ?_ ?_
                  · refine de_tup ?_
                    · refine da_cons ?_ ?_
                      · exact de_int
                      · refine da_cons ?_ ?_
                        · exact de_int
                        · exact da_nil
                  · refine da_cons ?_ ?_
                    · refine de_tup ?_
                      · refine da_cons ?_ ?_
                        · exact de_int
                        · exact da_nil
                    · refine da_cons ?_ ?_
                      · refine de_tup ?_
                        · refine da_cons ?_ ?_
                          · exact de_int
                          · exact da_nil
                      · refine da_cons ?_ ?_
                        · refine de_tup ?_
                          · refine da_cons ?_ ?_
                            · exact de_int
                            · refine da_cons ?_ ?_
                              · exact de_int
                              · exact da_nil
                        · refine da_cons ?_ ?_
                          · refine de_tup ?_
                            · refine da_cons ?_ ?_
                              · exact de_int
                              · refine da_cons ?_ ?_
                                · exact de_int
                                · exact da_nil
                          · refine da_cons ?_ ?_
                            · refine de_tup ?_
                              · refine da_cons ?_ ?_
                                · exact de_int
                                · refine da_cons ?_ ?_
                                  · exact de_int
                                  · exact da_nil
                            · exact da_nil
          · exact da_nil
  · refine dss_one ?_
    · refine ds_ret ?_
      · refine de_callG hgd (takes_of rfl rfl rfl rfl) (y_law_house_of_ok rfl hKw Tx) (hr.mono (by decide)) rfl Tx.M16 Tx.F16.kp Tx.B16 ?_
        · refine da_cons ?_ ?_
          · exact de_var (pv 0)
          · refine da_cons ?_ ?_
            · exact de_var (pv 1)
            · refine da_cons ?_ ?_
              · refine de_op dop_add ?_ ?_
                · exact de_int
                · refine de_callG hgd (takes_of rfl rfl rfl rfl) (y_law_draw_ok rfl hKw Tx) (hr.mono (by decide)) rfl Tx.M10 Tx.F10.kp Tx.B10 ?_
                  · refine da_cons ?_ ?_
                    · exact de_var (pv 0)
                    · refine da_cons ?_ ?_
                      · refine de_if ?_ ?_ ?_
                        · refine dt_cmp (dop_in (units65 hr)) ?_ ?_
                          · exact de_var (pv 1)
                          · refine de_tup ?_
                            · refine da_cons ?_ ?_
                              · refine de_tup ?_
                                · refine da_cons ?_ ?_
                                  · exact de_int
                                  · refine da_cons ?_ ?_
                                    · exact de_int
                                    · exact da_nil
                              · refine da_cons ?_ ?_
                                · refine de_tup ?_
                                  · refine da_cons ?_ ?_
                                    · exact de_int
                                    · refine da_cons ?_ ?_
                                      · exact de_int
                                      · exact da_nil
                                · exact da_nil
                        · exact de_int
                        · exact de_int
                      · exact da_nil
              · exact da_nil)
end
end K05
namespace K05
open PySem PySem.Spec PyProof.Rows L2 DL
section
variable [KFrag] {P : Program} {w : World} {K : PySem.W.Frag} {mg : Str → Option Value} {base : Heap} {a : Nat → Addr} {d : Nat → FuncData} {T : TX}
theorem y_law_wide_ok (hKF : K = KFrag.K) (hKw : w = KFrag.w) (Tx : Txt K mg a d) : FnG P w K mg base 3 (a 19) (d 19) ["_law_pen_here"] (spD T 1 y_law_wide_r) := by
  subst hKF
  exact fnG (g := y_law_wide_g) Tx.F19 y_law_wide_sc rfl rfl fun cdv A outer s H E hgd hr => (by
  have nd := y_law_wide_sc.nd
  refine dss_cons ?_ ?_
  · refine ds_set (i := 1) nd rfl (by first | exact Or.inl rfl | exact Or.inr rfl) ?_
    · refine de_tup ?_
      · refine da_cons ?_ ?_
        · refine de_tup ?_
          · refine da_cons ?_ ?_
            · refine de_tup ?_
              · refine da_cons ?_ ?_
                · exact de_str
                · refine da_cons ?_ ?_
                  · exact de_int
                  · refine da_cons ?_ ?_
                    · exact de_int
                    · exact da_nil
            · exact da_nil
        · refine da_cons ?_ ?_
          · refine de_tup ?_
            · refine da_cons ?_ ?_
              · refine de_tup ?_
                · refine da_cons ?_ ?_
                  · exact de_str
                  · refine da_cons ?_ ?_
                    · exact de_int
                    · refine da_cons ?_ ?_
                      · exact de_int
                      · exact da_nil
              · exact da_nil
          · refine da_cons ?_ ?_
            · refine de_tup ?_
              · refine da_cons ?_ ?_
                · refine de_tup ?_
                  · refine da_cons ?_ ?_
                    · exact de_str
                    · refine da_cons ?_ ?_
                      · exact de_int
                      · refine da_cons ?_ ?_
                        · exact de_int
                        · refine da_cons ?_ ?_
                          · exact de_int
                          · refine da_cons ?_ ?_
                            · refine de_tup ?_
                              · refine da_cons ?_ ?_
                                · exact de_str
                                · refine da_cons ?_ ?_
                                  · exact de_int
                                  · refine da_cons ?_ ?_
                                    · exact de_int
                                    · exact da_nil
                            · exact da_nil
                · exact da_nil
            · exact da_nil
  · refine dss_cons ?_ ?_
    · refine ds_set (i := 2) nd rfl (by first | exact Or.inl rfl | exact Or.inr rfl) ?_
      · refine de_ix dix ?_ ?_
        · refine de_lst ?_
          · refine da_cons ?_ ?_
            · refine de_tup ?_
              · exact da_nil
            · refine da_cons ?_ ?_
              · refine de_tup ?_
                · refine da_cons ?_ ?_
                  · refine de_tup ?_
                    · refine da_cons ?_ ?_
                      · exact de_int
                      · refine da_cons ?_ ?_
                        · refine de_tup ?_
                          · refine da_cons ?_ ?_
                            · refine de_tup ?_
                              · refine da_cons ?_ ?_
                                · exact de_int
                                · exact da_nil
                            · exact da_nil
                        · refine da_cons ?_ ?_
                          · refine de_tup ?_
                            · refine da_cons ?_ ?_
                              · refine de_tup ?_
                                · refine da_cons ?_ ?_
                                  · exact de_int
                                  · exact da_nil
                              · exact da_nil
                          · exact da_nil
                  · exact da_nil
              · refine da_cons ?_ ?_
                · refine de_tup ?_
                  · refine da_cons ?_ ?_
                    · refine de_tup ?_
                      · refine da_cons ?_ ?_
                        · exact de_int
                        · refine da_cons ?_ ?_
                          · refine de_tup ?_
                            · refine da_cons ?_ ?_
                              · refine de_tup ?_
                                · refine da_cons ?_ ?_
                                  · exact de_int
                                  · exact da_nil
                              · refine da_cons ?_ ?_
                                · refine de_tup ?_
                                  · refine da_cons ?_ ?_
                                    · exact de_int
                                    · exact da_nil
                                · exact da_nil
                          · refine da_cons ?_ ?_
                            · refine de_tup ?_
                              · refine da_cons ?_ ?_
                                · refine de_tup ?_
                                  · refine da_cons ?_ ?_
                                    · exact de_int
                                    · exact da_nil
                                · exact da_nil
                            · exact da_nil
                    · exact da_nil
                · exact da_nil
        · refine de_callG hgd (takes_of rfl rfl rfl rfl) (y_law_draw_ok rfl hKw Tx) (hr.mono (by decide)) rfl Tx.M10 Tx.F10.kp Tx.B10 ?_
          · refine da_cons ?_ ?_
            · exact de_var (pv 0)
            · refine da_cons ?_ ?_
              · exact de_int
              · exact da_nil
    · refine dss_one ?_
      · refine ds_ret ?_
        · refine de_tup ?_
          · refine da_cons ?_ ?_
            · refine de_tup ?_
              · refine da_cons ?_ ?_
                · refine de_tup ?_
                  · refine da_cons ?_ ?_
                    · exact de_int
                    · exact da_nil
                · refine da_cons ?_ ?_
                  · refine de_tup ?_
                    · refine da_cons ?_ ?_
                      · exact de_int
                      · exact da_nil
                  · refine da_cons ?_ ?_
                    · exact de_var (pv 1)
                    · exact da_nil
            · refine da_cons ?_ ?_
              · refine de_op dop_add ?_ ?_
                · refine de_tup ?_
                  · refine da_cons ?_ ?_
                    · refine de_tup ?_
                      · refine da_cons ?_ ?_
                        · exact de_int
                        · refine da_cons ?_ ?_
                          · refine de_tup ?_
                            · refine da_cons ?_ ?_
                              · refine de_tup ?_
                                · refine da_cons ?_ ?_
                                  · exact de_int
                                  · exact da_nil
                              · exact da_nil
                          · refine da_cons ?_ ?_
                            · refine de_tup ?_
                              · refine da_cons ?_ ?_
                                · refine de_tup ?_
                                  · refine da_cons ?_ ?_
                                    · exact de_int
                                    · exact da_nil
                                · exact da_nil
                            · exact da_nil
                    · exact da_nil
                · exact de_var (pv 2)
              · exact da_nil)
end
end K05
namespace K05
open PySem PySem.Spec PyProof.Rows L2 DL
section
variable [KFrag] {P : Program} {w : World} {K : PySem.W.Frag} {mg : Str → Option Value} {base : Heap} {a : Nat → Addr} {d : Nat → FuncData} {T : TX}
theorem y_law_trap_ok (hKF : K = KFrag.K) (hKw : w = KFrag.w) (Tx : Txt K mg a d) : FnG P w K mg base 3 (a 20) (d 20) ["_law_pen_here"] (spD T 1 y_law_trap_r) := by
  subst hKF
  exact fnG (g := y_law_trap_g) Tx.F20 y_law_trap_sc rfl rfl fun cdv A outer s H E hgd hr => (by
  have nd := y_law_trap_sc.nd
  refine dss_cons ?_ ?_
  · refine ds_set (i := 1) nd rfl (by first | exact Or.inl rfl | exact Or.inr rfl) ?_
    · refine de_tup ?_
      · refine da_cons ?_ ?_
        · refine de_tup ?_
          · refine da_cons ?_ ?_
            · exact de_str
            · refine da_cons ?_ ?_
              · exact de_int
              · refine da_cons ?_ ?_
                · exact de_int
                · refine da_cons ?_ ?_
                  · exact de_int
                  · refine da_cons ?_ ?_
                    · refine de_tup ?_
                      · refine da_cons ?_ ?_
                        · exact de_str
                        · refine da_cons ?_ ?_
                          · exact de_int
                          · refine da_cons ?_ ?_
                            · exact de_int
                            · exact da_nil
                    · exact da_nil
        · exact da_nil
  · refine dss_cons ?_ ?_
    · refine ds_set (i := 2) nd rfl (by first | exact Or.inl rfl | exact Or.inr rfl) ?_
      · refine de_tup ?_
        · refine da_cons ?_ ?_
          · refine de_tup ?_
            · refine da_cons ?_ ?_
              · exact de_str
              · refine da_cons ?_ ?_
                · exact de_int
                · refine da_cons ?_ ?_
                  · exact de_int
                  · refine da_cons ?_ ?_
                    · exact de_int
                    · refine da_cons ?_ ?_
                      · refine de_tup ?_
                        · refine da_cons ?_ ?_
                          · exact de_str
                          · refine da_cons ?_ ?_
                            · exact de_int
                            · refine da_cons ?_ ?_
                              · exact de_int
                              · exact da_nil
                      · exact da_nil
          · refine da_cons ?_ ?_
            · refine de_tup ?_
              · refine da_cons ?_ ?_
                · exact de_str
                · refine da_cons ?_ ?_
                  · exact de_int
                  · refine da_cons ?_ ?_
                    · exact de_int
                    · refine da_cons ?_ ?_
                      · exact de_int
                      · refine da_cons ?_ ?_
                        · refine de_tup ?_
                          · refine da_cons ?_ ?_
                            · exact de_str
                            · refine da_cons ?_ ?_
                              · exact de_int
                              · refine da_cons ?_ ?_
                                · exact de_int
                                · exact da_nil
                        · exact da_nil
            · exact da_nil
    · refine dss_cons ?_ ?_
      · refine ds_set (i := 3) nd rfl (by first | exact Or.inl rfl | exact Or.inr rfl) ?_
        · refine de_tup ?_
          · refine da_cons ?_ ?_
            · exact de_var (pv 1)
            · refine da_cons ?_ ?_
              · exact de_var (pv 2)
              · refine da_cons ?_ ?_
                · refine de_tup ?_
                  · refine da_cons ?_ ?_
                    · refine de_tup ?_
                      · refine da_cons ?_ ?_
                        · exact de_str
                        · refine da_cons ?_ ?_
                          · exact de_int
                          · refine da_cons ?_ ?_
                            · exact de_int
                            · exact da_nil
                    · exact da_nil
                · refine da_cons ?_ ?_
                  · refine de_tup ?_
                    · refine da_cons ?_ ?_
                      · refine de_tup ?_
                        · refine da_cons ?_ ?_
                          · exact de_str
                          · refine da_cons ?_ ?_
                            · exact de_int
                            · refine da_cons ?_ ?_
                              · exact de_int
                              · exact da_nil
                      · exact da_nil
                  · refine da_cons ?_ ?_
                    · refine de_tup ?_
                      · refine da_cons ?_ ?_
                        · refine de_tup ?_
                          · refine da_cons ?_ ?_
                            · exact de_str
                            · refine da_cons ?_ ?_
                              · exact de_int
                              · refine da_cons ?_ ?_
                                · exact de_int
                                · exact da_nil
                        · exact da_nil
                    · exact da_nil
      · refine dss_cons ?_ ?_
        · refine ds_set (i := 4) nd rfl (by first | exact Or.inl rfl | exact Or.inr rfl) ?_
          · refine de_ix dix ?_ ?_
            · refine de_lst ?_
              · refine da_cons ?_ ?_
                · refine de_tup ?_
                  · exact da_nil
                · refine da_cons ?_ ?_
                  · refine de_tup ?_
                    · refine da_cons ?_ ?_
                      · refine de_tup ?_
                        · refine da_cons ?_ ?_
                          · exact de_int
                          · refine da_cons ?_ ?_
                            · refine de_tup ?_
                              · refine da_cons ?_ ?_
                                · refine de_tup ?_
                                  · refine da_cons ?_ ?_
                                    · exact de_int
                                    · exact da_nil
                                · exact da_nil
                            · refine da_cons ?_ ?_
                              · refine de_tup ?_
                                · refine da_cons ?_ ?_
                                  · refine de_tup ?_
                                    · refine da_cons ?_ ?_
                                      · exact de_int
                                      · exact da_nil
                                  · exact da_nil
                              · exact da_nil
                      · exact da_nil
                  · exact da_nil
            · refine de_callG hgd (takes_of rfl rfl rfl rfl) (y_law_draw_ok rfl hKw Tx) (hr.mono (by decide)) rfl Tx.M10 Tx.F10.kp Tx.B10 ?_
              · refine da_cons ?_ ?_
                · exact de_var (pv 0)
                · refine da_cons ?_ ?_
                  · exact de_int
                  · exact da_nil
        · refine dss_one ?_
          · refine ds_ret ?_
            · refine de_tup ?_
              · refine da_cons ?_ ?_
                · refine de_tup ?_
                  · refine da_cons ?_ ?_
                    · refine de_tup ?_
                      · refine da_cons ?_ ?_
                        · exact de_int
                        · exact da_nil
                    · refine da_cons ?_ ?_
                      · refine de_tup ?_
                        · refine da_cons ?_ ?_
                          · exact de_int
                          · exact da_nil
                      · refine da_cons ?_ ?_
                        · exact de_var (pv 3)
                        · exact da_nil
                · refine da_cons ?_ ?_
                  · refine de_op dop_add ?_ ?_
                    · refine de_tup ?_
                      · refine da_cons ?_ ?_
                        · refine de_tup ?_
                          · refine da_cons ?_ ?_
                            · exact de_int
                            · refine da_cons ?_ ?_
                              · refine de_tup ?_
                                · refine da_cons ?_ ?_
                                  · refine de_tup ?_
                                    · refine da_cons ?_ ?_
                                      · exact de_int
                                      · exact da_nil
                                  · exact da_nil
                              · refine da_cons ?_ ?_
                                · refine de_tup ?_
                                  · refine da_cons ?_ ?_
                                    · refine de_tup ?_
                                      · refine da_cons ?_ ?_
                                        · exact de_int
                                        · exact da_nil
                                    · exact da_nil
                                · exact da_nil
                        · refine da_cons ?_ ?_
                          · refine de_tup ?_
                            · refine da_cons ?_ ?_
                              · exact de_int
                              · refine da_cons ?_ ?_
                                · refine de_tup ?_
                                  · refine da_cons ?_ ?_
                                    · refine de_tup ?_
                                      · refine da_cons ?_ ?_
                                        · exact de_int
                                        · exact da_nil
                                    · exact da_nil
                                · refine da_cons ?_ ?_
                                  · refine de_tup ?_
                                    · refine da_cons ?_ ?_
                                      · refine de_tup ?_
                                        · refine da_cons ?_ ?_
                                          · exact de_int
                                          · exact da_nil
                                      · exact da_nil
                                  · exact da_nil
                          · exact da_nil
                    · exact de_var (pv 4)
                  · exact da_nil)
end
end K05
namespace K05
open PySem PySem.Spec PyProof.Rows L2 DL
section
variable [KFrag] {P : Program} {w : World} {K : PySem.W.Frag} {mg : Str → Option Value} {base : Heap} {a : Nat → Addr} {d : Nat → FuncData} {T : TX}
theorem y_law_deep_ok (hKF : K = KFrag.K) (hKw : w = KFrag.w) (Tx : Txt K mg a d) : FnG P w K mg base 1 (a 21) (d 21) ["_law_pen_here"] (spD T 1 y_law_deep_r) := by
  subst hKF
  exact fnG (g := y_law_deep_g) Tx.F21 y_law_deep_sc rfl rfl fun cdv A outer s H E hgd hr => (by
  have nd := y_law_deep_sc.nd
  refine dss_cons ?_ ?_
  · refine ds_set (i := 1) nd rfl (by first | exact Or.inl rfl | exact Or.inr rfl) ?_
    · refine de_tup ?_
      · refine da_cons ?_ ?_
        · refine de_tup ?_
          · refine da_cons ?_ ?_
            · exact de_str
            · refine da_cons ?_ ?_
              · exact de_int
              · refine da_cons ?_ ?_
                · exact de_int
                · refine da_cons ?_ ?_
                  · exact de_int
                  · refine da_cons ?_ ?_
                    · refine de_tup ?_
                      · refine da_cons ?_ ?_
                        · exact de_str
                        · refine da_cons ?_ ?_
                          · exact de_int
                          · refine da_cons ?_ ?_
                            · exact de_int
                            · exact da_nil
                    · exact da_nil
        · refine da_cons ?_ ?_
          · refine de_tup ?_
            · refine da_cons ?_ ?_
              · exact de_str
              · refine da_cons ?_ ?_
                · exact de_int
                · refine da_cons ?_ ?_
                  · exact de_int
                  · refine da_cons ?_ ?_
                    · exact de_int
                    · refine da_cons ?_ ?_
                      · refine de_tup ?_
                        · refine da_cons ?_ ?_
                          · exact de_str
                          · refine da_cons ?_ ?_
                            · exact de_int
                            · refine da_cons ?_ ?_
                              · exact de_int
                              · exact da_nil
                      · exact da_nil
          · exact da_nil
  · refine dss_cons ?_ ?_
    · refine ds_set (i := 2) nd rfl (by first | exact Or.inl rfl | exact Or.inr rfl) ?_
      · refine de_tup ?_
        · refine da_cons ?_ ?_
          · refine de_tup ?_
            · refine da_cons ?_ ?_
              · exact de_int
              · exact da_nil
          · refine da_cons ?_ ?_
            · refine de_tup ?_
              · refine da_cons ?_ ?_
                · exact de_int
                · exact da_nil
            · refine da_cons ?_ ?_
              · refine de_tup ?_
                · refine da_cons ?_ ?_
                  · refine de_tup ?_
                    · refine da_cons ?_ ?_
                      · refine de_tup ?_
                        · refine da_cons ?_ ?_
                          · exact de_str
                          · refine da_cons ?_ ?_
                            · exact de_int
                            · refine da_cons ?_ ?_
                              · exact de_int
                              · exact da_nil
                      · exact da_nil
                  · refine da_cons ?_ ?_
                    · exact de_var (pv 1)
                    · refine da_cons ?_ ?_
                      · exact de_var (pv 1)
                      · exact da_nil
              · exact da_nil
    · refine dss_one ?_
      · refine ds_ret ?_
        · refine de_tup ?_
          · refine da_cons ?_ ?_
            · exact de_var (pv 2)
            · refine da_cons ?_ ?_
              · refine de_tup ?_
                · refine da_cons ?_ ?_
                  · refine de_tup ?_
                    · refine da_cons ?_ ?_
                      · exact de_int
                      · refine da_cons ?_ ?_
                        · refine de_tup ?_
                          · refine da_cons ?_ ?_
                            · refine de_tup ?_
                              · refine da_cons ?_ ?_
                                · exact de_int
                                · exact da_nil
                            · exact da_nil
                        · refine da_cons ?_ ?_
                          · refine de_tup ?_
                            · refine da_cons ?_ ?_
                              · refine de_tup ?_
                                · refine da_cons ?_ ?_
                                  · exact de_int
                                  · exact da_nil
                              · exact da_nil
                          · exact da_nil
                  · refine da_cons ?_ ?_
                    · refine de_tup ?_
                      · refine da_cons ?_ ?_
                        · exact de_int
                        · refine da_cons ?_ ?_
                          · refine de_tup ?_
                            · refine da_cons ?_ ?_
                              · refine de_tup ?_
                                · refine da_cons ?_ ?_
                                  · exact de_int
                                  · exact da_nil
                              · exact da_nil
                          · refine da_cons ?_ ?_
                            · refine de_tup ?_
                              · refine da_cons ?_ ?_
                                · refine de_tup ?_
                                  · refine da_cons ?_ ?_
                                    · exact de_int
                                    · exact da_nil
                                · exact da_nil
                            · exact da_nil
                    · exact da_nil
              · exact da_nil)
end
end K05
namespace K05
open PySem PySem.Spec PyProof.Rows L2 DL
section
variable [KFrag] {P : Program} {w : World} {K : PySem.W.Frag} {mg : Str → Option Value} {base : Heap} {a : Nat → Addr} {d : Nat → FuncData} {T : TX}
theorem y_law_contents_ok (hKF : K = KFrag.K) (hKw : w = KFrag.w) (Tx : Txt K mg a d) : FnG P w K mg base 1 (a 24) (d 24) ["_law_house"] (spD T 1 y_law_contents_r) := by
  subst hKF
  exact fnG (g := y_law_contents_g) Tx.F24 y_law_contents_sc rfl rfl fun cdv A outer s H E hgd hr => (by
  have nd := y_law_contents_sc.nd
  refine dss_cons ?_ ?_
  · refine ds_set (i := 1) nd rfl (by first | exact Or.inl rfl | exact Or.inr rfl) ?_
    · refine de_lst ?_
      · refine da_cons ?_ ?_
        · refine de_tup ?_
          · exact da_nil
        · exact da_nil
  · refine dss_cons ?_ ?_
    · refine ds_for (is := [2]) (passes_of rfl) rfl ?_ ?_ ?_
      · refine di_seq ?_
        · refine de_ix dix ?_ ?_
          · exact de_var (pv 0)
          · exact de_int
      · exact dg_name (pg_name (i := 2) nd rfl (by first | exact Or.inl rfl | exact Or.inr rfl))
      · refine dss_cons ?_ ?_
        · refine ds_set (i := 3) nd rfl (by first | exact Or.inl rfl | exact Or.inr rfl) ?_
          · refine de_new ?_
            · exact da_nil
        · refine dss_cons ?_ ?_
          · refine ds_for (is := [4]) (passes_of rfl) rfl ?_ ?_ ?_
            · refine di_seq ?_
              · exact de_var (pv 1)
            · exact dg_name (pg_name (i := 4) nd rfl (by first | exact Or.inl rfl | exact Or.inr rfl))
            · refine dss_one ?_
              · refine ds_ext (de_var (pv 3)) ?_
                · refine de_lc (is := [5]) (own := [("_law_value", 5)]) rfl nd ?_ (blkOk_by (N := y_law_contents_N) (sc := defScope y_law_contents_s) (own := [("_law_value", 5)]) (by decide +kernel)) (by decide) ?_ ?_ ?_
                  · refine di_rng1 rfl Tx.z_range ?_
                    · exact de_var (pv 2)
                  · refine fun _ _ _ _ _ => ?_
                    · exact dg_name (pg_name (i := 5) nd rfl (by first | exact Or.inl rfl | exact Or.inr rfl))
                  · refine fun _ _ _ _ _ => ?_
                    · exact dts_nil
                  · refine fun _ _ _ _ _ => ?_
                    · refine de_op dop_add ?_ ?_
                      · exact de_var (pv 4)
                      · refine de_tup ?_
                        · refine da_cons ?_ ?_
                          · exact de_var (pv 5)
                          · exact da_nil
          · refine dss_one ?_
            · refine ds_set (i := 1) nd rfl (by first | exact Or.inl rfl | exact Or.inr rfl) ?_
              · exact de_frz (pv 3)
    · refine dss_one ?_
      · refine ds_ret ?_
        · exact de_var (pv 1))
end
end K05
namespace K05
open PySem PySem.Spec PyProof.Rows L2 DL
section
variable [KFrag] {P : Program} {w : World} {K : PySem.W.Frag} {mg : Str → Option Value} {base : Heap} {a : Nat → Addr} {d : Nat → FuncData} {T : TX}
theorem y_law_rules_ok (hKF : K = KFrag.K) (hKw : w = KFrag.w) (Tx : Txt K mg a d) : FnG P w K mg base 4 (a 22) (d 22) ["_law_pen_here", "_law_house", "_law_most"] (spD T 3 y_law_rules_r) := by
  subst hKF
  exact fnG (g := y_law_rules_g) Tx.F22 y_law_rules_sc rfl rfl fun cdv A outer s H E hgd hr => (by
  have nd := y_law_rules_sc.nd
  refine dss_cons ?_ ?_
  · refine ds_set (i := 3) nd rfl (by first | exact Or.inl rfl | exact Or.inr rfl) ?_
    · refine de_new ?_
      · exact da_nil
  · refine dss_cons ?_ ?_
    · refine ds_for (is := [4]) (passes_of rfl) rfl ?_ ?_ ?_
      · refine di_rng1 rfl Tx.z_range ?_
        · refine de_callG hgd (takes_of rfl rfl rfl rfl) (y_law_draw_ok rfl hKw Tx) (hr.mono (by decide)) rfl Tx.M10 Tx.F10.kp Tx.B10 ?_
          · refine da_cons ?_ ?_
            · exact de_var (pv 0)
            · refine da_cons ?_ ?_
              · refine de_op dop_add ?_ ?_
                · exact de_var (pv 2)
                · exact de_int
              · exact da_nil
      · exact dg_name (pg_name (i := 4) nd rfl (by first | exact Or.inl rfl | exact Or.inr rfl))
      · refine dss_cons ?_ ?_
        · refine ds_set (i := 5) nd rfl (by first | exact Or.inl rfl | exact Or.inr rfl) ?_
          · refine de_new ?_
            · exact da_nil
        · refine dss_cons ?_ ?_
          · refine ds_for (is := [6]) (passes_of rfl) rfl ?_ ?_ ?_
            · refine di_rng1 rfl Tx.z_range ?_
              · exact de_int
            · exact dg_name (pg_name (i := 6) nd rfl (by first | exact Or.inl rfl | exact Or.inr rfl))
            · refine dss_cons ?_ ?_
              · refine ds_setLc (i := 7) (is := [8]) (own := [("_law_content", 8)]) rfl nd rfl rfl (sw_true rfl rfl rfl (by decide +kernel)) ?_ (blkOk_by (N := y_law_rules_N) (sc := defScope y_law_rules_s) (own := [("_law_content", 8)]) (by decide +kernel)) (by decide) ?_ ?_ ?_
                · refine di_seq ?_
                  · refine de_callPG hgd (takes_of rfl rfl rfl rfl) (y_law_contents_ok rfl hKw Tx) (hr.mono (by decide)) rfl Tx.M24 Tx.F24.kp Tx.B24 ?_
                    · refine da_cons ?_ ?_
                      · exact de_var (pv 1)
                      · exact da_nil
                · refine fun _ _ _ _ _ => ?_
                  · exact dg_name (pg_name (i := 8) nd rfl (by first | exact Or.inl rfl | exact Or.inr rfl))
                · refine fun _ _ _ _ _ => ?_
                  · refine dts_one ?_
                    · refine dt_cmp (dop_eq hr.units) ?_ ?_
                      · refine de_callG hgd takes0 (y_law_draw_ok rfl hKw Tx) (hr.mono (by decide)) rfl Tx.M10 Tx.F10.kp Tx.B10 ?_
                        · refine da_cons ?_ ?_
                          · exact de_var (pv 0)
                          · refine da_cons ?_ ?_
                            · exact de_int
                            · exact da_nil
                      · exact de_int
                · refine fun _ _ _ _ _ => ?_
                  · exact de_var (pv 8)
              · refine dss_one ?_
                · refine ds_app (de_var (pv 5)) ?_
                  · refine de_if ?_ ?_ ?_
                    · refine dt_cmp (dop_ne hr.units) ?_ ?_
                      · exact de_var (pv 7)
                      · refine de_lst ?_
                        · exact da_nil
                    · refine de_callTy dc_tuple rfl Tx.z_tuple PyProof.Rows.boot_tuple ?_
                      · refine da_cons ?_ ?_
                        · exact de_var (pv 7)
                        · exact da_nil
                    · refine de_tup ?_
                      · refine da_cons ?_ ?_
                        · refine de_callG hgd (takes_of rfl rfl rfl rfl) (y_law_one_of_ok rfl hKw Tx) (hr.mono (by decide)) rfl Tx.M11 Tx.F11.kp Tx.B11 ?_
                          · refine da_cons ?_ ?_
                            · exact de_var (pv 0)
                            · refine da_cons ?_ ?_
                              · refine de_callPG hgd (takes_of rfl rfl rfl rfl) (y_law_contents_ok rfl hKw Tx) (hr.mono (by decide)) rfl Tx.M24 Tx.F24.kp Tx.B24 ?_
                                · refine da_cons ?_ ?_
                                  · exact de_var (pv 1)
                                  · exact da_nil
                              · exact da_nil
                        · exact da_nil
          · refine dss_one ?_
            · refine ds_app (de_var (pv 3)) ?_
              · refine de_tup ?_
                · refine da_cons ?_ ?_
                  · refine de_callG hgd (takes_of rfl rfl rfl rfl) (y_law_draw_ok rfl hKw Tx) (hr.mono (by decide)) rfl Tx.M10 Tx.F10.kp Tx.B10 ?_
                    · refine da_cons ?_ ?_
                      · exact de_var (pv 0)
                      · refine da_cons ?_ ?_
                        · refine de_op dop_add ?_ ?_
                          · refine de_callB dc_len rfl Tx.z_len PySem.boot_len ?_
                            · refine da_cons ?_ ?_
                              · refine de_ix dix ?_ ?_
                                · exact de_var (pv 1)
                                · exact de_int
                              · exact da_nil
                          · exact de_int
                        · exact da_nil
                  · refine da_cons ?_ ?_
                    · refine de_ixA ?_ ?_
                      · exact de_var (pv 5)
                      · exact de_int
                    · refine da_cons ?_ ?_
                      · refine de_ixA ?_ ?_
                        · exact de_var (pv 5)
                        · exact de_int
                      · exact da_nil
    · refine dss_one ?_
      · refine ds_ret ?_
        · refine de_callTy dc_tuple rfl Tx.z_tuple PyProof.Rows.boot_tuple ?_
          · refine da_cons ?_ ?_
            · exact de_frz (pv 3)
            · exact da_nil)
end
end K05
namespace K05
open PySem PySem.Spec PyProof.Rows L2 DL
section
variable [KFrag] {P : Program} {w : World} {K : PySem.W.Frag} {mg : Str → Option Value} {base : Heap} {a : Nat → Addr} {d : Nat → FuncData} {T : TX}
theorem y_law_pair_ok (hKF : K = KFrag.K) (hKw : w = KFrag.w) (Tx : Txt K mg a d) : FnG P w K mg base 9 (a 23) (d 23) ["_law_pen_here"] (spD T 1 y_law_pair_r) := by
  subst hKF
  exact fnG (g := y_law_pair_g) Tx.F23 y_law_pair_sc rfl rfl fun cdv A outer s H E hgd hr => (by
  have nd := y_law_pair_sc.nd
  refine dss_cons ?_ ?_
  · refine ds_set (i := 1) nd rfl (by first | exact Or.inl rfl | exact Or.inr rfl) ?_
    · refine de_callG hgd (takes_of rfl rfl rfl rfl) (y_law_draw_ok rfl hKw Tx) (hr.mono (by decide)) rfl Tx.M10 Tx.F10.kp Tx.B10 ?_
      · refine da_cons ?_ ?_
        · exact de_var (pv 0)
        · refine da_cons ?_ ?_
          · exact de_int
          · exact da_nil
  · refine dss_cons ?_ ?_
    · refine ds_if ?_ ?_ ?_
      · refine dt_cmp dop_lt ?_ ?_
        · exact de_var (pv 1)
        · exact de_int
      · refine dss_one ?_
        · refine ds_ret ?_
          · refine de_sel (m := 1) [(_, y_law_wide_r), (_, y_law_trap_r), (_, y_law_deep_r)] hgd (takes_of rfl rfl rfl rfl) (hld_cons (hld_of (y_law_wide_ok rfl hKw Tx) (hr.mono (by decide)) Tx.F19.kp Tx.B19) (hld_cons (hld_of (y_law_trap_ok rfl hKw Tx) (hr.mono (by decide)) Tx.F20.kp Tx.B20) (hld_cons (hld_of (y_law_deep_ok rfl hKw Tx) (hr.mono (by decide)) Tx.F21.kp Tx.B21) hld_nil))) (Nat.le_of_ble_eq_true rfl) (pn_cons rfl Tx.M19 (pn_cons rfl Tx.M20 (pn_cons rfl Tx.M21 pn_nil))) ?_ ?_
            · exact de_var (pv 1)
            · refine da_cons ?_ ?_
              · exact de_var (pv 0)
              · exact da_nil
      · exact dss_nil
    · refine dss_cons ?_ ?_
      · refine ds_set (i := 2) nd rfl (by first | exact Or.inl rfl | exact Or.inr rfl) ?_
        · refine de_if ?_ ?_ ?_
          · refine dt_cmp dop_lt ?_ ?_
            · exact de_var (pv 1)
            · exact de_int
          · refine de_callG hgd (takes_of rfl rfl rfl rfl) (y_law_small_house_ok rfl hKw Tx) (hr.mono (by decide)) rfl Tx.M18 Tx.F18.kp Tx.B18 ?_
            · refine da_cons ?_ ?_
              · exact de_var (pv 0)
              · exact da_nil
          · refine de_callG hgd (takes_of rfl rfl rfl rfl) (y_law_some_house_ok rfl hKw Tx) (hr.mono (by decide)) rfl Tx.M17 Tx.F17.kp Tx.B17 ?_
            · refine da_cons ?_ ?_
              · exact de_var (pv 0)
              · exact da_nil
      · refine dss_one ?_
        · refine ds_ret ?_
          · refine de_tup ?_
            · refine da_cons ?_ ?_
              · exact de_var (pv 2)
              · refine da_cons ?_ ?_
                · refine de_callG hgd (takes_of rfl rfl rfl rfl) (y_law_rules_ok rfl hKw Tx) (hr.mono (by decide)) rfl Tx.M22 Tx.F22.kp Tx.B22 ?_
                  · refine da_cons ?_ ?_
                    · exact de_var (pv 0)
                    · refine da_cons ?_ ?_
                      · exact de_var (pv 2)
                      · refine da_cons ?_ ?_
                        · exact de_int
                        · exact da_nil
                · exact da_nil)
end
end K05
namespace K05
open PySem PySem.Spec PyProof.Rows L2 DL
section
variable [KFrag] {P : Program} {w : World} {K : PySem.W.Frag} {mg : Str → Option Value} {base : Heap} {a : Nat → Addr} {d : Nat → FuncData} {T : TX}
theorem y_law_stepped_ok (hKF : K = KFrag.K) (hKw : w = KFrag.w) (Tx : Txt K mg a d) : FnG P w K mg base 1 (a 25) (d 25) ["_law_sizes_here", "_law_cells", "_law_step_here"] (spD T 3 y_law_stepped_r) := by
  subst hKF
  exact fnG (g := y_law_stepped_g) Tx.F25 y_law_stepped_sc rfl rfl fun cdv A outer s H E hgd hr => (by
  have nd := y_law_stepped_sc.nd
  refine dss_cons ?_ ?_
  · refine ds_asg (is := [3, 4, 5]) ?_ ?_
    · exact de_var (pv 2)
    · refine dgT rfl ?_
      · refine dgsC (is := [3]) (js := [4, 5]) ?_ ?_
        · exact dg_name (pg_name (i := 3) nd rfl (by first | exact Or.inl rfl | exact Or.inr rfl))
        · refine dgsC (is := [4]) (js := [5]) ?_ ?_
          · exact dg_name (pg_name (i := 4) nd rfl (by first | exact Or.inl rfl | exact Or.inr rfl))
          · refine dgsC (is := [5]) (js := []) ?_ ?_
            · exact dg_name (pg_name (i := 5) nd rfl (by first | exact Or.inl rfl | exact Or.inr rfl))
            · exact dgs_nil
  · refine dss_one ?_
    · refine ds_if ?_ ?_ ?_
      · refine dt_cmp (dop_eq hr.units) ?_ ?_
        · exact de_var (pv 3)
        · exact de_str
      · refine dss_one ?_
        · refine ds_put ?_ (de_var (pv 1)) ?_
          · exact de_var (pv 5)
          · exact de_var (pv 4)
      · refine dss_one ?_
        · refine ds_if ?_ ?_ ?_
          · refine dt_cmp (dop_eq hr.units) ?_ ?_
            · exact de_var (pv 3)
            · exact de_str
          · refine dss_one ?_
            · refine ds_put ?_ (de_var (pv 1)) ?_
              · refine de_callB (dc_max2 rfl) rfl Tx.z_max PyProof.Rows.boot_max ?_
                · refine da_cons ?_ ?_
                  · refine de_ixA ?_ ?_
                    · exact de_var (pv 1)
                    · exact de_var (pv 4)
                  · refine da_cons ?_ ?_
                    · exact de_var (pv 5)
                    · exact da_nil
              · exact de_var (pv 4)
          · refine dss_one ?_
            · refine ds_if ?_ ?_ ?_
              · refine dt_cmp (dop_eq hr.units) ?_ ?_
                · exact de_var (pv 3)
                · exact de_str
              · refine dss_one ?_
                · refine ds_put ?_ (de_var (pv 1)) ?_
                  · refine de_callB (dc_minA rfl) rfl Tx.z_min PyProof.Rows.boot_min ?_
                    · refine da_cons ?_ ?_
                      · refine de_ixA ?_ ?_
                        · exact de_var (pv 1)
                        · exact de_var (pv 4)
                      · refine da_cons ?_ ?_
                        · exact de_var (pv 5)
                        · exact da_nil
                  · exact de_var (pv 4)
              · refine dss_one ?_
                · refine ds_put ?_ (de_var (pv 1)) ?_
                  · refine de_callB (dc_minA rfl) rfl Tx.z_min PyProof.Rows.boot_min ?_
                    · refine da_cons ?_ ?_
                      · refine de_ixA ?_ ?_
                        · exact de_var (pv 1)
                        · exact de_var (pv 5)
                      · refine da_cons ?_ ?_
                        · refine de_op dop_sub ?_ ?_
                          · refine de_ix dix ?_ ?_
                            · exact de_var (pv 0)
                            · exact de_var (pv 4)
                          · exact de_int
                        · exact da_nil
                  · exact de_var (pv 4))
end
end K05
namespace K05
open PySem PySem.Spec PyProof.Rows L2 DL
section
variable [KFrag] {P : Program} {w : World} {K : PySem.W.Frag} {mg : Str → Option Value} {base : Heap} {a : Nat → Addr} {d : Nat → FuncData} {T : TX}
theorem y_law_made_ok (hKF : K = KFrag.K) (hKw : w = KFrag.w) (Tx : Txt K mg a d) : FnG P w K mg base 2 (a 26) (d 26) ["_law_house", "_law_content", "_law_kind_here"] (spD T 3 y_law_made_r) := by
  subst hKF
  exact fnG (g := y_law_made_g) Tx.F26 y_law_made_sc rfl rfl fun cdv A outer s H E hgd hr => (by
  have nd := y_law_made_sc.nd
  refine dss_cons ?_ ?_
  · refine ds_set (i := 3) nd rfl (by first | exact Or.inl rfl | exact Or.inr rfl) ?_
    · refine de_newL rfl Tx.z_list ?_
      · refine da_cons ?_ ?_
        · exact de_var (pv 1)
        · exact da_nil
  · refine dss_cons ?_ ?_
    · refine ds_for (is := [4]) (passes_of rfl) rfl ?_ ?_ ?_
      · refine di_seq ?_
        · refine de_ix dix ?_ ?_
          · refine de_ix dix ?_ ?_
            · exact de_var (pv 0)
            · exact de_int
          · exact de_var (pv 2)
      · exact dg_name (pg_name (i := 4) nd rfl (by first | exact Or.inl rfl | exact Or.inr rfl))
      · refine dss_one ?_
        · refine ds_if ?_ ?_ ?_
          · refine dt_cmp (dop_ne hr.units) ?_ ?_
            · refine de_ix dix ?_ ?_
              · exact de_var (pv 4)
              · exact de_int
            · exact de_str
          · refine dss_one ?_
            · refine ds_expr ?_
              · refine de_callG hgd (takes_of rfl rfl rfl rfl) (y_law_stepped_ok rfl hKw Tx) (hr.mono (by decide)) rfl Tx.M25 Tx.F25.kp Tx.B25 ?_
                · refine da_cons ?_ ?_
                  · refine de_ix dix ?_ ?_
                    · exact de_var (pv 0)
                    · exact de_int
                  · refine da_cons ?_ ?_
                    · exact de_var (pv 3)
                    · refine da_cons ?_ ?_
                      · exact de_var (pv 4)
                      · exact da_nil
          · refine dss_one ?_
            · refine ds_if ?_ ?_ ?_
              · refine dt_chain dop_le dop_le ?_ ?_ ?_
                · refine de_ix dix ?_ ?_
                  · exact de_var (pv 4)
                  · exact de_int
                · refine de_ixA ?_ ?_
                  · exact de_var (pv 3)
                  · refine de_ix dix ?_ ?_
                    · exact de_var (pv 4)
                    · exact de_int
                · refine de_ix dix ?_ ?_
                  · exact de_var (pv 4)
                  · exact de_int
              · refine dss_one ?_
                · refine ds_expr ?_
                  · refine de_callG hgd (takes_of rfl rfl rfl rfl) (y_law_stepped_ok rfl hKw Tx) (hr.mono (by decide)) rfl Tx.M25 Tx.F25.kp Tx.B25 ?_
                    · refine da_cons ?_ ?_
                      · refine de_ix dix ?_ ?_
                        · exact de_var (pv 0)
                        · exact de_int
                      · refine da_cons ?_ ?_
                        · exact de_var (pv 3)
                        · refine da_cons ?_ ?_
                          · refine de_ix dix ?_ ?_
                            · exact de_var (pv 4)
                            · exact de_int
                          · exact da_nil
              · exact dss_nil
    · refine dss_one ?_
      · refine ds_ret ?_
        · refine de_callTy dc_tuple rfl Tx.z_tuple PyProof.Rows.boot_tuple ?_
          · refine da_cons ?_ ?_
            · exact de_frz (pv 3)
            · exact da_nil)
end
end K05
namespace K05
open PySem PySem.Spec PyProof.Rows L2 DL
section
variable [KFrag] {P : Program} {w : World} {K : PySem.W.Frag} {mg : Str → Option Value} {base : Heap} {a : Nat → Addr} {d : Nat → FuncData} {T : TX}
theorem y_law_steps_to_ok (hKF : K = KFrag.K) (hKw : w = KFrag.w) (Tx : Txt K mg a d) : FnG P w K mg base 3 (a 27) (d 27) ["_law_house"] (spD T 1 y_law_steps_to_r) := by
  subst hKF
  exact fnG (g := y_law_steps_to_g) Tx.F27 y_law_steps_to_sc rfl rfl fun cdv A outer s H E hgd hr => (by
  have nd := y_law_steps_to_sc.nd
  refine dss_cons ?_ ?_
  · refine ds_par2 (i := 1) (j := 2) rfl nd rfl rfl (by decide) rfl rfl ?_ rfl
    · refine da_cons ?_ ?_
      · refine de_dict1 hKw rfl hr.units rfl Tx.z_dict ?_ ?_
        · refine de_ix dix ?_ ?_
          · exact de_var (pv 0)
          · exact de_int
        · exact de_int
      · refine da_cons ?_ ?_
        · refine de_new ?_
          · refine da_cons ?_ ?_
            · refine de_ix dix ?_ ?_
              · exact de_var (pv 0)
              · exact de_int
            · exact da_nil
        · exact da_nil
  · refine dss_cons ?_ ?_
    · refine ds_while 4096 (passes_of rfl) ?_ ?_
      · refine dt_cmpP (dop_ne hr.units) ?_ ?_
        · exact de_var (pv 2)
        · refine de_lst ?_
          · exact da_nil
      · refine dss_cons ?_ ?_
        · refine ds_set (i := 3) nd rfl (by first | exact Or.inl rfl | exact Or.inr rfl) ?_
          · refine de_popI ?_ ?_
            · exact de_var (pv 2)
            · exact de_int
        · refine dss_one ?_
          · refine ds_for (is := [4]) (passes_of rfl) rfl ?_ ?_ ?_
            · refine di_rng1 rfl Tx.z_range ?_
              · refine de_callB dc_len rfl Tx.z_len PySem.boot_len ?_
                · refine da_cons ?_ ?_
                  · refine de_ix dix ?_ ?_
                    · exact de_var (pv 0)
                    · exact de_int
                  · exact da_nil
            · exact dg_name (pg_name (i := 4) nd rfl (by first | exact Or.inl rfl | exact Or.inr rfl))
            · refine dss_cons ?_ ?_
              · refine ds_set (i := 5) nd rfl (by first | exact Or.inl rfl | exact Or.inr rfl) ?_
                · refine de_callPG hgd (takes_of rfl rfl rfl rfl) (y_law_made_ok rfl hKw Tx) (hr.mono (by decide)) rfl Tx.M26 Tx.F26.kp Tx.B26 ?_
                  · refine da_cons ?_ ?_
                    · exact de_var (pv 0)
                    · refine da_cons ?_ ?_
                      · exact de_var (pv 3)
                      · refine da_cons ?_ ?_
                        · exact de_var (pv 4)
                        · exact da_nil
              · refine dss_one ?_
                · refine ds_if ?_ ?_ ?_
                  · refine dt_dnin hKw hr.units ?_ ?_
                    · exact de_var (pv 5)
                    · exact de_var (pv 1)
                  · refine dss_cons ?_ ?_
                    · refine ds_dput hKw hr.units ?_ ?_ ?_
                      · refine de_op dop_add ?_ ?_
                        · refine de_dget hKw hr.units ?_ ?_
                          · exact de_var (pv 1)
                          · exact de_var (pv 3)
                        · exact de_int
                      · exact de_var (pv 1)
                      · exact de_var (pv 5)
                    · refine dss_one ?_
                      · refine ds_app (de_var (pv 2)) ?_
                        · exact de_var (pv 5)
                  · exact dss_nil
    · refine dss_one ?_
      · refine ds_ret ?_
        · exact de_frzD (pv 1))
end
end K05
namespace K05
open PySem PySem.Spec PyProof.Rows L2 DL
section
variable [KFrag] {P : Program} {w : World} {K : PySem.W.Frag} {mg : Str → Option Value} {base : Heap} {a : Nat → Addr} {d : Nat → FuncData} {T : TX}
theorem y_law_right_ok (hKF : K = KFrag.K) (hKw : w = KFrag.w) (Tx : Txt K mg a d) : FnG P w K mg base 8 (a 28) (d 28) ["_law_house"] (spD T 1 y_law_right_r) := by
  subst hKF
  exact fnG (g := y_law_right_g) Tx.F28 y_law_right_sc rfl rfl fun cdv A outer s H E hgd hr => (by
  have nd := y_law_right_sc.nd
  refine dss_cons ?_ ?_
  · refine ds_set (i := 1) nd rfl (by first | exact Or.inl rfl | exact Or.inr rfl) ?_
    · refine de_callG hgd (takes_of rfl rfl rfl rfl) (y_law_steps_to_ok rfl hKw Tx) (hr.mono (by decide)) rfl Tx.M27 Tx.F27.kp Tx.B27 ?_
      · refine da_cons ?_ ?_
        · exact de_var (pv 0)
        · exact da_nil
  · refine dss_cons ?_ ?_
    · refine ds_if ?_ ?_ ?_
      · refine dt_cmp (dop_ne hr.units) ?_ ?_
        · refine de_callB (dc_repr hgd hr.units) rfl Tx.z_repr PyProof.Rows.bootS_repr ?_
          · refine da_cons ?_ ?_
            · refine de_callPG hgd (takes_of rfl rfl rfl rfl) (xcome_to_ok rfl hKw Tx) (hr.mono (by decide)) rfl Tx.M0 Tx.F0.kp Tx.B0 ?_
              · refine da_cons ?_ ?_
                · exact de_var (pv 0)
                · exact da_nil
            · exact da_nil
        · refine de_callB (dc_repr hgd hr.units) rfl Tx.z_repr PyProof.Rows.bootS_repr ?_
          · refine da_cons ?_ ?_
            · refine de_callTy dc_tuple rfl Tx.z_tuple PyProof.Rows.boot_tuple ?_
              · refine da_cons ?_ ?_
                · refine de_srt hKw rfl hr.units rfl Tx.z_sorted PyProof.Rows.boot_sorted ?_
                  · refine da_cons ?_ ?_
                    · exact de_var (pv 1)
                    · exact da_nil
                · exact da_nil
            · exact da_nil
      · refine dss_one ?_
        · refine ds_ret ?_
          · exact de_bool
      · exact dss_nil
    · refine dss_cons ?_ ?_
      · refine ds_for (is := [2]) (passes_of rfl) rfl ?_ ?_ ?_
        · refine di_seq ?_
          · refine de_callPG hgd (takes_of rfl rfl rfl rfl) (y_law_contents_ok rfl hKw Tx) (hr.mono (by decide)) rfl Tx.M24 Tx.F24.kp Tx.B24 ?_
            · refine da_cons ?_ ?_
              · exact de_var (pv 0)
              · exact da_nil
        · exact dg_name (pg_name (i := 2) nd rfl (by first | exact Or.inl rfl | exact Or.inr rfl))
        · refine dss_cons ?_ ?_
          · refine ds_set (i := 3) nd rfl (by first | exact Or.inl rfl | exact Or.inr rfl) ?_
            · refine de_callPG hgd (takes_of rfl rfl rfl rfl) (xrow_to_ok rfl hKw Tx) (hr.mono (by decide)) rfl Tx.M1 Tx.F1.kp Tx.B1 ?_
              · refine da_cons ?_ ?_
                · exact de_var (pv 0)
                · refine da_cons ?_ ?_
                  · exact de_var (pv 2)
                  · exact da_nil
          · refine dss_cons ?_ ?_
            · refine ds_if ?_ ?_ ?_
              · refine dt_cmp (dop_ne hr.units) ?_ ?_
                · refine de_isN ?_
                  · exact de_var (pv 3)
                · refine de_dnin hKw hr.units ?_ ?_
                  · exact de_var (pv 2)
                  · exact de_var (pv 1)
              · refine dss_one ?_
                · refine ds_ret ?_
                  · exact de_bool
              · exact dss_nil
            · refine dss_one ?_
              · refine ds_if ?_ ?_ ?_
                · refine dt_isNN ?_
                  · exact de_var (pv 3)
                · refine dss_cons ?_ ?_
                  · refine ds_set (i := 4) nd rfl (by first | exact Or.inl rfl | exact Or.inr rfl) ?_
                    · refine de_ix dix ?_ ?_
                      · exact de_var (pv 0)
                      · exact de_int
                  · refine dss_cons ?_ ?_
                    · refine ds_for (is := [5]) (passes_of rfl) rfl ?_ ?_ ?_
                      · refine di_seq ?_
                        · exact de_var (pv 3)
                      · exact dg_name (pg_name (i := 5) nd rfl (by first | exact Or.inl rfl | exact Or.inr rfl))
                      · refine dss_one ?_
                        · refine ds_set (i := 4) nd rfl (by first | exact Or.inl rfl | exact Or.inr rfl) ?_
                          · refine de_callPG hgd (takes_of rfl rfl rfl rfl) (y_law_made_ok rfl hKw Tx) (hr.mono (by decide)) rfl Tx.M26 Tx.F26.kp Tx.B26 ?_
                            · refine da_cons ?_ ?_
                              · exact de_var (pv 0)
                              · refine da_cons ?_ ?_
                                · exact de_var (pv 4)
                                · refine da_cons ?_ ?_
                                  · exact de_var (pv 5)
                                  · exact da_nil
                    · refine dss_one ?_
                      · refine ds_if ?_ ?_ ?_
                        · refine dt_w ?_
                          · refine dw_or ?_ ?_
                            · refine dt_not ?_
                              · refine dt_val ?_
                                · refine de_isi isi_tuple rfl Tx.z_isinstance rfl Tx.z_tuple PyProof.Rows.boot_tuple ?_
                                  · exact de_var (pv 3)
                            · refine dw_or ?_ ?_
                              · refine dt_cmp (dop_ne hr.units) ?_ ?_
                                · refine de_callB dc_len rfl Tx.z_len PySem.boot_len ?_
                                  · refine da_cons ?_ ?_
                                    · exact de_var (pv 3)
                                    · exact da_nil
                                · refine de_dget hKw hr.units ?_ ?_
                                  · exact de_var (pv 1)
                                  · exact de_var (pv 2)
                              · refine dw_or1 ?_
                                · refine dt_cmp (dop_ne hr.units) ?_ ?_
                                  · exact de_var (pv 4)
                                  · exact de_var (pv 2)
                        · refine dss_one ?_
                          · refine ds_ret ?_
                            · exact de_bool
                        · exact dss_nil
                · exact dss_nil
      · refine dss_one ?_
        · refine ds_ret ?_
          · exact de_bool)
end
end K05
namespace K05
open PySem PySem.Spec PyProof.Rows L2 DL
section
variable [KFrag] {P : Program} {w : World} {K : PySem.W.Frag} {mg : Str → Option Value} {base : Heap} {a : Nat → Addr} {d : Nat → FuncData} {T : TX}
theorem xlaw_ok (hKF : K = KFrag.K) (hKw : w = KFrag.w) (Tx : Txt K mg a d) : FnG P w K mg base 10 (a 29) (d 29) ["_law_script"] (spD T 1 xlaw_r) := by
  subst hKF
  exact fnG (g := xlaw_g) Tx.F29 xlaw_sc rfl rfl fun cdv A outer s H E hgd hr => (by
  have nd := xlaw_sc.nd
  refine dss_cons ?_ ?_
  · refine ds_set (i := 1) nd rfl (by first | exact Or.inl rfl | exact Or.inr rfl) ?_
    · refine de_callG hgd (takes_of rfl rfl rfl rfl) (y_law_pen_ok rfl hKw Tx) (hr.mono (by decide)) rfl Tx.M8 Tx.F8.kp Tx.B8 ?_
      · refine da_cons ?_ ?_
        · exact de_var (pv 0)
        · exact da_nil
  · refine dss_cons ?_ ?_
    · refine ds_for (is := [2]) (passes_of rfl) rfl ?_ ?_ ?_
      · refine di_rng1 rfl Tx.z_range ?_
        · exact de_int
      · exact dg_name (pg_name (i := 2) nd rfl (by first | exact Or.inl rfl | exact Or.inr rfl))
      · refine dss_cons ?_ ?_
        · refine ds_asg (is := [3, 4]) ?_ ?_
          · refine de_callG hgd (takes_of rfl rfl rfl rfl) (y_law_pair_ok rfl hKw Tx) (hr.mono (by decide)) rfl Tx.M23 Tx.F23.kp Tx.B23 ?_
            · refine da_cons ?_ ?_
              · exact de_var (pv 1)
              · exact da_nil
          · refine dgT rfl ?_
            · refine dgsC (is := [3]) (js := [4]) ?_ ?_
              · exact dg_name (pg_name (i := 3) nd rfl (by first | exact Or.inl rfl | exact Or.inr rfl))
              · refine dgsC (is := [4]) (js := []) ?_ ?_
                · exact dg_name (pg_name (i := 4) nd rfl (by first | exact Or.inl rfl | exact Or.inr rfl))
                · exact dgs_nil
        · refine dss_cons ?_ ?_
          · refine ds_set (i := 5) nd rfl (by first | exact Or.inl rfl | exact Or.inr rfl) ?_
            · refine de_callB (dc_repr hgd hr.units) rfl Tx.z_repr PyProof.Rows.bootS_repr ?_
              · refine da_cons ?_ ?_
                · exact de_var (pv 3)
                · exact da_nil
          · refine dss_one ?_
            · refine ds_if ?_ ?_ ?_
              · refine dt_w ?_
                · refine dw_or ?_ ?_
                  · refine dt_not ?_
                    · refine dt_val ?_
                      · refine de_callPG hgd (takes_of rfl rfl rfl rfl) (y_law_right_ok rfl hKw Tx) (hr.mono (by decide)) rfl Tx.M28 Tx.F28.kp Tx.B28 ?_
                        · refine da_cons ?_ ?_
                          · exact de_var (pv 3)
                          · exact da_nil
                  · refine dw_or1 ?_
                    · refine dt_cmp (dop_ne hr.units) ?_ ?_
                      · refine de_callB (dc_repr hgd hr.units) rfl Tx.z_repr PyProof.Rows.bootS_repr ?_
                        · refine da_cons ?_ ?_
                          · exact de_var (pv 3)
                          · exact da_nil
                      · exact de_var (pv 5)
              · refine dss_one ?_
                · refine ds_ret ?_
                  · exact de_bool
              · exact dss_nil
    · refine dss_cons ?_ ?_
      · refine ds_set (i := 6) nd rfl (by first | exact Or.inl rfl | exact Or.inr rfl) ?_
        · refine de_callTy dc_tuple rfl Tx.z_tuple PyProof.Rows.boot_tuple ?_
          · refine da_cons ?_ ?_
            · refine de_lc (is := [10]) (own := [("_law_value", 10)]) rfl nd ?_ (blkOk_by (N := xlaw_N) (sc := defScope xlaw_s) (own := [("_law_value", 10)]) (by decide +kernel)) (by decide) ?_ ?_ ?_
              · refine di_rngU rfl Tx.z_range ?_ ?_ ?_
                · exact de_int
                · exact de_int
                · refine de_neg ?_
                  · exact de_int
              · refine fun _ _ _ _ _ => ?_
                · exact dg_name (pg_name (i := 10) nd rfl (by first | exact Or.inl rfl | exact Or.inr rfl))
              · refine fun _ _ _ _ _ => ?_
                · exact dts_nil
              · refine fun _ _ _ _ _ => ?_
                · refine de_tup ?_
                  · refine da_cons ?_ ?_
                    · exact de_str
                    · refine da_cons ?_ ?_
                      · exact de_int
                      · refine da_cons ?_ ?_
                        · exact de_var (pv 10)
                        · refine da_cons ?_ ?_
                          · exact de_var (pv 10)
                          · refine da_cons ?_ ?_
                            · refine de_tup ?_
                              · refine da_cons ?_ ?_
                                · exact de_str
                                · refine da_cons ?_ ?_
                                  · exact de_int
                                  · refine da_cons ?_ ?_
                                    · refine de_op dop_add ?_ ?_
                                      · exact de_var (pv 10)
                                      · exact de_int
                                    · exact da_nil
                            · exact da_nil
            · exact da_nil
      · refine dss_cons ?_ ?_
        · refine ds_set (i := 7) nd rfl (by first | exact Or.inl rfl | exact Or.inr rfl) ?_
          · refine de_callG hgd (takes_of rfl rfl rfl rfl) (y_law_draw_ok rfl hKw Tx) (hr.mono (by decide)) rfl Tx.M10 Tx.F10.kp Tx.B10 ?_
            · refine da_cons ?_ ?_
              · exact de_var (pv 1)
              · refine da_cons ?_ ?_
                · exact de_int
                · exact da_nil
        · refine dss_cons ?_ ?_
          · refine ds_set (i := 8) nd rfl (by first | exact Or.inl rfl | exact Or.inr rfl) ?_
            · refine de_tup ?_
              · refine da_cons ?_ ?_
                · refine de_tup ?_
                  · refine da_cons ?_ ?_
                    · exact de_int
                    · exact da_nil
                · refine da_cons ?_ ?_
                  · refine de_tup ?_
                    · refine da_cons ?_ ?_
                      · exact de_var (pv 7)
                      · exact da_nil
                  · refine da_cons ?_ ?_
                    · refine de_tup ?_
                      · refine da_cons ?_ ?_
                        · refine de_tup ?_
                          · refine da_cons ?_ ?_
                            · refine de_tup ?_
                              · refine da_cons ?_ ?_
                                · exact de_str
                                · refine da_cons ?_ ?_
                                  · exact de_int
                                  · refine da_cons ?_ ?_
                                    · exact de_int
                                    · refine da_cons ?_ ?_
                                      · exact de_int
                                      · refine da_cons ?_ ?_
                                        · refine de_tup ?_
                                          · refine da_cons ?_ ?_
                                            · exact de_str
                                            · refine da_cons ?_ ?_
                                              · exact de_int
                                              · refine da_cons ?_ ?_
                                                · exact de_int
                                                · exact da_nil
                                        · exact da_nil
                            · exact da_nil
                        · refine da_cons ?_ ?_
                          · exact de_var (pv 6)
                          · exact da_nil
                    · exact da_nil
          · refine dss_cons ?_ ?_
            · refine ds_set (i := 9) nd rfl (by first | exact Or.inl rfl | exact Or.inr rfl) ?_
              · refine de_new ?_
                · refine da_cons ?_ ?_
                  · exact de_none
                  · refine da_cons ?_ ?_
                    · exact de_none
                    · refine da_cons ?_ ?_
                      · exact de_none
                      · exact da_nil
            · refine dss_cons ?_ ?_
              · refine ds_for (is := [10]) (passes_of rfl) rfl ?_ ?_ ?_
                · refine di_rng2 rfl Tx.z_range ?_ ?_
                  · exact de_var (pv 7)
                  · exact de_int
                · exact dg_name (pg_name (i := 10) nd rfl (by first | exact Or.inl rfl | exact Or.inr rfl))
                · refine dss_one ?_
                  · refine ds_app (de_var (pv 9)) ?_
                    · refine de_op dop_add ?_ ?_
                      · refine de_op dop_mul ?_ ?_
                        · refine de_tup ?_
                          · refine da_cons ?_ ?_
                            · exact de_int
                            · exact da_nil
                        · refine de_callTy dc_int rfl Tx.z_int PyProof.Rows.boot_int ?_
                          · refine da_cons ?_ ?_
                            · refine de_and ?_ ?_
                              · refine de_cmp (dop_eq hr.units) ?_ ?_
                                · exact de_var (pv 7)
                                · exact de_int
                              · refine de_one ?_
                                · refine de_cmp dop_gt ?_ ?_
                                  · exact de_var (pv 10)
                                  · exact de_int
                            · exact da_nil
                      · refine de_op dop_mul ?_ ?_
                        · refine de_tup ?_
                          · refine da_cons ?_ ?_
                            · exact de_int
                            · exact da_nil
                        · refine de_op dop_sub ?_ ?_
                          · exact de_var (pv 10)
                          · refine de_callB (dc_max2 rfl) rfl Tx.z_max PyProof.Rows.boot_max ?_
                            · refine da_cons ?_ ?_
                              · exact de_var (pv 7)
                              · refine da_cons ?_ ?_
                                · exact de_int
                                · exact da_nil
              · refine dss_cons ?_ ?_
                · refine ds_setLc (i := 11) (is := [10]) (own := [("_law_value", 10)]) rfl nd rfl rfl (sw_true rfl rfl rfl (by decide +kernel)) ?_ (blkOk_by (N := xlaw_N) (sc := defScope xlaw_s) (own := [("_law_value", 10)]) (by decide +kernel)) (by decide) ?_ ?_ ?_
                  · refine di_rng1 rfl Tx.z_range ?_
                    · exact de_int
                  · refine fun _ _ _ _ _ => ?_
                    · exact dg_name (pg_name (i := 10) nd rfl (by first | exact Or.inl rfl | exact Or.inr rfl))
                  · refine fun _ _ _ _ _ => ?_
                    · exact dts_nil
                  · refine fun _ _ _ _ _ => ?_
                    · refine de_callPG hgd takes0 (xrow_to_ok rfl hKw Tx) (hr.mono (by decide)) rfl Tx.M1 Tx.F1.kp Tx.B1 ?_
                      · refine da_cons ?_ ?_
                        · exact de_var (pv 8)
                        · refine da_cons ?_ ?_
                          · refine de_tup ?_
                            · refine da_cons ?_ ?_
                              · exact de_var (pv 10)
                              · exact da_nil
                          · exact da_nil
                · refine dss_cons ?_ ?_
                  · refine ds_if ?_ ?_ ?_
                    · refine dt_cmp (dop_ne hr.units) ?_ ?_
                      · refine de_callPG hgd (takes_of rfl rfl rfl rfl) (xcome_to_ok rfl hKw Tx) (hr.mono (by decide)) rfl Tx.M0 Tx.F0.kp Tx.B0 ?_
                        · refine da_cons ?_ ?_
                          · exact de_var (pv 8)
                          · exact da_nil
                      · refine de_callTy dc_tuple rfl Tx.z_tuple PyProof.Rows.boot_tuple ?_
                        · refine da_cons ?_ ?_
                          · refine de_lc (is := [10]) (own := [("_law_value", 10)]) rfl nd ?_ (blkOk_by (N := xlaw_N) (sc := defScope xlaw_s) (own := [("_law_value", 10)]) (by decide +kernel)) (by decide) ?_ ?_ ?_
                            · refine di_rng2 rfl Tx.z_range ?_ ?_
                              · exact de_var (pv 7)
                              · exact de_int
                            · refine fun _ _ _ _ _ => ?_
                              · exact dg_name (pg_name (i := 10) nd rfl (by first | exact Or.inl rfl | exact Or.inr rfl))
                            · refine fun _ _ _ _ _ => ?_
                              · exact dts_nil
                            · refine fun _ _ _ _ _ => ?_
                              · refine de_tup ?_
                                · refine da_cons ?_ ?_
                                  · exact de_var (pv 10)
                                  · exact da_nil
                          · exact da_nil
                    · refine dss_one ?_
                      · refine ds_ret ?_
                        · exact de_bool
                    · exact dss_nil
                  · refine dss_one ?_
                    · refine ds_ret ?_
                      · refine de_and ?_ ?_
                        · refine de_callPG hgd (takes_of rfl rfl rfl rfl) (y_law_right_ok rfl hKw Tx) (hr.mono (by decide)) rfl Tx.M28 Tx.F28.kp Tx.B28 ?_
                          · refine da_cons ?_ ?_
                            · exact de_var (pv 8)
                            · exact da_nil
                        · refine de_one ?_
                          · refine de_cmp (dop_eq hr.units) ?_ ?_
                            · exact de_var (pv 11)
                            · refine de_slice rfl ?_ ?_ ?_
                              · exact de_frz (pv 9)
                              · refine do_some ?_
                                · refine de_op dop_sub ?_ ?_
                                  · exact de_int
                                  · exact de_var (pv 7)
                              · exact do_none)
end
end K05
namespace K05
open PySem PySem.Spec PyProof.Rows L2 DL
/-! ### the pen: what is drawn -/
theorem draw_is {n : Nat} {ns : List Int} {a r : Int} {s : CS} (h : PenAt n ns a r s) {m : Int} (hm : 0 < m) (hm2 : m < 1073741824) :
    ∃ d a' r' : Int, 0 ≤ d ∧ d < m ∧ noX y_law_draw_r [.c n, .d (.int m)] s = .ok (.d (.int d)) (s.set n (.lst [.list (ns.map .int), .int a', .int r'])) := by
  obtain ⟨d, a', r', h0, h1, e⟩ := zdraw_is h hm hm2
  refine ⟨d, a', r', h0, h1, ?_⟩
  show noX zdraw_r _ _ = _
  unfold noX
  rw [e]
/-- a number below m -/
def Bel (m : Nat) (x : D) : Prop := ∃ d : Nat, x = .int d ∧ d < m
theorem sp_draw {m : Nat} (hm : 0 < m) (hm2 : m < 1000000) : Sp (noX y_law_draw_r [.c 0, .d (.int m)]) (Dd (Bel m)) := fun s ⟨p, e, ns, a, r, ep⟩ => by
  subst ep
  obtain ⟨d, a', r', h0, h1, e2⟩ := draw_is (n := 0) (ns := ns) (a := a) (r := r) (s := s) (m := (m : Int)) e (by omega) (by omega)
  refine ⟨.d (.int d), _, [], ⟨ns, a', r', rfl⟩, by rw [List.append_nil]; exact e2, .int d, rfl, d.toNat, ?_, by omega⟩
  rw [Int.toNat_of_nonneg h0]
/-- .. as a call -/
theorem sp_dr {ρ : En} {fm : En → CS → R W} {m : Nat} (e : ∀ s, fCons (fVar 0) (fCons fm fNil) ρ s = .ok [.c 0, .d (.int m)] s) (hm : 0 < m) (hm2 : m < 1000000) : SpD (fCall 2 y_law_draw_r (fCons (fVar 0) (fCons fm fNil))) ρ (Bel m) := fun s hs => by
  obtain ⟨w, p, t, h1, h2, h3⟩ := sp_draw hm hm2 s hs
  refine ⟨w, p, t, h1, ?_, h3⟩
  unfold fCall
  rw [e s]
  exact h2
theorem atI_nat {α : Type} {xs : List α} {d : Nat} (h : d < xs.length) : atI xs (d : Int) = some xs[d] := by
  have e : ixN xs.length (d : Int) = some d := by
    unfold ixN
    rw [if_pos (by omega), if_pos (by omega)]
    rfl
  unfold atI
  rw [e]
  simp [h]
theorem sp_one {xs : List D} (hne : 0 < xs.length) (hl : xs.length < 1000000) : Sp (noX y_law_one_of_r [.c 0, .d (.list xs)]) (Dd (· ∈ xs)) := by
  refine sp_def rfl (sp_ret ?_)
  show Sp (f2 ixD (fVar 1) (fCall 2 y_law_draw_r (fCons (fVar 0) (fCons (fN lenD (fCons (fVar 1) fNil)) fNil))) [some (.c 0), some (.d (.list xs))]) _
  refine sp_2 (pa := (· = .list xs)) (sp_v rfl rfl) (sp_dr (m := xs.length) (fun s => rfl) hne hl) fun x y hx ⟨d, hy, hd⟩ => ?_
  subst hx
  subst hy
  exact ⟨xs[d], by show atI xs (d : Int) = _; exact atI_nat hd, List.getElem_mem hd⟩
theorem sp_on {ρ : En} {fm : En → CS → R W} {xs : List D} (e : ∀ s, fCons (fVar 0) (fCons fm fNil) ρ s = .ok [.c 0, .d (.list xs)] s) (hne : 0 < xs.length) (hl : xs.length < 1000000) : SpD (fCall 2 y_law_one_of_r (fCons (fVar 0) (fCons fm fNil))) ρ (· ∈ xs) := fun s hs => by
  obtain ⟨w, p, t, h1, h2, h3⟩ := sp_one hne hl s hs
  refine ⟨w, p, t, h1, ?_, h3⟩
  unfold fCall
  rw [e s]
  exact h2
/-! ### houses that are drawn -/
theorem sp_let {i : Nat} {f : En → CS → R W} {g : En → CS → RT} {ρ : En} {p : D → Prop} {Q : W → Prop} (hf : SpD f ρ p) (k : ∀ x, p x → SpR g (ρ.set i (some (.d x))) Q) : SpR (gSeq (gAsg (hN i) f) g) ρ Q :=
  sp_seq (sp_asg (Q := fun ρ' => ∃ x, p x ∧ ρ' = ρ.set i (some (.d x))) hf fun w ⟨x, e, hx⟩ => ⟨_, by rw [e]; rfl, x, hx, rfl⟩) fun ρ' ⟨x, hx, e⟩ => by rw [e]; exact k x hx
/-- what is told without a draw -/
theorem sp_same {f : En → CS → R W} {ρ : En} {x : D} {p : D → Prop} (e : ∀ s, f ρ s = .ok (.d x) s) (h : p x) : SpD f ρ p := Sp.here e ⟨x, rfl, h⟩
theorem eq_ints (a b : Int) : eqD (.int a) (.int b) = some (.bool (a == b)) := by
  unfold eqD
  rw [if_pos ⟨rfl, rfl⟩]
  show some (PyData.bool (intEq a b)) = _
  rw [intEq_eq]
theorem ne_ints (a b : Int) : neD (.int a) (.int b) = some (.bool (!(a == b))) := by
  unfold neD
  rw [if_pos ⟨rfl, rfl⟩]
  show some (PyData.bool (!intEq a b)) = _
  rw [intEq_eq]
def nD (n : Nat) : D := .int n
def dT (ns : List Nat) : D := .tuple (ns.map nD)
def szA : List (List Nat) := [[2], [3], [3], [4], [2, 2], [2, 2], [2, 3], [3, 2], [4], [5], [6], [2, 2, 2]]
def szB : List (List Nat) := [[2, 4], [4, 2], [7], [8]]
def szC : List (List Nat) := [[2], [3], [2, 2], [4], [3], [2, 2], [3, 2], [2, 3]]
def szs : List (List Nat) := [[2], [3], [4], [5], [6], [7], [8], [2, 2], [2, 3], [3, 2], [2, 4], [4, 2], [2, 2, 2]]
theorem szs_ok : ∀ ns ∈ szs, 0 < ns.length ∧ ns.length ≤ 3 ∧ ∀ n ∈ ns, 2 ≤ n ∧ n ≤ 8 := by decide
theorem szA_in : ∀ ns ∈ szA ++ szB, ns ∈ szs := by decide
theorem szC_in : ∀ ns ∈ szC, ns ∈ szs := by decide
theorem sizes_sp : Sp (noX y_law_sizes_r [.c 0]) (Dd fun x => ∃ ns ∈ szs, x = dT ns) :=
  sp_def rfl (sp_let (p := (· = .list (szA.map dT))) (sp_same (fun s => rfl) rfl) fun x hx => by
    subst hx
    exact sp_ret ((sp_on (xs := (szA ++ szB).map dT) (fun s => rfl) (by decide) (by decide)).imp fun w ⟨x, e, hx⟩ => by
      obtain ⟨ns, h, rfl⟩ := List.mem_map.mp hx
      exact ⟨_, e, ns, szA_in ns h, rfl⟩))
def W3 : List Str := ["set", "raise", "lower"]
def W4 : List Str := ["set", "raise", "lower", "copy"]
/-- the steps without a condition -/
inductive Plain (ns : List Nat) : D → Prop
  | num {w : Str} {c l m : Nat} : w ∈ W3 → ns[c]? = some m → l < m → Plain ns (.tuple [.str w, nD c, nD l])
  | copy {c o : Nat} : c < ns.length → o < ns.length → o ≠ c → Plain ns (.tuple [.str "copy", nD c, nD o])
inductive StepP (ns : List Nat) : D → Prop
  | plain {x : D} : Plain ns x → StepP ns x
  | when {c lo hi m : Nat} {x : D} : ns[c]? = some m → lo ≤ hi → hi < m → Plain ns x → StepP ns (.tuple [.str "when", nD c, nD lo, nD hi, x])
theorem ix_dT {ns : List Nat} {c : Nat} (h : c < ns.length) : ixD (dT ns) (nD c) = some (nD ns[c]) := by
  show atI (ns.map nD) (c : Int) = _
  rw [atI_nat (by rw [List.length_map]; exact h), List.getElem_map]
theorem plain_sp {ns : List Nat} (h : ns ∈ szs) : Sp (noX y_law_plain_r [.c 0, .d (dT ns)]) (Dd (Plain ns)) := by
  obtain ⟨h1, h2, h3⟩ := szs_ok ns h
  have hl : (ns.map nD).length = ns.length := List.length_map ..
  have dr : ∀ (ρ : En), ρ[0]? = some (some (.c 0)) → ρ[1]? = some (some (.d (dT ns))) → SpD (fCall 2 y_law_draw_r (fCons (fVar 0) (fCons (fN lenD (fCons (fVar 1) fNil)) fNil))) ρ (Bel ns.length) := fun ρ e0 e1 =>
    sp_dr (fun s => by simp [fCons, fVar, fNil, fN, e0, e1, R.bind, liftN, allD, dT, lenD]) h1 (by omega)
  refine sp_def rfl (sp_seq (Q := fun ρ => ∃ c w, c < ns.length ∧ w ∈ W4 ∧ ρ = [some (.c 0), some (.d (dT ns)), some (.d (nD c)), some (.d (.str w)), none])
    (sp_par2 (sp_cons (dr _ rfl rfl) (sp_cons (sp_on (xs := W4.map .str) (fun s => rfl) (by decide) (by decide)) sp_nil)) fun ws ⟨v, r, ew, ⟨x, ev, c, ex, hc⟩, u, r2, e2, ⟨y, eu, hy⟩, e3⟩ => ?_) ?_)
  · subst e3 e2 ew eu ev ex
    obtain ⟨w, hw, rfl⟩ := List.mem_map.mp hy
    exact ⟨_, _, rfl, c, w, hc, hw, rfl⟩
  · rintro ρ ⟨c, w, hc, hw, rfl⟩
    have hm : ns[c]? = some ns[c] := List.getElem?_eq_getElem hc
    have h8 := h3 ns[c] (List.getElem_mem hc)
    refine sp_let (dr _ rfl rfl) fun x ⟨o, ex, ho⟩ => ?_
    subst ex
    show SpR _ [some (.c 0), some (.d (dT ns)), some (.d (nD c)), some (.d (.str w)), some (.d (nD o))] _
    -- the last draw
    have last : ∀ (w2 : Str) (ρ : En), w2 ∈ W3 → ρ = [some (.c 0), some (.d (dT ns)), some (.d (nD c)), some (.d (.str w2)), some (.d (nD o))] →
        SpR (gRet (fN tupD (fCons (fVar 3) (fCons (fVar 2) (fCons (fCall 2 y_law_draw_r (fCons (fVar 0) (fCons (f2 ixD (fVar 1) (fVar 2)) fNil))) fNil))))) ρ (Dd (Plain ns)) := fun w2 ρ hw2 e => by
      subst e
      refine sp_ret (sp_N (sp_cons (sp_v (p := (· = .str w2)) rfl rfl) (sp_cons (sp_v (p := (· = nD c)) rfl rfl) (sp_cons (sp_dr (m := ns[c]) (fun s => ?_) (by omega) (by omega)) sp_nil))) ?_)
      · show ((lift2 ixD (.d (dT ns)) (.d (nD c)) s).bind fun x s => R.ok [x] s).bind _ = _
        simp only [lift2, ix_dT hc]
        rfl
      · rintro ws ⟨_, _, rfl, ⟨_, rfl, rfl⟩, _, _, rfl, ⟨_, rfl, rfl⟩, _, _, rfl, ⟨_, rfl, l, rfl, hl2⟩, rfl⟩
        exact ⟨_, _, rfl, rfl, .num hw2 hm hl2⟩
    have hw4 : w ∈ W3 ∨ w = "copy" := by
      simp only [W3, W4, List.mem_cons, List.not_mem_nil, or_false] at hw ⊢
      rcases hw with h | h | h | h
      · exact .inl (.inl h)
      · exact .inl (.inr (.inl h))
      · exact .inl (.inr (.inr h))
      · exact .inr h
    have sw : SeqAt.shaped (.str w) = true := by
      rcases hw4 with h | rfl
      · simp only [W3, List.mem_cons, List.not_mem_nil, or_false] at h
        rcases h with rfl | rfl | rfl <;> decide +kernel
      · decide +kernel
    have t : ∀ s, fB (f2 eqD (fVar 3) (fC (.str "copy"))) [some (.c 0), some (.d (dT ns)), some (.d (nD c)), some (.d (.str w)), some (.d (nD o))] s = .ok (strEq w "copy") s := fun s => by
      have : eqD (.str w) (.str "copy") = some (.bool (strEq w "copy")) := by
        exact if_pos ⟨sw, by decide +kernel⟩
      show ((lift2 eqD (.d (.str w)) (.d (.str "copy")) s).bind toB) = _
      simp only [lift2, this]
      rfl
    have u : ∀ s, fB (f2 neD (fVar 4) (fVar 2)) [some (.c 0), some (.d (dT ns)), some (.d (nD c)), some (.d (.str w)), some (.d (nD o))] s = .ok (!((o : Int) == (c : Int))) s := fun s => by
      show ((lift2 neD (.d (.int o)) (.d (.int c)) s).bind toB) = _
      simp only [lift2, ne_ints]
      rfl
    refine sp_ifR (p := fun b => b = (strEq w "copy" && !((o : Int) == (c : Int)))) (Sp.here (fun s => ?_) rfl) (fun e => ?_) fun e => ?_
    · show (fB _ _ s).bind _ = _
      rw [show fB (f2 eqD (fVar 3) (fC (.str "copy"))) _ s = .ok (strEq w "copy") s from t s]
      show (if strEq w "copy" = true then fB _ _ s else _) = _
      rw [show fB (f2 neD (fVar 4) (fVar 2)) _ s = .ok (!((o : Int) == (c : Int))) s from u s]
      cases strEq w "copy" <;> rfl
    · have e' := Eq.symm e
      rw [Bool.and_eq_true, Bool.not_eq_true', beq_eq_false_iff_ne] at e'
      obtain ⟨e1, e2⟩ := e'
      have : w = "copy" := by
        rw [strEq_eq] at e1
        exact eq_of_beq e1
      subst this
      exact sp_ret (sp_same (x := .tuple [.str "copy", nD c, nD o]) (fun s => rfl) (.copy hc ho fun z => e2 (by rw [z])))
    · refine sp_let (p := fun x => ∃ w2, w2 ∈ W3 ∧ x = .str w2) (sp_if (p := (· = strEq w "copy")) (Sp.here t rfl) (fun e1 => sp_same (x := .str "set") (fun s => rfl) ⟨"set", by simp [W3], rfl⟩) fun e1 => sp_v (i := 3) (x := .str w) rfl ⟨w, ?_, rfl⟩) fun x ⟨w2, hw2, ex⟩ => ?_
      · rcases hw4 with h | h
        · exact h
        · subst h
          exact absurd e1 (by decide +kernel)
      · subst ex
        exact last w2 _ hw2 rfl
theorem sp_cl {m : Nat} {g : List W → CS → R W} {fs : En → CS → R (List W)} {ρ : En} {ws : List W} {P : W → Prop} (e : ∀ s, fs ρ s = .ok ws s) (hl : ws.length = m) (h : Sp (noX g ws) P) : Sp (fCall m g fs ρ) P := fun s hs => by
  obtain ⟨w, p, t, h1, h2, h3⟩ := h s hs
  refine ⟨w, p, t, h1, ?_, h3⟩
  unfold fCall
  rw [e s]
  show (if ws.length = m then _ else _) = _
  rw [if_pos hl]
  exact h2
theorem step_sp {ns : List Nat} (h : ns ∈ szs) : Sp (noX y_law_step_r [.c 0, .d (dT ns)]) (Dd (StepP ns)) := by
  obtain ⟨h1, h2, h3⟩ := szs_ok ns h
  have hl : (ns.map nD).length = ns.length := List.length_map ..
  refine sp_def rfl (sp_let (p := Plain ns) (sp_cl (ws := [.c 0, .d (dT ns)]) (fun s => rfl) rfl (plain_sp h)) fun x hx => ?_)
  show SpR _ [some (.c 0), some (.d (dT ns)), some (.d x), none, none] _
  refine sp_ifR (p := fun _ => True) (sp_B (sp_2 (sp_dr (m := 3) (fun s => rfl) (by decide) (by decide)) (sp_c (p := (· = .int 0)) rfl) fun a b ⟨d, ea, _⟩ eb => ?_)) (fun _ => sp_ret (sp_v (x := x) rfl (.plain hx))) fun _ => ?_
  · subst ea eb
    exact ⟨_, eq_ints _ _, _, rfl, trivial⟩
  · refine sp_let (sp_dr (m := ns.length) (fun s => ?_) h1 (by omega)) fun y ⟨c, ey, hc⟩ => ?_
    · simp [fCons, fVar, fNil, fN, R.bind, liftN, allD, dT, lenD]
    · subst ey
      show SpR _ [some (.c 0), some (.d (dT ns)), some (.d x), some (.d (nD c)), none] _
      have h8 := h3 ns[c] (List.getElem_mem hc)
      refine sp_let (sp_dr (m := ns[c]) (fun s => ?_) (by omega) (by omega)) fun y ⟨lo, ey, hlo⟩ => ?_
      · show ((lift2 ixD (.d (dT ns)) (.d (nD c)) s).bind fun x s => R.ok [x] s).bind _ = _
        simp only [lift2, ix_dT hc]
        rfl
      · subst ey
        show SpR _ [some (.c 0), some (.d (dT ns)), some (.d x), some (.d (nD c)), some (.d (nD lo))] _
        refine sp_ret (sp_N (sp_cons (sp_c (p := (· = .str "when")) rfl) (sp_cons (sp_v (p := (· = nD c)) rfl rfl) (sp_cons (sp_v (p := (· = nD lo)) rfl rfl) (sp_cons (sp_2 (p := fun z => ∃ d : Nat, z = nD (lo + d) ∧ d < ns[c] - lo) (sp_v (p := (· = nD lo)) rfl rfl) (sp_dr (m := ns[c] - lo) (fun s => ?_) (by omega) (by omega)) ?_) (sp_cons (sp_v (p := (· = x)) rfl rfl) sp_nil))))) ?_)
        · show (((lift2 ixD (.d (dT ns)) (.d (nD c)) s).bind fun x s => lift2 subD x (.d (nD lo)) s).bind fun x s => R.ok [x] s).bind _ = _
          simp only [lift2, ix_dT hc, R.bind]
          have : subD (nD ns[c]) (nD lo) = some (.int ((ns[c] - lo : Nat) : Int)) := by
            show some (PyData.int ((ns[c] : Int) - (lo : Int))) = _
            rw [Int.ofNat_sub (by omega)]
          simp only [this]
        · rintro a b rfl ⟨d, rfl, hd⟩
          exact ⟨nD (lo + d), rfl, d, rfl, hd⟩
        · rintro ws ⟨_, _, rfl, ⟨_, rfl, rfl⟩, _, _, rfl, ⟨_, rfl, rfl⟩, _, _, rfl, ⟨_, rfl, rfl⟩, _, _, rfl, ⟨_, rfl, d, rfl, hd⟩, _, _, rfl, ⟨_, rfl, rfl⟩, rfl⟩
          exact ⟨_, _, rfl, rfl, .when (List.getElem?_eq_getElem hc) (by omega) (by omega) hx⟩
def KindP (ns : List Nat) (x : D) : Prop := ∃ ss : List D, x = .tuple ss ∧ ss.length ≤ 6 ∧ ∀ s ∈ ss, StepP ns s
theorem kind_sp {ns : List Nat} (h : ns ∈ szs) {m : Nat} (hm : m ≤ 6) : Sp (noX y_law_kind_r [.c 0, .d (dT ns), .d (nD m)]) (Dd (KindP ns)) := by
  refine sp_def rfl (sp_ret (sp_N (sp_cons (sp_lc (q := fun xs => ∃ j : Int, xs = rngD 0 j.toNat ∧ 0 ≤ j ∧ j < 1000000 ∧ j ≤ 6) (p := StepP ns) (sp_rng ((sp_on (xs := [nD 0, nD 1, nD 1, nD 2, nD 2, nD m]) (fun s => rfl) (by simp) (by simp)).imp fun w ⟨x, e, hx⟩ => ⟨x, e, ?_⟩)) ?_ ?_) sp_nil) ?_))
  · have : ∃ k : Nat, x = nD k ∧ k ≤ 6 := by
      simp only [List.mem_cons, List.not_mem_nil, or_false] at hx
      rcases hx with h | h | h | h | h | h
      · exact ⟨0, h, by decide⟩
      · exact ⟨1, h, by decide⟩
      · exact ⟨1, h, by decide⟩
      · exact ⟨2, h, by decide⟩
      · exact ⟨2, h, by decide⟩
      · exact ⟨m, h, hm⟩
    obtain ⟨k, rfl, hk⟩ := this
    exact ⟨k, rfl, by omega, by omega, by omega⟩
  · rintro xs ⟨j, rfl, h0, h1, h2⟩
    have : (rngD 0 j.toNat).length = j.toNat := by simp [rngD]
    rw [this]
    exact Nat.le_trans (by omega : j.toNat ≤ 6) (by decide)
  · rintro xs ⟨j, rfl, h0, h1, h2⟩ x hx
    exact ⟨_, rfl, sp_cl (ws := [.c 0, .d (dT ns)]) (fun s => rfl) rfl (step_sp h)⟩
  · rintro ws ⟨_, _, rfl, ⟨_, rfl, xs, ys, ⟨j, rfl, h0, h1, h2⟩, rfl, hl, hy⟩, rfl⟩
    refine ⟨_, _, rfl, rfl, ys, rfl, ?_, hy⟩
    rw [hl]
    simp [rngD]
    omega
inductive All2 {α β : Type} (p : α → β → Prop) : List α → List β → Prop
  | nil : All2 p [] []
  | cons {x : α} {y : β} {xs : List α} {ys : List β} : p x y → All2 p xs ys → All2 p (x :: xs) (y :: ys)
theorem All2.len {α β : Type} {p : α → β → Prop} : ∀ {xs : List α} {ys : List β}, All2 p xs ys → xs.length = ys.length
  | _, _, .nil => rfl
  | _, _, .cons _ t => by rw [List.length_cons, List.length_cons, All2.len t]
theorem sp_compR {h : W → En → Option En} {f : En → CS → R W} {ρ : En} {p : D → D → Prop} : ∀ items : List D, (∀ x ∈ items, ∃ ρ1, h (.d x) ρ = some ρ1 ∧ SpD f ρ1 (p x)) → Sp (compL h fYes f ρ items) (All2 p items)
  | [], _ => Sp.here (fun _ => rfl) .nil
  | x :: r, hx => by
    obtain ⟨ρ1, e1, hf⟩ := hx x (by simp)
    have ih := sp_compR (h := h) (f := f) (ρ := ρ) (p := p) r fun y hy => hx y (by simp [hy])
    intro s hs
    obtain ⟨w, q, t, hq, e2, y, rfl, hy⟩ := hf s hs
    obtain ⟨ys, q2, t2, hq2, e3, h3⟩ := ih _ (hs.set hq t)
    refine ⟨y :: ys, q2, t ++ t2, hq2, ?_, .cons hy h3⟩
    unfold compL
    simp only [e1, fYes, R.bind0, if_true, e2, consR, e3]
    rw [set_set hs]
theorem sp_lcR {vs : List Nat} {fi : En → CS → R (List D)} {h : W → En → Option En} {f : En → CS → R W} {ρ : En} {items : List D} {p : D → D → Prop} (hi : ∀ s, fi ρ s = .ok items s) (hl : items.length ≤ line) (hx : ∀ x ∈ items, ∃ ρ1, h (.d x) (wipeE ρ vs) = some ρ1 ∧ SpD f ρ1 (p x)) :
    SpD (fLc vs fi h fYes f) ρ fun z => ∃ ys, z = .list ys ∧ All2 p items ys := fun s hs => by
  obtain ⟨ys, p1, t, hp, e1, h1⟩ := sp_compR items hx s hs
  refine ⟨.d (.list ys), p1, t, hp, ?_, .list ys, rfl, ys, rfl, h1⟩
  unfold fLc
  rw [hi s]
  show (if items.length ≤ line then _ else _) = _
  rw [if_pos hl, e1]
  rfl
def HouseP (x : D) : Prop := ∃ (ns bs : List Nat) (ks : List D), ns ∈ szs ∧ x = .tuple [dT ns, dT bs, .tuple ks] ∧ All2 (fun n b : Nat => b < n) ns bs ∧ 1 ≤ ks.length ∧ ks.length ≤ 5 ∧ ∀ k ∈ ks, KindP ns k
theorem begin_of : ∀ {ns : List Nat} {ys : List D}, All2 (fun x y => ∃ n : Nat, x = nD n ∧ Bel n y) (ns.map nD) ys → ∃ bs : List Nat, ys = bs.map nD ∧ All2 (fun n b : Nat => b < n) ns bs
  | [], _, .nil => ⟨[], rfl, .nil⟩
  | n :: ns, _, .cons ⟨m, e, d, ey, hd⟩ t => by
    obtain ⟨bs, rfl, h⟩ := begin_of t
    have : n = m := by
      unfold nD at e
      injection e with e
      omega
    subst this
    exact ⟨d :: bs, by rw [ey]; rfl, .cons hd h⟩
theorem house_of_sp {ns : List Nat} (h : ns ∈ szs) {k : Nat} (h0 : 1 ≤ k) (h5 : k ≤ 5) : Sp (noX y_law_house_of_r [.c 0, .d (dT ns), .d (nD k)]) (Dd HouseP) := by
  obtain ⟨h1, h2, h3⟩ := szs_ok ns h
  have hl : (ns.map nD).length = ns.length := List.length_map ..
  refine sp_def rfl (sp_let (p := fun z => ∃ bs : List Nat, z = dT bs ∧ All2 (fun n b : Nat => b < n) ns bs) (sp_N (sp_cons (sp_lcR (items := ns.map nD) (p := fun x y => ∃ n : Nat, x = nD n ∧ Bel n y) (fun s => rfl) (by rw [hl]; exact Nat.le_trans h2 (by decide)) fun x hx => ?_) sp_nil) ?_) fun x ⟨bs, ex, hb⟩ => ?_)
  · obtain ⟨n, hn, rfl⟩ := List.mem_map.mp hx
    have h8 := h3 n hn
    exact ⟨_, rfl, fun s hs => by
      obtain ⟨w, p, t, a1, a2, y, a3, a4⟩ := sp_dr (ρ := (wipeE (startE 7 [.c 0, .d (dT ns), .d (nD k)]) [5]).set 5 (some (.d (nD n)))) (fm := fVar 5) (m := n) (fun s => rfl) (by omega) (by omega) s hs
      exact ⟨w, p, t, a1, a2, y, a3, n, rfl, a4⟩⟩
  · rintro ws ⟨_, _, rfl, ⟨_, rfl, ys, rfl, hy⟩, rfl⟩
    obtain ⟨bs, rfl, hb⟩ := begin_of hy
    exact ⟨_, _, rfl, rfl, bs, rfl, hb⟩
  · subst ex
    show SpR _ [some (.c 0), some (.d (dT ns)), some (.d (nD k)), some (.d (dT bs)), none, none, none] _
    refine sp_let (p := fun z => ∃ m : Nat, z = nD m ∧ m ≤ 6) (sp_2 (sp_c (p := (· = nD 2)) rfl) (sp_dr (m := 5) (fun s => rfl) (by decide) (by decide)) ?_) fun x ⟨m, ex, hm⟩ => ?_
    · rintro a b rfl ⟨d, rfl, hd⟩
      exact ⟨nD (2 + d), rfl, 2 + d, rfl, by omega⟩
    · subst ex
      show SpR _ [some (.c 0), some (.d (dT ns)), some (.d (nD k)), some (.d (dT bs)), some (.d (nD m)), none, none] _
      refine sp_ret (sp_N (sp_cons (sp_v (p := (· = dT ns)) rfl rfl) (sp_cons (sp_v (p := (· = dT bs)) rfl rfl) (sp_cons (sp_N (p := fun z => ∃ ks : List D, z = .tuple ks ∧ ks.length = k ∧ ∀ y ∈ ks, KindP ns y) (sp_cons (sp_lc (q := fun xs => ∃ j : Int, xs = rngD 0 j.toNat ∧ 0 ≤ j ∧ j < 1000000 ∧ j = k) (p := KindP ns) (sp_rng (sp_v (x := nD k) rfl ⟨(k : Int), rfl, by omega, by omega, rfl⟩)) ?_ ?_) sp_nil) ?_) sp_nil))) ?_)
      · rintro xs ⟨j, rfl, _, _, rfl⟩
        have : (rngD 0 (k : Int).toNat).length = k := by simp [rngD]
        rw [this]
        exact Nat.le_trans h5 (by decide)
      · rintro xs ⟨j, rfl, _, _, rfl⟩ x hx
        exact ⟨_, rfl, sp_cl (ws := [.c 0, .d (dT ns), .d (nD m)]) (fun s => rfl) rfl (kind_sp h hm)⟩
      · rintro ws ⟨_, _, rfl, ⟨_, rfl, xs, ys, ⟨j, rfl, _, _, rfl⟩, rfl, hl2, hy⟩, rfl⟩
        exact ⟨_, _, rfl, rfl, ys, rfl, by rw [hl2]; simp [rngD], hy⟩
      · rintro ws ⟨_, _, rfl, ⟨_, rfl, rfl⟩, _, _, rfl, ⟨_, rfl, rfl⟩, _, _, rfl, ⟨_, rfl, ks, rfl, hk1, hk2⟩, rfl⟩
        exact ⟨_, _, rfl, rfl, ns, bs, ks, h, rfl, hb, by omega, by omega, hk2⟩
theorem some_house_sp : Sp (noX y_law_some_house_r [.c 0]) (Dd HouseP) := by
  refine sp_def rfl (sp_ret (sp_call (P := fun ws => ∃ ns k, ns ∈ szs ∧ 1 ≤ k ∧ k ≤ 5 ∧ ws = [.c 0, .d (dT ns), .d (nD k)]) ((sp_cons (sp_pen rfl) (sp_cons (sp_cl (ws := [.c 0]) (fun s => rfl) rfl sizes_sp) (sp_cons (sp_2 (p := fun z => ∃ k : Nat, z = nD k ∧ 1 ≤ k ∧ k ≤ 5) (sp_c (p := (· = nD 1)) rfl) (sp_dr (m := 5) (fun s => rfl) (by decide) (by decide)) ?_) sp_nil))).imp ?_) ?_ ?_))
  · rintro a b rfl ⟨d, rfl, hd⟩
    exact ⟨nD (1 + d), rfl, 1 + d, rfl, by omega, by omega⟩
  · rintro ws ⟨_, _, rfl, rfl, _, _, rfl, ⟨_, rfl, ns, hn, rfl⟩, _, _, rfl, ⟨_, rfl, k, rfl, h1, h2⟩, rfl⟩
    exact ⟨ns, k, hn, h1, h2, rfl⟩
  · rintro ws ⟨ns, k, hn, h1, h2, rfl⟩
    rfl
  · rintro ws ⟨ns, k, hn, h1, h2, rfl⟩
    exact house_of_sp hn h1 h2
theorem small_house_sp : Sp (noX y_law_small_house_r [.c 0]) (Dd HouseP) := by
  refine sp_def rfl (sp_let (p := fun x => ∃ ns ∈ szC, x = dT ns) ((sp_on (xs := szC.map dT) (fun s => rfl) (by decide) (by decide)).imp fun w ⟨x, e, hx⟩ => ?_) fun x ⟨ns, hn, ex⟩ => ?_)
  · obtain ⟨ns, h, rfl⟩ := List.mem_map.mp hx
    exact ⟨_, e, ns, h, rfl⟩
  · subst ex
    show SpR _ [some (.c 0), some (.d (dT ns))] _
    have hin : ∃ b, inDD (dT ns) (.tuple [dT [3, 2], dT [2, 3]]) = some (.bool b) := by
      simp only [szC, List.mem_cons, List.not_mem_nil, or_false] at hn
      rcases hn with rfl | rfl | rfl | rfl | rfl | rfl | rfl | rfl
      · exact ⟨false, by kernel_rfl⟩
      · exact ⟨false, by kernel_rfl⟩
      · exact ⟨false, by kernel_rfl⟩
      · exact ⟨false, by kernel_rfl⟩
      · exact ⟨false, by kernel_rfl⟩
      · exact ⟨false, by kernel_rfl⟩
      · exact ⟨true, by kernel_rfl⟩
      · exact ⟨true, by kernel_rfl⟩
    obtain ⟨b, hb⟩ := hin
    refine sp_ret (sp_call (P := fun ws => ∃ k, 1 ≤ k ∧ k ≤ 5 ∧ ws = [.c 0, .d (dT ns), .d (nD k)]) ((sp_cons (sp_pen rfl) (sp_cons (sp_v (p := (· = dT ns)) rfl rfl) (sp_cons (sp_2 (p := fun z => ∃ k : Nat, z = nD k ∧ 1 ≤ k ∧ k ≤ 5) (sp_c (p := (· = nD 1)) rfl) (pb := Bel 3) (fun s hs => ?_) ?_) sp_nil))).imp ?_) ?_ ?_)
    · have e0 : ∀ s, fCons (fVar 0) (fCons (fIf (fB (f2 inDD (fVar 1) (fN tupD (fCons (fN tupD (fCons (fC (.int 3)) (fCons (fC (.int 2)) fNil))) (fCons (fN tupD (fCons (fC (.int 2)) (fCons (fC (.int 3)) fNil))) fNil))))) (fC (.int 2)) (fC (.int 3))) fNil) [some (.c 0), some (.d (dT ns))] s = .ok [.c 0, .d (.int ((if b = true then 2 else 3 : Nat) : Int))] s := fun s => by
        show (((((lift2 inDD (.d (dT ns)) (.d (.tuple [dT [3, 2], dT [2, 3]])) s).bind toB).bind fun b s => if b = true then R.ok (W.d (.int 2)) s else R.ok (W.d (.int 3)) s).bind fun x s => R.ok [x] s).bind _) = _
        simp only [lift2, hb]
        cases b <;> rfl
      obtain ⟨w, p, t, a1, a2, y, a3, d, a4, a5⟩ := sp_dr e0 (by cases b <;> decide) (by cases b <;> decide) s hs
      exact ⟨w, p, t, a1, a2, y, a3, d, a4, by cases b <;> simp at a5 <;> omega⟩
    · rintro a b rfl ⟨d, rfl, hd⟩
      exact ⟨nD (1 + d), rfl, 1 + d, rfl, by omega, by omega⟩
    · rintro ws ⟨_, _, rfl, rfl, _, _, rfl, ⟨_, rfl, rfl⟩, _, _, rfl, ⟨_, rfl, k, rfl, h1, h2⟩, rfl⟩
      exact ⟨k, h1, h2, rfl⟩
    · rintro ws ⟨k, h1, h2, rfl⟩
      rfl
    · rintro ws ⟨k, h1, h2, rfl⟩
      exact house_of_sp (szC_in ns hn) h1 h2
/-! ### contents, rules, a house with rules -/
def cnts (ns : List Nat) : List (List Nat) := ns.foldl (fun F n => F.flatMap fun h => (List.range n).map fun v => h ++ [v]) [[]]
theorem conts_is {ns : List Nat} (h : ns ∈ szs) (b k : D) : pureR (noX y_law_contents_r) [.d (.tuple [dT ns, b, k])] [] = .ok (.d (.list ((cnts ns).map dT))) [] := by
  simp only [szs, List.mem_cons, List.not_mem_nil, or_false] at h
  rcases h with rfl | rfl | rfl | rfl | rfl | rfl | rfl | rfl | rfl | rfl | rfl | rfl | rfl <;> kernel_rfl
theorem pureR_at {h : List W → CS → R W} {ws : List W} {v : D} (e : pureR h ws [] = .ok (.d v) []) (s : CS) : pureR h ws s = .ok (.d v) s := by
  unfold pureR at e ⊢
  split at e
  · cases e
    rfl
  · cases e
theorem cnts_ok : ∀ ns ∈ szs, 0 < (cnts ns).length ∧ (cnts ns).length ≤ 8 := by decide
/-- the contents, as the law asks for them -/
theorem callC {ns : List Nat} (h : ns ∈ szs) {b k : D} {i : Nat} {ρ : En} (e : ρ[i]? = some (some (.d (.tuple [dT ns, b, k])))) (s : CS) : fCallP 1 (noX y_law_contents_r) (fCons (fVar i) fNil) ρ s = .ok (.d (.list ((cnts ns).map dT))) s := by
  have := pureR_at (conts_is h b k) s
  simp [fCallP, fCons, fVar, fNil, e, R.bind, allD, this]
theorem sp_compS {h : W → En → Option En} {tt : En → CS → R Bool} {f : En → CS → R W} {ρ : En} : ∀ items : List D, (∀ x ∈ items, ∃ ρ1, h (.d x) ρ = some ρ1 ∧ Sp (tt ρ1) (fun _ => True) ∧ ∀ s, f ρ1 s = .ok (.d x) s) → Sp (compL h tt f ρ items) (fun ys => ys.Sublist items)
  | [], _ => Sp.here (fun _ => rfl) (List.Sublist.refl _)
  | x :: r, hx => by
    obtain ⟨ρ1, e1, ht, hf⟩ := hx x (by simp)
    have ih := sp_compS (h := h) (tt := tt) (f := f) (ρ := ρ) r fun y hy => hx y (by simp [hy])
    intro s hs
    obtain ⟨b, q, t, hq, e2, _⟩ := ht s hs
    obtain ⟨ys, q2, t2, hq2, e3, h3⟩ := ih _ (hs.set hq t)
    cases b with
    | true =>
      refine ⟨x :: ys, q2, t ++ t2, hq2, ?_, h3.cons_cons x⟩
      unfold compL
      simp only [e1, e2, R.bind0, if_true, hf, consR, e3]
      rw [set_set hs]
    | false =>
      refine ⟨ys, q2, t ++ t2, hq2, ?_, h3.cons x⟩
      unfold compL
      simp only [e1, e2, R.bind0, Bool.false_eq_true, if_false, e3]
      rw [set_set hs]
/-- some contents of a house, one at least -/
def SideP (ns : List Nat) (x : D) : Prop := ∃ cs : List (List Nat), x = .tuple (cs.map dT) ∧ cs ≠ [] ∧ cs.Sublist (cnts ns)
def RuleP (ns : List Nat) (m : Nat) (x : D) : Prop := ∃ (it : Nat) (a b : D), x = .tuple [nD it, a, b] ∧ it ≤ m ∧ SideP ns a ∧ SideP ns b
def RulesP (ns : List Nat) (m : Nat) (x : D) : Prop := ∃ rs : List D, x = .tuple rs ∧ rs.length ≤ 6 ∧ ∀ r ∈ rs, RuleP ns m r
def HouseN (ns : List Nat) (m : Nat) (x : D) : Prop := ∃ (bs : List Nat) (ks : List D), ns ∈ szs ∧ x = .tuple [dT ns, dT bs, .tuple ks] ∧ All2 (fun n b : Nat => b < n) ns bs ∧ 1 ≤ m ∧ m ≤ 5 ∧ ks.length = m ∧ ∀ k ∈ ks, KindP ns k
def PairP (x : D) : Prop := ∃ (ns : List Nat) (m : Nat) (h r : D), x = .tuple [h, r] ∧ HouseN ns m h ∧ RulesP ns m r
theorem sub_map {cs : List (List Nat)} {ys : List D} (h : ys.Sublist (cs.map dT)) : ∃ ds : List (List Nat), ys = ds.map dT ∧ ds.Sublist cs := by
  obtain ⟨l, h1, h2⟩ := List.sublist_map_iff.mp h
  exact ⟨l, h2, h1⟩
/-! states behind a base, with one cell that is told -/
def Sx (s0 : CS) (j : Nat) (L : List D) (s : CS) : Prop := ∃ p t, IsPen p ∧ s = s0.set 0 p ++ t ∧ t[j]? = some (.lst L)
theorem Sx.pn {s0 : CS} (h0 : Pn s0) {j : Nat} {L : List D} {s : CS} (h : Sx s0 j L s) : Pn s := by
  obtain ⟨p, t, hp, rfl, _⟩ := h
  exact h0.set hp t
theorem Sx.get {s0 : CS} {j : Nat} {L : List D} {s : CS} (h : Sx s0 j L s) : s[s0.length + j]? = some (.lst L) := by
  obtain ⟨p, t, hp, rfl, e⟩ := h
  rw [List.getElem?_append_right (by rw [List.length_set]; omega), List.length_set]
  rw [show s0.length + j - s0.length = j by omega]
  exact e
theorem Sx.run {s0 : CS} (h0 : Pn s0) {α : Type} {f : CS → R α} {P : α → Prop} (hf : Sp f P) {j : Nat} {L : List D} {s : CS} (h : Sx s0 j L s) : ∃ w s', f s = .ok w s' ∧ Sx s0 j L s' ∧ P w := by
  obtain ⟨w, q, u, hq, e, hw⟩ := hf s (h.pn h0)
  obtain ⟨p, t, hp, rfl, e2⟩ := h
  refine ⟨w, _, e, ⟨q, t ++ u, hq, set_set h0 _ _ _ _, ?_⟩, hw⟩
  rw [List.getElem?_append_left (List.getElem?_eq_some_iff.mp e2).1]
  exact e2
theorem Sx.put {s0 : CS} (h0 : Pn s0) {j : Nat} {L L' : List D} {s : CS} (h : Sx s0 j L s) : Sx s0 j L' (s.set (s0.length + j) (.lst L')) := by
  obtain ⟨p, t, hp, rfl, e⟩ := h
  refine ⟨p, t.set j (.lst L'), hp, ?_, ?_⟩
  · rw [List.set_append_right _ _ (by rw [List.length_set]; omega), List.length_set, show s0.length + j - s0.length = j by omega]
  · rw [List.getElem?_set_self (List.getElem?_eq_some_iff.mp e).1]
theorem Sx.app {s0 : CS} (h0 : Pn s0) {j i : Nat} {L : List D} {s : CS} (h : Sx s0 j L s) {f : En → CS → R W} {ρ : En} {p : D → Prop} (hl : L.length < 1000) (e : ρ[i]? = some (some (.c (s0.length + j)))) (hf : SpD f ρ p) :
    ∃ x s', gAppC (fVar i) f ρ s = .nx ρ s' ∧ Sx s0 j (L ++ [x]) s' ∧ p x := by
  obtain ⟨w, s1, e1, h1, x, rfl, hx⟩ := Sx.run h0 hf h
  refine ⟨x, s1.set (s0.length + j) (.lst (L ++ [x])), ?_, h1.put h0, hx⟩
  have hv : fVar i ρ s = .ok (.c (s0.length + j)) s := by simp only [fVar, e]
  unfold gAppC
  rw [hv]
  simp only [R.toT, onC, h.get, e1, appC, h1.get]
  rw [if_pos (Nat.lt_of_lt_of_le hl (by decide))]
mutual
def nod : D → Bool
  | .dict _ => false
  | .list xs => nods xs
  | .tuple xs => nods xs
  | _ => true
def nods : List D → Bool
  | [] => true
  | x :: r => nod x && nods r
end
mutual
theorem eqv_self : ∀ x : D, nod x = true → PyData.eqv x x = true
  | .none, _ => by simp [PyData.eqv]
  | .bool _, _ => by simp [PyData.eqv]
  | .int _, _ => by simp [PyData.eqv]
  | .str _, _ => by simp [PyData.eqv]
  | .list xs, h => by
    simp only [PyData.eqv]
    exact eqvs_self xs (by simpa [nod] using h)
  | .tuple xs, h => by
    simp only [PyData.eqv]
    exact eqvs_self xs (by simpa [nod] using h)
  | .dict _, h => by simp [nod] at h
theorem eqvs_self : ∀ x : List D, nods x = true → PyData.eqvAll x x = true
  | [], _ => by simp [PyData.eqvAll]
  | x :: r, h => by
    simp only [nods, Bool.and_eq_true] at h
    simp only [PyData.eqvAll, eqv_self x h.1, eqvs_self r h.2, Bool.and_self]
end
theorem ne_self {x : D} (h : SeqAt.shaped x = true) (n : nod x = true) : neD x x = some (.bool false) := by
  unfold neD
  rw [eqF_eq, eqv_self x n, if_pos ⟨h, h⟩]
  rfl
theorem eq_self {x : D} (h : SeqAt.shaped x = true) (n : nod x = true) : eqD x x = some (.bool true) := by
  unfold eqD
  rw [eqF_eq, eqv_self x n, if_pos ⟨h, h⟩]
/-! ### what repr makes of small things -/
theorem ok_app (a b : Str) : PyData.strOk (a ++ b) = (PyData.strOk a && PyData.strOk b) := by
  show ((a.cps ++ b.cps).all fun c => decide (c < 0x110000)) = _
  rw [Array.all_append]
  rfl
theorem len_app (a b : Str) : (a ++ b).length = a.length + b.length := strLen_append a b
theorem tf_len {M : Nat} : ∀ (ts : List Str) (k : Nat) (acc : Str), (∀ t ∈ ts, t.length ≤ M) → (textFrom k acc ts).length ≤ acc.length + ts.length * (M + 2)
  | [], k, acc, _ => by
    show acc.length ≤ _
    simp
  | t :: r, k, acc, h => by
    have ih := tf_len r (k + 1) (acc ++ (if k > 0 then ", " else "" : String) ++ t) fun x hx => h x (List.mem_cons_of_mem _ hx)
    have ht := h t List.mem_cons_self
    have e : (acc ++ (if k > 0 then ", " else "" : String) ++ t).length ≤ acc.length + 2 + t.length := by
      rw [len_app, len_app]
      have : (Str.ofString (if k > 0 then ", " else "" : String)).length ≤ 2 := by
        by_cases c : k > 0
        · rw [if_pos c]; decide +kernel
        · rw [if_neg c]; decide +kernel
      omega
    show (textFrom (k + 1) _ r).length ≤ _
    refine Nat.le_trans ih ?_
    rw [List.length_cons, Nat.succ_mul]
    omega
theorem tf_ok : ∀ (ts : List Str) (k : Nat) (acc : Str), PyData.strOk acc = true → (∀ t ∈ ts, PyData.strOk t = true) → PyData.strOk (textFrom k acc ts) = true
  | [], k, acc, h, _ => h
  | t :: r, k, acc, h, ht => by
    refine tf_ok r (k + 1) (acc ++ (if k > 0 then ", " else "" : String) ++ t) ?_ fun x hx => ht x (List.mem_cons_of_mem _ hx)
    rw [ok_app, ok_app, h, ht t List.mem_cons_self]
    have : PyData.strOk (Str.ofString (if k > 0 then ", " else "" : String)) = true := by
      by_cases c : k > 0
      · rw [if_pos c]; decide +kernel
      · rw [if_neg c]; decide +kernel
    rw [this]
    rfl
theorem jn_len {M : Nat} : ∀ ts : List Str, (∀ t ∈ ts, t.length ≤ M) → (Str.join ", " ts).length ≤ ts.length * (M + 2)
  | [], _ => Nat.zero_le _
  | [x], h => by
    have := h x (by simp)
    show x.length ≤ 1 * (M + 2)
    omega
  | x :: y :: r, h => by
    have ih := jn_len (y :: r) fun z hz => h z (List.mem_cons_of_mem _ hz)
    have hx := h x (by simp)
    show (x ++ (", " : Str) ++ Str.join ", " (y :: r)).length ≤ _
    rw [len_app, len_app, show ((", " : Str)).length = 2 from by decide +kernel]
    rw [show (x :: y :: r).length = (y :: r).length + 1 from rfl, Nat.succ_mul]
    omega
theorem jn_ok : ∀ ts : List Str, (∀ t ∈ ts, PyData.strOk t = true) → PyData.strOk (Str.join ", " ts) = true
  | [], _ => by decide +kernel
  | [x], h => h x (by simp)
  | x :: y :: r, h => by
    have ih := jn_ok (y :: r) fun z hz => h z (List.mem_cons_of_mem _ hz)
    show PyData.strOk (x ++ (", " : Str) ++ Str.join ", " (y :: r)) = true
    rw [ok_app, ok_app, h x (by simp), ih]
    decide +kernel
/-- data whose repr is short -/
structure Fine (n m : Nat) (x : D) : Prop where
  lay : x.canLay0 = true
  dep : x.depth ≤ n
  shw : x.showable = true
  hd : x.hasDict = false
  len : x.shown.length ≤ m
  ok : PyData.strOk x.shown = true
  nd : nod x = true
theorem Fine.mono {n m n' m' : Nat} {x : D} (h : Fine n m x) (a : n ≤ n') (b : m ≤ m') : Fine n' m' x := ⟨h.lay, Nat.le_trans h.dep a, h.shw, h.hd, Nat.le_trans h.len b, h.ok, h.nd⟩
theorem fine_all {n m : Nat} : ∀ {xs : List D}, (∀ x ∈ xs, Fine n m x) → PyData.canLayAll0 xs = true ∧ PyData.depthAll xs ≤ n ∧ PyData.showableAll xs = true ∧ PyData.hasDictAll xs = false ∧ (∀ t ∈ PyData.shownAll xs, t.length ≤ m ∧ PyData.strOk t = true) ∧ nods xs = true ∧ (PyData.shownAll xs).length = xs.length
  | [], _ => ⟨rfl, Nat.zero_le _, rfl, rfl, (fun t h => by cases h), rfl, rfl⟩
  | x :: r, h => by
    obtain ⟨a, b, c, d, e, f, g⟩ := fine_all (xs := r) fun y hy => h y (List.mem_cons_of_mem _ hy)
    have hx := h x List.mem_cons_self
    refine ⟨by simp only [PyData.canLayAll0, hx.lay, a, Bool.and_self], ?_, by simp only [PyData.showableAll, hx.shw, c, Bool.and_self], by simp only [PyData.hasDictAll, hx.hd, d, Bool.or_self], ?_, by simp only [nods, hx.nd, f, Bool.and_self], by simp only [PyData.shownAll, List.length_cons, g]⟩
    · simp only [PyData.depthAll]
      have := hx.dep
      omega
    · intro t ht
      simp only [PyData.shownAll, List.mem_cons] at ht
      rcases ht with rfl | ht
      · exact ⟨hx.len, hx.ok⟩
      · exact e t ht
theorem Fine.tuple {n m k : Nat} {xs : List D} (h : ∀ x ∈ xs, Fine n m x) (hk : xs.length ≤ k) : Fine (n + 1) (k * (m + 2) + 3) (.tuple xs) := by
  obtain ⟨a, b, c, d, e, f, g⟩ := fine_all h
  refine ⟨by simpa only [PyData.canLay0] using a, by simp only [PyData.depth]; omega, by simpa only [PyData.showable] using c, by simpa only [PyData.hasDict] using d, ?_, ?_, by simpa only [nod] using f⟩
  · simp only [PyData.shown]
    unfold tupleText
    rw [len_app, len_app]
    have h1 := jn_len (M := m) (PyData.shownAll xs) fun t ht => (e t ht).1
    rw [g] at h1
    have h2 : xs.length * (m + 2) ≤ k * (m + 2) := Nat.mul_le_mul_right _ hk
    have h3 : ((if (PyData.shownAll xs).length == 1 then ",)" else ")" : String) : Str).length ≤ 2 := by
      cases ((PyData.shownAll xs).length == 1) <;> decide +kernel
    have h4 : (("(" : Str)).length = 1 := by decide +kernel
    omega
  · simp only [PyData.shown]
    unfold tupleText
    rw [ok_app, ok_app, jn_ok _ fun t ht => (e t ht).2]
    have h3 : PyData.strOk ((if (PyData.shownAll xs).length == 1 then ",)" else ")" : String) : Str) = true := by
      cases ((PyData.shownAll xs).length == 1) <;> decide +kernel
    rw [h3]
    decide +kernel
theorem Fine.list {n m k : Nat} {xs : List D} (h : ∀ x ∈ xs, Fine n m x) (hk : xs.length ≤ k) : Fine (n + 1) (k * (m + 2) + 3) (.list xs) := by
  obtain ⟨a, b, c, d, e, f, g⟩ := fine_all h
  refine ⟨by simpa only [PyData.canLay0] using a, by simp only [PyData.depth]; omega, by simpa only [PyData.showable] using c, by simpa only [PyData.hasDict] using d, ?_, ?_, by simpa only [nod] using f⟩
  · simp only [PyData.shown]
    unfold listText
    rw [len_app]
    have h1 := tf_len (M := m) (PyData.shownAll xs) 0 "[" fun t ht => (e t ht).1
    rw [g] at h1
    have h2 : xs.length * (m + 2) ≤ k * (m + 2) := Nat.mul_le_mul_right _ hk
    have h4 : (("[" : Str)).length = 1 := by decide +kernel
    have h5 : (("]" : Str)).length = 1 := by decide +kernel
    omega
  · simp only [PyData.shown]
    unfold listText
    rw [ok_app, tf_ok _ 0 "[" (by decide +kernel) fun t ht => (e t ht).2]
    decide +kernel
def natFine (d : Nat) : Bool := decide ((PyData.shown (nD d)).length ≤ 3) && PyData.strOk (PyData.shown (nD d)) && (nD d).showable
theorem nats_fine : (List.range 100).all natFine = true := by kernel_rfl
theorem fine_nat {d : Nat} (h : d < 100) : Fine 0 3 (nD d) := by
  have := List.all_eq_true.mp nats_fine d (List.mem_range.mpr h)
  unfold natFine at this
  simp only [Bool.and_eq_true, decide_eq_true_eq] at this
  exact ⟨rfl, Nat.le_refl _, this.2, rfl, this.1.1, this.1.2, rfl⟩
theorem fine_word : ∀ w ∈ (["set", "raise", "lower", "copy", "when"] : List Str), Fine 0 7 (.str w) := by
  intro w hw
  simp only [List.mem_cons, List.not_mem_nil, or_false] at hw
  rcases hw with rfl | rfl | rfl | rfl | rfl <;> exact ⟨by decide +kernel, by decide +kernel, by decide +kernel, by decide +kernel, by decide +kernel, by decide +kernel, by decide +kernel⟩
theorem Fine.shaped {n m : Nat} {x : D} (h : Fine n m x) (hn : n ≤ 60) : SeqAt.shaped x = true := by
  unfold SeqAt.shaped
  rw [Bool.and_eq_true]
  exact ⟨h.lay, decide_eq_true (by have := h.dep; omega)⟩
/-- repr of it, and that it is itself -/
theorem Fine.repr {n m : Nat} {x : D} (h : Fine n m x) (hn : n ≤ 60) (hm : m ≤ 10000000) (hs : (∃ ds, x = .tuple ds) ∨ ∃ ds, x = .list ds) : reprD [x] = some (.str x.shown) := by
  have ok : reprOk x = true := by
    unfold reprOk
    rw [h.shw, h.hd, decide_eq_true (Nat.le_trans h.len (Nat.le_trans hm (by decide))), decide_eq_true (Nat.le_trans h.dep hn)]
    rfl
  rcases hs with ⟨ds, rfl⟩ | ⟨ds, rfl⟩
  · simp only [reprD, ok, if_true]
  · simp only [reprD, ok, if_true]
theorem Fine.ne {n m : Nat} {x : D} (h : Fine n m x) : neD (.str x.shown) (.str x.shown) = some (.bool false) :=
  ne_self (by
    unfold SeqAt.shaped
    rw [Bool.and_eq_true]
    exact ⟨by simpa only [PyData.canLay0] using h.ok, decide_eq_true (by simp only [PyData.depth]; omega)⟩) rfl
theorem fine_dT {ns : List Nat} (h : ∀ n ∈ ns, n < 100) (hl : ns.length ≤ 3) : Fine 1 18 (dT ns) := Fine.tuple (n := 0) (m := 3) (k := 3) (fun x hx => by
  obtain ⟨n, hn, rfl⟩ := List.mem_map.mp hx
  exact fine_nat (h n hn)) (by rw [List.length_map]; exact hl)
theorem cnts_fine : ∀ ns ∈ szs, ∀ c ∈ cnts ns, c.length ≤ 3 ∧ ∀ n ∈ c, n < 100 := by decide
theorem ne_nil {ns : List Nat} (h : ns ∈ szs) {ds : List (List Nat)} (hd : ds.Sublist (cnts ns)) : neD (.list (ds.map dT)) (.list []) = some (.bool (!ds.isEmpty)) := by
  have sh : SeqAt.shaped (.list (ds.map dT)) = true := (Fine.list (n := 1) (m := 18) (k := 8) (fun x hx => by
    obtain ⟨c, hc, rfl⟩ := List.mem_map.mp hx
    obtain ⟨h1, h2⟩ := cnts_fine ns h c (hd.subset hc)
    exact fine_dT h2 h1) (by rw [List.length_map]; exact Nat.le_trans hd.length_le (cnts_ok ns h).2)).shaped (by decide)
  have s0 : SeqAt.shaped (.list []) = true := by decide +kernel
  unfold neD
  rw [if_pos ⟨sh, s0⟩, eqF_eq]
  cases ds with
  | nil => simp [PyData.eqv, PyData.eqvAll]
  | cons c r => simp [PyData.eqv, PyData.eqvAll]
abbrev sideT : En → CS → R Bool := fB (f2 eqD (fCall 2 y_law_draw_r (fCons (fVar 0) (fCons (fC (.int 2)) fNil))) (fC (.int 0)))
abbrev sideC : En → CS → R W := fLc [8] (fIt (fCallP 1 (noX y_law_contents_r) (fCons (fVar 1) fNil))) (hN 8) sideT (fVar 8)
abbrev sideV : En → CS → R W := fIf (fB (f2 neD (fVar 7) (fN lstD fNil))) (fN tupleD (fCons (fVar 7) fNil)) (fN tupD (fCons (fCall 2 y_law_one_of_r (fCons (fVar 0) (fCons (fCallP 1 (noX y_law_contents_r) (fCons (fVar 1) fNil)) fNil))) fNil))
abbrev sideB : En → CS → RT := gSeq (gAsg (hN 7) sideC) (gAppC (fVar 5) sideV)
theorem draw_b {ρ : En} (e : ρ[0]? = some (some (.c 0))) : Sp (sideT ρ) (fun _ => True) :=
  sp_B (sp_2 (sp_dr (m := 2) (fun s => by simp [fCons, fVar, fC, fNil, e, R.bind]) (by decide) (by decide)) (sp_c (p := (· = .int 0)) rfl) fun a b ⟨d, ea, _⟩ eb => by
    subst ea eb
    exact ⟨_, eq_ints _ _, _, rfl, trivial⟩)
theorem sideC_sp {ns : List Nat} (h : ns ∈ szs) {b k : D} {x2 x3 x4 x5 x6 x7 x8 : Option W} : SpD sideC [some (.c 0), some (.d (.tuple [dT ns, b, k])), x2, x3, x4, x5, x6, x7, x8] fun z => ∃ ds : List (List Nat), z = .list (ds.map dT) ∧ ds.Sublist (cnts ns) := fun s hs => by
  obtain ⟨ys, p, t, hp, e, hy⟩ := sp_compS (h := hN 8) (tt := sideT) (f := fVar 8) (ρ := wipeE [some (.c 0), some (.d (.tuple [dT ns, b, k])), x2, x3, x4, x5, x6, x7, x8] [8]) ((cnts ns).map dT) (fun x _ => ⟨_, rfl, draw_b rfl, fun s => rfl⟩) s hs
  obtain ⟨ds, rfl, hd⟩ := sub_map hy
  refine ⟨.d (.list (ds.map dT)), p, t, hp, ?_, _, rfl, ds, rfl, hd⟩
  have it : fIt (fCallP 1 (noX y_law_contents_r) (fCons (fVar 1) fNil)) [some (.c 0), some (.d (.tuple [dT ns, b, k])), x2, x3, x4, x5, x6, x7, x8] s = .ok ((cnts ns).map dT) s := by
    have := callC h (b := b) (k := k) (i := 1) (ρ := [some (.c 0), some (.d (.tuple [dT ns, b, k])), x2, x3, x4, x5, x6, x7, x8]) rfl s
    unfold fIt
    rw [this]
    rfl
  show R.bind (fIt (fCallP 1 (noX y_law_contents_r) (fCons (fVar 1) fNil)) [some (.c 0), some (.d (.tuple [dT ns, b, k])), x2, x3, x4, x5, x6, x7, x8] s) _ = _
  rw [it]
  show (if ((cnts ns).map dT).length ≤ line then _ else _) = _
  rw [if_pos (by rw [List.length_map]; exact Nat.le_trans (cnts_ok ns h).2 (by decide)), e]
  rfl
theorem sideV_sp {ns : List Nat} (h : ns ∈ szs) {b k : D} {x2 x3 x4 x5 x6 x8 : Option W} {ds : List (List Nat)} (hd : ds.Sublist (cnts ns)) : SpD sideV [some (.c 0), some (.d (.tuple [dT ns, b, k])), x2, x3, x4, x5, x6, some (.d (.list (ds.map dT))), x8] (SideP ns) := by
  refine sp_if (p := (· = !ds.isEmpty)) (Sp.here (fun s => ?_) rfl) (fun e => ?_) fun e => ?_
  · show (lift2 neD (.d (.list (ds.map dT))) (.d (.list [])) s).bind toB = _
    simp only [lift2, ne_nil h hd]
    rfl
  · refine sp_same (x := .tuple (ds.map dT)) (fun s => rfl) ⟨ds, rfl, ?_, hd⟩
    rintro rfl
    exact absurd e (by decide)
  · refine sp_N (sp_cons (sp_on (xs := (cnts ns).map dT) (fun s => ?_) (by rw [List.length_map]; exact (cnts_ok ns h).1) (by rw [List.length_map]; have := (cnts_ok ns h).2; omega)) sp_nil) ?_
    · have := callC h (b := b) (k := k) (i := 1) (ρ := [some (.c 0), some (.d (.tuple [dT ns, b, k])), x2, x3, x4, x5, x6, some (.d (.list (ds.map dT))), x8]) rfl s
      show ((fCallP 1 (noX y_law_contents_r) (fCons (fVar 1) fNil) _ s).bind fun x s => R.ok [x] s).bind _ = _
      rw [this]
      rfl
    · rintro ws ⟨_, _, rfl, ⟨_, rfl, hx⟩, rfl⟩
      obtain ⟨c, hc, rfl⟩ := List.mem_map.mp hx
      exact ⟨_, _, rfl, rfl, [c], rfl, by simp, List.singleton_sublist.mpr hc⟩
theorem side_is {ns : List Nat} (h : ns ∈ szs) {b k : D} {x2 x3 x4 x6 x7 x8 : Option W} {s0 : CS} (h0 : Pn s0) {j : Nat} {L : List D} {s : CS} (hs : Sx s0 j L s) (hl : L.length < 1000) :
    ∃ y7 x s', sideB [some (.c 0), some (.d (.tuple [dT ns, b, k])), x2, x3, x4, some (.c (s0.length + j)), x6, x7, x8] s = .nx [some (.c 0), some (.d (.tuple [dT ns, b, k])), x2, x3, x4, some (.c (s0.length + j)), x6, y7, x8] s' ∧ Sx s0 j (L ++ [x]) s' ∧ SideP ns x := by
  obtain ⟨w, s1, e1, h1, z, rfl, ds, rfl, hd⟩ := Sx.run h0 (sideC_sp h (b := b) (k := k) (x2 := x2) (x3 := x3) (x4 := x4) (x5 := some (.c (s0.length + j))) (x6 := x6) (x7 := x7) (x8 := x8)) hs
  obtain ⟨x, s2, e2, h2, hx⟩ := Sx.app h0 (i := 5) h1 (ρ := [some (.c 0), some (.d (.tuple [dT ns, b, k])), x2, x3, x4, some (.c (s0.length + j)), x6, some (.d (.list (ds.map dT))), x8]) hl rfl (sideV_sp h hd)
  refine ⟨some (.d (.list (ds.map dT))), x, s2, ?_, h2, hx⟩
  have : gAsg (hN 7) sideC [some (.c 0), some (.d (.tuple [dT ns, b, k])), x2, x3, x4, some (.c (s0.length + j)), x6, x7, x8] s = .nx [some (.c 0), some (.d (.tuple [dT ns, b, k])), x2, x3, x4, some (.c (s0.length + j)), x6, some (.d (.list (ds.map dT))), x8] s1 := by
    rw [gAsg, e1]
    rfl
  exact (seq_at this).trans e2
abbrev ruleV : En → CS → R W := fN tupD (fCons (fCall 2 y_law_draw_r (fCons (fVar 0) (fCons (f2 addD (fN lenD (fCons (f2 ixD (fVar 1) (fC (.int 2))) fNil)) (fC (.int 1))) fNil))) (fCons (fIxA (fVar 5) (fC (.int 0))) (fCons (fIxA (fVar 5) (fC (.int 1))) fNil)))
abbrev ruleB : En → CS → RT := gSeq (gAsg (hN 5) (fNew fNil)) (gSeq (gFor (fRng1 (fC (.int 2))) (hN 6) sideB) (gAppC (fVar 3) ruleV))
theorem rules_g_is : y_law_rules_g = gSeq (gAsg (hN 3) (fNew fNil)) (gSeq (gFor (fRng1 (fCall 2 y_law_draw_r (fCons (fVar 0) (fCons (f2 addD (fVar 2) (fC (.int 1))) fNil)))) (hN 4) ruleB) (gRet (fN tupleD (fCons (fFrz 3) fNil)))) := rfl
theorem Sx.trans {s00 s s4 : CS} (h00 : Pn s00) {j i : Nat} {L M : List D} (a : Sx s00 j L s) (b : Sx s i M s4) : Sx s00 j L s4 := by
  obtain ⟨p, t, hp, rfl, e⟩ := a
  obtain ⟨q, u, hq, rfl, _⟩ := b
  refine ⟨q, t ++ u, hq, set_set h00 _ _ _ _, ?_⟩
  rw [List.getElem?_append_left (List.getElem?_eq_some_iff.mp e).1]
  exact e
theorem Sx.new {s : CS} (h : Pn s) : Sx s 0 [] (s ++ [.lst []]) := by
  obtain ⟨p, e, hp⟩ := h
  refine ⟨p, [.lst []], hp, ?_, rfl⟩
  have := set_id e
  rw [List.append_nil] at this
  rw [this]
theorem fN3 {g : List D → Option D} {f1 f2 f3 : En → CS → R W} {ρ : En} {s s1 s2 s3 : CS} {a b c z : D} (e1 : f1 ρ s = .ok (.d a) s1) (e2 : f2 ρ s1 = .ok (.d b) s2) (e3 : f3 ρ s2 = .ok (.d c) s3) (h : g [a, b, c] = some z) : fN g (fCons f1 (fCons f2 (fCons f3 fNil))) ρ s = .ok (.d z) s3 := by
  simp only [fN, fCons, fNil, e1, e2, e3, R.bind, liftN, allD, Option.map, h]
theorem fIxA_at {i : Nat} {c : Int} {ρ : En} {s : CS} {n : Nat} {ds : List D} {x : D} (e : ρ[i]? = some (some (.c n))) (h : s[n]? = some (.lst ds)) (k : atI ds c = some x) : fIxA (fVar i) (fC (.int c)) ρ s = .ok (.d x) s := by
  simp only [fIxA, fVar, e, R.bind, fC, ixA, ixC, h, k]
theorem new_at {i : Nat} {ρ : En} {s : CS} : gAsg (hN i) (fNew fNil) ρ s = .nx (ρ.set i (some (.c s.length))) (s ++ [.lst []]) := rfl
/-- a rule more -/
theorem rule_is {ns : List Nat} (h : ns ∈ szs) {b : D} {ks : List D} {m : Nat} (hm : ks.length = m) (hm5 : m ≤ 5) {x2 x4 x5 x6 x7 x8 : Option W} {s00 : CS} (h00 : Pn s00) {j : Nat} {L : List D} {s : CS} (hs : Sx s00 j L s) (hl : L.length < 1000) :
    ∃ y5 y6 y7 x s', ruleB [some (.c 0), some (.d (.tuple [dT ns, b, .tuple ks])), x2, some (.c (s00.length + j)), x4, x5, x6, x7, x8] s = .nx [some (.c 0), some (.d (.tuple [dT ns, b, .tuple ks])), x2, some (.c (s00.length + j)), x4, y5, y6, y7, x8] s' ∧ Sx s00 j (L ++ [x]) s' ∧ RuleP ns m x := by
  have h0 := hs.pn h00
  have a0 := Sx.new h0
  obtain ⟨u7, v1, s1, e1, a1, p1⟩ := side_is h (b := b) (k := .tuple ks) (x2 := x2) (x3 := some (.c (s00.length + j))) (x4 := x4) (x6 := some (.d (.int 0))) (x7 := x7) (x8 := x8) h0 a0 (by show 0 < 1000; decide)
  obtain ⟨w7, v2, s2, e2, a2, p2⟩ := side_is h (b := b) (k := .tuple ks) (x2 := x2) (x3 := some (.c (s00.length + j))) (x4 := x4) (x6 := some (.d (.int 1))) (x7 := u7) (x8 := x8) h0 a1 (by show 1 < 1000; decide)
  rw [Nat.add_zero] at e1 e2
  have ef : gFor (fRng1 (fC (.int 2))) (hN 6) sideB [some (.c 0), some (.d (.tuple [dT ns, b, .tuple ks])), x2, some (.c (s00.length + j)), x4, some (.c s.length), x6, x7, x8] (s ++ [.lst []]) =
      .nx [some (.c 0), some (.d (.tuple [dT ns, b, .tuple ks])), x2, some (.c (s00.length + j)), x4, some (.c s.length), some (.d (.int 1)), w7, x8] s2 := by
    show forL (hN 6) sideB [.int 0, .int 1] _ _ = _
    have q0 : hN 6 (.d (.int 0)) [some (.c 0), some (.d (.tuple [dT ns, b, .tuple ks])), x2, some (.c (s00.length + j)), x4, some (.c s.length), x6, x7, x8] = some [some (.c 0), some (.d (.tuple [dT ns, b, .tuple ks])), x2, some (.c (s00.length + j)), x4, some (.c s.length), some (.d (.int 0)), x7, x8] := rfl
    have q1 : hN 6 (.d (.int 1)) [some (.c 0), some (.d (.tuple [dT ns, b, .tuple ks])), x2, some (.c (s00.length + j)), x4, some (.c s.length), some (.d (.int 0)), u7, x8] = some [some (.c 0), some (.d (.tuple [dT ns, b, .tuple ks])), x2, some (.c (s00.length + j)), x4, some (.c s.length), some (.d (.int 1)), u7, x8] := rfl
    unfold forL
    simp only [q0]
    rw [e1]
    show forL (hN 6) sideB [.int 1] _ s1 = _
    unfold forL
    simp only [q1]
    rw [e2]
    rfl
  -- the item
  have dr : SpD (fCall 2 y_law_draw_r (fCons (fVar 0) (fCons (f2 addD (fN lenD (fCons (f2 ixD (fVar 1) (fC (.int 2))) fNil)) (fC (.int 1))) fNil))) [some (.c 0), some (.d (.tuple [dT ns, b, .tuple ks])), x2, some (.c (s00.length + j)), x4, some (.c s.length), some (.d (.int 1)), w7, x8] (Bel (m + 1)) :=
    sp_dr (fun s => by
      show R.ok [W.c 0, W.d (.int ((ks.length : Int) + 1))] s = _
      rw [hm]
      rfl) (by omega) (by omega)
  obtain ⟨w, s3, e3, a3, y, rfl, it, rfl, hit⟩ := Sx.run h0 dr a2
  have g3 : s3[s.length]? = some (.lst ([] ++ [v1] ++ [v2])) := by
    have := a3.get
    rw [Nat.add_zero] at this
    exact this
  have ev : ruleV [some (.c 0), some (.d (.tuple [dT ns, b, .tuple ks])), x2, some (.c (s00.length + j)), x4, some (.c s.length), some (.d (.int 1)), w7, x8] s2 = .ok (.d (.tuple [nD it, v1, v2])) s3 :=
    fN3 e3 (fIxA_at (c := 0) rfl g3 rfl) (fIxA_at (c := 1) rfl g3 rfl) rfl
  have b2 : Sx s00 j L s2 := hs.trans h00 a2
  have b3 : Sx s00 j L s3 := hs.trans h00 a3
  refine ⟨some (.c s.length), some (.d (.int 1)), w7, .tuple [nD it, v1, v2], s3.set (s00.length + j) (.lst (L ++ [.tuple [nD it, v1, v2]])), ?_, b3.put h00, it, v1, v2, rfl, by omega, p1, p2⟩
  have ea : gAppC (fVar 3) ruleV [some (.c 0), some (.d (.tuple [dT ns, b, .tuple ks])), x2, some (.c (s00.length + j)), x4, some (.c s.length), some (.d (.int 1)), w7, x8] s2 = .nx [some (.c 0), some (.d (.tuple [dT ns, b, .tuple ks])), x2, some (.c (s00.length + j)), x4, some (.c s.length), some (.d (.int 1)), w7, x8] (s3.set (s00.length + j) (.lst (L ++ [.tuple [nD it, v1, v2]]))) := by
    have hv : fVar 3 [some (.c 0), some (.d (.tuple [dT ns, b, .tuple ks])), x2, some (.c (s00.length + j)), x4, some (.c s.length), some (.d (.int 1)), w7, x8] s2 = .ok (.c (s00.length + j)) s2 := rfl
    unfold gAppC
    rw [hv]
    simp only [R.toT, onC, b2.get, ev, appC, b3.get]
    rw [if_pos (Nat.lt_of_lt_of_le hl (by decide))]
  exact (seq_at new_at).trans ((seq_at ef).trans ea)
theorem rules_loop {ns : List Nat} (h : ns ∈ szs) {b : D} {ks : List D} {m : Nat} (hm : ks.length = m) (hm5 : m ≤ 5) {x2 x8 : Option W} {s00 : CS} (h00 : Pn s00) {j : Nat} : ∀ (items : List D) (L : List D) (s : CS) (x4 x5 x6 x7 : Option W), Sx s00 j L s → L.length + items.length < 1000 → (∀ x ∈ L, RuleP ns m x) →
    ∃ y4 y5 y6 y7 L' s', forL (hN 4) ruleB items [some (.c 0), some (.d (.tuple [dT ns, b, .tuple ks])), x2, some (.c (s00.length + j)), x4, x5, x6, x7, x8] s = .nx [some (.c 0), some (.d (.tuple [dT ns, b, .tuple ks])), x2, some (.c (s00.length + j)), y4, y5, y6, y7, x8] s' ∧
      Sx s00 j L' s' ∧ L'.length = L.length + items.length ∧ ∀ x ∈ L', RuleP ns m x
  | [], L, s, x4, x5, x6, x7, hs, _, hL => ⟨x4, x5, x6, x7, L, s, rfl, hs, rfl, hL⟩
  | y :: items, L, s, x4, x5, x6, x7, hs, hl, hL => by
    rw [List.length_cons] at hl
    obtain ⟨y5, y6, y7, x, s1, e1, a1, hx⟩ := rule_is h hm hm5 (b := b) (x2 := x2) (x4 := some (.d y)) (x5 := x5) (x6 := x6) (x7 := x7) (x8 := x8) h00 hs (by omega)
    obtain ⟨z4, z5, z6, z7, L', s', e2, a2, l2, r2⟩ := rules_loop h hm hm5 (b := b) (x2 := x2) (x8 := x8) h00 items (L ++ [x]) s1 (some (.d y)) y5 y6 y7 a1 (by rw [List.length_append]; simp; omega) (fun z hz => (List.mem_append.mp hz).elim (hL z) fun q => by
      rw [List.mem_singleton.mp q]
      exact hx)
    refine ⟨z4, z5, z6, z7, L', s', ?_, a2, by rw [l2, List.length_append, List.length_cons]; simp; omega, r2⟩
    have q0 : hN 4 (.d y) [some (.c 0), some (.d (.tuple [dT ns, b, .tuple ks])), x2, some (.c (s00.length + j)), x4, x5, x6, x7, x8] = some [some (.c 0), some (.d (.tuple [dT ns, b, .tuple ks])), x2, some (.c (s00.length + j)), some (.d y), x5, x6, x7, x8] := rfl
    unfold forL
    simp only [q0]
    rw [e1]
    exact e2
theorem rules_sp {ns : List Nat} {m : Nat} {hd : D} (hh : HouseN ns m hd) {mo : Nat} (hmo : mo ≤ 5) : Sp (noX y_law_rules_r [.c 0, .d hd, .d (nD mo)]) (Dd (RulesP ns m)) := by
  obtain ⟨bs, ks, h, rfl, _, hm1, hm5, hm, _⟩ := hh
  refine sp_def rfl ?_
  rw [rules_g_is]
  intro s hs
  have a0 := Sx.new hs
  have dr : SpD (fCall 2 y_law_draw_r (fCons (fVar 0) (fCons (f2 addD (fVar 2) (fC (.int 1))) fNil))) [some (.c 0), some (.d (.tuple [dT ns, dT bs, .tuple ks])), some (.d (nD mo)), some (.c s.length), none, none, none, none, none] (Bel (mo + 1)) := sp_dr (fun s => rfl) (by omega) (by omega)
  obtain ⟨xs, s1, er, a1, jj, rfl, hj0, hj1, hj2⟩ := Sx.run hs (sp_rng (p := fun j => j ≤ mo) (dr.imp fun w ⟨x, e, d, ex, hd⟩ => ⟨x, e, (d : Int), ex, by omega, by omega, by omega⟩)) a0
  obtain ⟨y4, y5, y6, y7, L, s2, e2, a2, l2, r2⟩ := rules_loop h hm hm5 (b := dT bs) (x2 := some (.d (nD mo))) (x8 := none) hs (j := 0) (rngD 0 jj.toNat) [] s1 none none none none a1 (by simp [rngD]; omega) (fun x hx => by cases hx)
  rw [Nat.add_zero] at e2
  have ef : gFor (fRng1 (fCall 2 y_law_draw_r (fCons (fVar 0) (fCons (f2 addD (fVar 2) (fC (.int 1))) fNil)))) (hN 4) ruleB [some (.c 0), some (.d (.tuple [dT ns, dT bs, .tuple ks])), some (.d (nD mo)), some (.c s.length), none, none, none, none, none] (s ++ [.lst []]) =
      .nx [some (.c 0), some (.d (.tuple [dT ns, dT bs, .tuple ks])), some (.d (nD mo)), some (.c s.length), y4, y5, y6, y7, none] s2 := by
    unfold gFor
    rw [er]
    exact e2
  have g2 : s2[s.length]? = some (.lst L) := by
    have := a2.get
    rw [Nat.add_zero] at this
    exact this
  have ee : gRet (fN tupleD (fCons (fFrz 3) fNil)) [some (.c 0), some (.d (.tuple [dT ns, dT bs, .tuple ks])), some (.d (nD mo)), some (.c s.length), y4, y5, y6, y7, none] s2 = .rt (.d (.tuple L)) (s2.set s.length .dead) := by
    have hf : fFrz 3 [some (.c 0), some (.d (.tuple [dT ns, dT bs, .tuple ks])), some (.d (nD mo)), some (.c s.length), y4, y5, y6, y7, none] s2 = .ok (.d (.list L)) (s2.set s.length .dead) := by
      show (match s2[s.length]? with
        | some (.lst ds) => R.ok (W.d (.list ds)) (s2.set s.length .dead)
        | _ => .bad) = _
      rw [g2]
    simp only [gRet, fN, fCons, fNil, hf, R.bind, liftN, allD, Option.map, tupleD, R.toT]
  obtain ⟨p, t, hp, es, et⟩ := a2
  refine ⟨.d (.tuple L), p, t.set 0 .dead, hp, ?_, .tuple L, rfl, L, rfl, ?_, r2⟩
  · refine (seq_at new_at).trans ((seq_at ef).trans (ee.trans ?_))
    rw [es, List.set_append_right _ _ (by rw [List.length_set]; omega), List.length_set, Nat.sub_self]
  · rw [l2]
    simp [rngD]
    omega
/-! ### wide, trap, deep; a house with its rules -/
def rD (it : Nat) (fs ts : List (List Nat)) : D := .tuple [nD it, .tuple (fs.map dT), .tuple (ts.map dT)]
theorem rule_of {ns : List Nat} {m it : Nat} {fs ts : List (List Nat)} (h : it ≤ m) (hf : fs ≠ []) (ht : ts ≠ []) (sf : fs.Sublist (cnts ns)) (st : ts.Sublist (cnts ns)) : RuleP ns m (rD it fs ts) := ⟨it, _, _, rfl, h, ⟨fs, rfl, hf, sf⟩, ts, rfl, ht, st⟩
def sbL : List (List Nat) → List (List Nat) → Bool
  | [], _ => true
  | _ :: _, [] => false
  | x :: xs, y :: ys => if x = y then sbL xs ys else sbL (x :: xs) ys
theorem sbL_sub : ∀ (ys xs : List (List Nat)), sbL xs ys = true → xs.Sublist ys
  | ys, [], _ => List.nil_sublist _
  | [], _ :: _, h => by cases h
  | y :: ys, x :: xs, h => by
    unfold sbL at h
    split at h
    · rename_i e
      rw [e]
      exact (sbL_sub ys xs h).cons_cons y
    · exact (sbL_sub ys (x :: xs) h).cons y
def stS (w : Str) (c l : Nat) : D := .tuple [.str w, nD c, nD l]
def stW (c lo hi : Nat) (x : D) : D := .tuple [.str "when", nD c, nD lo, nD hi, x]
theorem st_plain {ns : List Nat} {w : Str} {c l m : Nat} (h : w ∈ W3) (e : ns[c]? = some m) (hl : l < m) : StepP ns (stS w c l) := .plain (.num h e hl)
theorem st_when {ns : List Nat} {w : Str} {c c2 lo hi l m m2 : Nat} (e : ns[c2]? = some m2) (h1 : lo ≤ hi) (h2 : hi < m2) (h : w ∈ W3) (e2 : ns[c]? = some m) (hl : l < m) : StepP ns (stW c2 lo hi (stS w c l)) := .when e h1 h2 (.num h e2 hl)
theorem one_kind {ns : List Nat} {s : D} (h : StepP ns s) : KindP ns (.tuple [s]) := ⟨[s], rfl, by simp, fun x hx => by rw [List.mem_singleton.mp hx]; exact h⟩
theorem two_kind {ns : List Nat} {s t : D} (h : StepP ns s) (k : StepP ns t) : KindP ns (.tuple [s, t]) := ⟨[s, t], rfl, by simp, fun x hx => by
  rcases List.mem_cons.mp hx with rfl | hx
  · exact h
  · rw [List.mem_singleton.mp hx]
    exact k⟩
theorem m_set : ("set" : Str) ∈ W3 := by simp [W3]
theorem m_raise : ("raise" : Str) ∈ W3 := by simp [W3]
def wideK : D := .tuple [.tuple [stS "set" 0 0], .tuple [stS "raise" 0 1], .tuple [stW 0 1 1 (stS "set" 0 2)]]
def wideH : D := .tuple [dT [3], dT [0], wideK]
theorem wideH_ok : HouseN [3] 3 wideH := ⟨[0], _, by decide, rfl, .cons (by decide) .nil, by decide, by decide, rfl, fun k hk => by
  simp only [List.mem_cons, List.not_mem_nil, or_false] at hk
  rcases hk with rfl | rfl | rfl
  · exact one_kind (st_plain m_set rfl (by decide))
  · exact one_kind (st_plain m_raise rfl (by decide))
  · exact one_kind (st_when rfl (by decide) (by decide) m_set rfl (by decide))⟩
def wideM : List (List D) := [[], [rD 3 [[1]] [[0]]], [rD 1 [[0], [2]] [[1]]]]
theorem sp_pick {xs : List D} {f : En → CS → R W} {m : Nat} {ρ : En} (e : ∀ s, f ρ s = .ok (.d (.list xs)) s) {fm : En → CS → R W} (e2 : ∀ s, fCons (fVar 0) (fCons fm fNil) ρ s = .ok [.c 0, .d (.int m)] s) (hm : m = xs.length) (h0 : 0 < xs.length) (hl : xs.length < 1000) :
    SpD (f2 ixD f (fCall 2 y_law_draw_r (fCons (fVar 0) (fCons fm fNil)))) ρ (· ∈ xs) :=
  sp_2 (sp_same (p := (· = .list xs)) e rfl) (sp_dr e2 (by omega) (by omega)) fun x y hx ⟨d, hy, hd⟩ => by
    subst hx hy
    exact ⟨xs[d]'(by omega), atI_nat (by omega), List.getElem_mem _⟩
theorem wide_sp : Sp (noX y_law_wide_r [.c 0]) (Dd PairP) := by
  refine sp_def rfl (sp_let (p := (· = wideK)) (sp_same (fun s => rfl) rfl) fun x hx => ?_)
  subst hx
  refine sp_let (p := (· ∈ wideM.map .tuple)) (sp_pick (xs := wideM.map .tuple) (m := 3) (fun s => rfl) (fun s => rfl) rfl (by decide) (by decide)) fun x hx => ?_
  obtain ⟨more, hm, rfl⟩ := List.mem_map.mp hx
  refine sp_ret (sp_same (x := .tuple [wideH, .tuple (rD 2 [[0]] [[1]] :: more)]) (fun s => ?_) ⟨[3], 3, _, _, rfl, wideH_ok, _, rfl, ?_, ?_⟩)
  · simp only [wideM, List.mem_cons, List.not_mem_nil, or_false] at hm
    rcases hm with rfl | rfl | rfl <;> rfl
  · simp only [wideM, List.mem_cons, List.not_mem_nil, or_false] at hm
    rcases hm with rfl | rfl | rfl <;> decide
  · intro r hr
    rcases List.mem_cons.mp hr with rfl | hr
    · exact rule_of (by decide) (by decide) (by decide) (sbL_sub _ _ (by decide)) (sbL_sub _ _ (by decide))
    · simp only [wideM, List.mem_cons, List.not_mem_nil, or_false] at hm
      rcases hm with rfl | rfl | rfl
      · cases hr
      · rw [List.mem_singleton.mp hr]
        exact rule_of (by decide) (by decide) (by decide) (sbL_sub _ _ (by decide)) (sbL_sub _ _ (by decide))
      · rw [List.mem_singleton.mp hr]
        exact rule_of (by decide) (by decide) (by decide) (sbL_sub _ _ (by decide)) (sbL_sub _ _ (by decide))
def trapK : D := .tuple [.tuple [stW 0 5 5 (stS "set" 0 1)], .tuple [stW 0 3 3 (stS "set" 0 1), stW 0 4 4 (stS "set" 0 2)], .tuple [stS "raise" 0 3], .tuple [stS "raise" 0 4], .tuple [stS "raise" 0 5]]
def trapH : D := .tuple [dT [6], dT [0], trapK]
theorem trapH_ok : HouseN [6] 5 trapH := ⟨[0], _, by decide, rfl, .cons (by decide) .nil, by decide, by decide, rfl, fun k hk => by
  simp only [List.mem_cons, List.not_mem_nil, or_false] at hk
  rcases hk with rfl | rfl | rfl | rfl | rfl
  · exact one_kind (st_when rfl (by decide) (by decide) m_set rfl (by decide))
  · exact two_kind (st_when rfl (by decide) (by decide) m_set rfl (by decide)) (st_when rfl (by decide) (by decide) m_set rfl (by decide))
  · exact one_kind (st_plain m_raise rfl (by decide))
  · exact one_kind (st_plain m_raise rfl (by decide))
  · exact one_kind (st_plain m_raise rfl (by decide))⟩
def trapM : List (List D) := [[], [rD 5 [[1]] [[1]]]]
theorem trap_sp : Sp (noX y_law_trap_r [.c 0]) (Dd PairP) := by
  refine sp_def rfl (sp_let (p := (· = .tuple [stW 0 5 5 (stS "set" 0 1)])) (sp_same (fun s => rfl) rfl) fun x hx => ?_)
  subst hx
  refine sp_let (p := (· = .tuple [stW 0 3 3 (stS "set" 0 1), stW 0 4 4 (stS "set" 0 2)])) (sp_same (fun s => rfl) rfl) fun x hx => ?_
  subst hx
  refine sp_let (p := (· = trapK)) (sp_same (fun s => rfl) rfl) fun x hx => ?_
  subst hx
  refine sp_let (p := (· ∈ trapM.map .tuple)) (sp_pick (xs := trapM.map .tuple) (m := 2) (fun s => rfl) (fun s => rfl) rfl (by decide) (by decide)) fun x hx => ?_
  obtain ⟨more, hm, rfl⟩ := List.mem_map.mp hx
  refine sp_ret (sp_same (x := .tuple [trapH, .tuple (rD 0 [[0]] [[5]] :: rD 1 [[3]] [[4]] :: more)]) (fun s => ?_) ⟨[6], 5, _, _, rfl, trapH_ok, _, rfl, ?_, ?_⟩)
  · simp only [trapM, List.mem_cons, List.not_mem_nil, or_false] at hm
    rcases hm with rfl | rfl <;> rfl
  · simp only [trapM, List.mem_cons, List.not_mem_nil, or_false] at hm
    rcases hm with rfl | rfl <;> decide
  · intro r hr
    rcases List.mem_cons.mp hr with rfl | hr
    · exact rule_of (by decide) (by decide) (by decide) (sbL_sub _ _ (by decide)) (sbL_sub _ _ (by decide))
    rcases List.mem_cons.mp hr with rfl | hr
    · exact rule_of (by decide) (by decide) (by decide) (sbL_sub _ _ (by decide)) (sbL_sub _ _ (by decide))
    · simp only [trapM, List.mem_cons, List.not_mem_nil, or_false] at hm
      rcases hm with rfl | rfl
      · cases hr
      · rw [List.mem_singleton.mp hr]
        exact rule_of (by decide) (by decide) (by decide) (sbL_sub _ _ (by decide)) (sbL_sub _ _ (by decide))
def needK : D := .tuple [stW 0 1 1 (stS "set" 0 0), stW 0 2 2 (stS "set" 0 1)]
def deepH : D := .tuple [dT [3], dT [0], .tuple [.tuple [stS "raise" 0 2], needK, needK]]
theorem deepH_ok : HouseN [3] 3 deepH := ⟨[0], _, by decide, rfl, .cons (by decide) .nil, by decide, by decide, rfl, fun k hk => by
  simp only [List.mem_cons, List.not_mem_nil, or_false] at hk
  rcases hk with rfl | rfl | rfl
  · exact one_kind (st_plain m_raise rfl (by decide))
  · exact two_kind (st_when rfl (by decide) (by decide) m_set rfl (by decide)) (st_when rfl (by decide) (by decide) m_set rfl (by decide))
  · exact two_kind (st_when rfl (by decide) (by decide) m_set rfl (by decide)) (st_when rfl (by decide) (by decide) m_set rfl (by decide))⟩
theorem deep_sp : Sp (noX y_law_deep_r [.c 0]) (Dd PairP) := by
  refine sp_def rfl (sp_let (p := (· = needK)) (sp_same (fun s => rfl) rfl) fun x hx => ?_)
  subst hx
  refine sp_let (p := (· = deepH)) (sp_same (fun s => rfl) rfl) fun x hx => ?_
  subst hx
  refine sp_ret (sp_same (x := .tuple [deepH, .tuple [rD 1 [[0]] [[2]], rD 2 [[1]] [[2]]]]) (fun s => rfl) ⟨[3], 3, _, _, rfl, deepH_ok, _, rfl, by decide, ?_⟩)
  intro r hr
  rcases List.mem_cons.mp hr with rfl | hr
  · exact rule_of (by decide) (by decide) (by decide) (sbL_sub _ _ (by decide)) (sbL_sub _ _ (by decide))
  · rw [List.mem_singleton.mp hr]
    exact rule_of (by decide) (by decide) (by decide) (sbL_sub _ _ (by decide)) (sbL_sub _ _ (by decide))
theorem houseN_of {x : D} (h : HouseP x) : ∃ ns m, HouseN ns m x := by
  obtain ⟨ns, bs, ks, h1, rfl, h2, h3, h4, h5⟩ := h
  exact ⟨ns, ks.length, bs, ks, h1, rfl, h2, h3, h4, rfl, h5⟩
theorem lt_at (a b : Int) : ltD (.int a) (.int b) = some (.bool (decide (a < b))) := rfl
theorem pair_sp : Sp (noX y_law_pair_r [.c 0]) (Dd PairP) := by
  refine sp_def rfl (sp_let (p := Bel 8) (sp_dr (fun s => rfl) (by decide) (by decide)) fun x hx => ?_)
  obtain ⟨d, rfl, hd⟩ := hx
  show SpR _ [some (.c 0), some (.d (nD d)), none] _
  refine sp_ifR (p := fun b => b = decide ((d : Int) < 3)) (Sp.here (fun s => rfl) rfl) (fun e => ?_) fun e => ?_
  · have h3 : d < 3 := by
      have := of_decide_eq_true e.symm
      omega
    refine sp_ret ?_
    have : d = 0 ∨ d = 1 ∨ d = 2 := by omega
    rcases this with rfl | rfl | rfl
    · show Sp (noX y_law_wide_r [.c 0]) _
      exact wide_sp
    · show Sp (noX y_law_trap_r [.c 0]) _
      exact trap_sp
    · show Sp (noX y_law_deep_r [.c 0]) _
      exact deep_sp
  · refine sp_let (p := HouseP) (sp_if (p := fun _ => True) (Sp.here (w := decide ((d : Int) < 7)) (fun s => rfl) trivial) (fun _ => sp_cl (ws := [.c 0]) (fun s => rfl) rfl small_house_sp) fun _ => sp_cl (ws := [.c 0]) (fun s => rfl) rfl some_house_sp) fun x hx => ?_
    obtain ⟨ns, m, hn⟩ := houseN_of hx
    show SpR _ [some (.c 0), some (.d (nD d)), some (.d x)] _
    refine sp_ret (sp_N (sp_cons (sp_v (p := (· = x)) rfl rfl) (sp_cons (sp_cl (ws := [.c 0, .d x, .d (nD 3)]) (fun s => rfl) rfl (rules_sp hn (by decide))) sp_nil)) ?_)
    rintro ws ⟨_, _, rfl, ⟨_, rfl, rfl⟩, _, _, rfl, ⟨_, rfl, hr⟩, rfl⟩
    exact ⟨_, _, rfl, rfl, ns, m, _, _, rfl, hn, hr⟩
/-! ### what a kind makes of a content: the program's and the law's -/
def natOf : D → Option Nat
  | .int (.ofNat n) => some n
  | _ => none
theorem natOf_eq {x : D} {n : Nat} (h : natOf x = some n) : x = nD n := by
  unfold natOf at h
  split at h
  · cases h
    rfl
  · cases h
def natsOf : List D → Option (List Nat)
  | [] => some []
  | x :: r => match natOf x, natsOf r with
    | some n, some l => some (n :: l)
    | _, _ => none
theorem natsOf_eq : ∀ {xs : List D} {l : List Nat}, natsOf xs = some l → xs = l.map nD
  | [], _, h => by cases h; rfl
  | x :: r, l, h => by
    unfold natsOf at h
    split at h
    · rename_i n l' e1 e2
      cases h
      rw [natOf_eq e1, natsOf_eq e2]
      rfl
    · cases h
def outP (r : R W) : Option (List Nat) := match r with
  | .ok (.d (.tuple xs)) _ => natsOf xs
  | _ => none
def outL (r : R W) : Option (List Nat) := match r with
  | .ok (.d .none) [.lst xs] => natsOf xs
  | _ => none
theorem outP_eq {h : List W → CS → R W} {ws : List W} {l : List Nat} (e : outP (h ws []) = some l) : pureR h ws [] = .ok (.d (dT l)) [] := by
  unfold outP at e
  split at e
  · rename_i xs s' hx
    unfold pureR
    rw [hx]
    show R.ok (W.d (.tuple xs)) [] = _
    rw [natsOf_eq e]
    rfl
  · cases e
theorem outL_eq {r : R W} {l : List Nat} (e : outL r = some l) : r = .ok (.d .none) [.lst (l.map nD)] := by
  unfold outL at e
  split at e
  · rename_i xs
    rw [natsOf_eq e]
  · cases e
def plainL (ns : List Nat) : List D := ((List.range ns.length).flatMap fun c => W3.flatMap fun w => (List.range (ns.getD c 0)).map fun l => stS w c l) ++ ((List.range ns.length).flatMap fun c => ((List.range ns.length).filter (· ≠ c)).map fun o => stS "copy" c o)
theorem plain_in {ns : List Nat} {x : D} (h : Plain ns x) : x ∈ plainL ns := by
  cases h with
  | @num w c l m hw e hl =>
    obtain ⟨hc, e2⟩ := List.getElem?_eq_some_iff.mp e
    refine List.mem_append_left _ (List.mem_flatMap.mpr ⟨c, List.mem_range.mpr hc, List.mem_flatMap.mpr ⟨w, hw, List.mem_map.mpr ⟨l, List.mem_range.mpr ?_, rfl⟩⟩⟩)
    rw [List.getD_eq_getElem?_getD, e]
    exact hl
  | @copy c o hc ho hne =>
    exact List.mem_append_right _ (List.mem_flatMap.mpr ⟨c, List.mem_range.mpr hc, List.mem_map.mpr ⟨o, List.mem_filter.mpr ⟨List.mem_range.mpr ho, by simpa using hne⟩, rfl⟩⟩)
def memL (c : List Nat) : List (List Nat) → Bool
  | [] => false
  | d :: r => natsEq c d || memL c r
theorem memL_in {c : List Nat} : ∀ {L : List (List Nat)}, memL c L = true → c ∈ L
  | [], h => by cases h
  | d :: r, h => by
    unfold memL at h
    rw [Bool.or_eq_true] at h
    rcases h with h | h
    · rw [natsEq_eq] at h
      rw [of_decide_eq_true h]
      exact List.mem_cons_self
    · exact List.mem_cons_of_mem _ (memL_in h)
def chkP (ns : List Nat) (C : List (List Nat)) (x : D) (c : List Nat) : Bool := match outP (noX y_behind_plain_step_r [.d (dT ns), .d x, .d (dT c)] []), outL (y_law_stepped_r [.d (dT ns), .c 0, .d x] [.lst (c.map nD)]) with
  | some a, some b => natsEq a b && memL a C
  | _, _ => false
def chkS (ns : List Nat) : Bool := match cnts ns with
  | C => (plainL ns).all fun x => C.all fun c => chkP ns C x c
theorem chk1 : [[2], [3], [4], [5]].all chkS = true := by kernel_rfl
theorem chk2 : [[6], [7], [8]].all chkS = true := by kernel_rfl
theorem chk3 : [[2, 2], [2, 3], [3, 2]].all chkS = true := by kernel_rfl
theorem chk4 : [[2, 4], [4, 2], [2, 2, 2]].all chkS = true := by kernel_rfl
theorem chk_all {ns : List Nat} (h : ns ∈ szs) : chkS ns = true := by
  have e : szs = [[2], [3], [4], [5]] ++ ([[6], [7], [8]] ++ ([[2, 2], [2, 3], [3, 2]] ++ [[2, 4], [4, 2], [2, 2, 2]])) := rfl
  rw [e] at h
  rcases List.mem_append.mp h with h | h
  · exact List.all_eq_true.mp chk1 ns h
  rcases List.mem_append.mp h with h | h
  · exact List.all_eq_true.mp chk2 ns h
  rcases List.mem_append.mp h with h | h
  · exact List.all_eq_true.mp chk3 ns h
  · exact List.all_eq_true.mp chk4 ns h
theorem plain_both {ns : List Nat} (h : ns ∈ szs) {x : D} (hx : Plain ns x) {c : List Nat} (hc : c ∈ cnts ns) : ∃ c' ∈ cnts ns, pureR (noX y_behind_plain_step_r) [.d (dT ns), .d x, .d (dT c)] [] = .ok (.d (dT c')) [] ∧ y_law_stepped_r [.d (dT ns), .c 0, .d x] [.lst (c.map nD)] = .ok (.d .none) [.lst (c'.map nD)] := by
  have := List.all_eq_true.mp (List.all_eq_true.mp (chk_all h) x (plain_in hx)) c hc
  unfold chkP at this
  split at this
  · rename_i a b e1 e2
    rw [Bool.and_eq_true, natsEq_eq] at this
    have eab := of_decide_eq_true this.1
    subst eab
    exact ⟨a, memL_in this.2, outP_eq e1, outL_eq e2⟩
  · cases this
theorem call_of {m n : Nat} {g : En → CS → RT} {ws : List W} {s s' : CS} {w : W} (hl : ws.length = m) (e : g (startE n ws) s = .rt w s') : noX (fnR m n g) ws s = .ok w s' := by
  unfold noX fnR
  rw [if_pos hl, e]
theorem pure_of {h : List W → CS → R W} {ws : List W} {v : D} {s' : CS} (e : h ws [] = .ok (.d v) s') : pureR h ws [] = .ok (.d v) [] := by
  unfold pureR
  rw [e]
theorem noX_ok {h : List W → CS → R W} {ws : List W} {s s' : CS} {w : W} (e : h ws s = .ok w s') : noX h ws s = .ok w s' := by
  unfold noX
  rw [e]
theorem seq_rt {g k : En → CS → RT} {ρ : En} {s s' : CS} {w : W} (e : g ρ s = .rt w s') : gSeq g k ρ s = .rt w s' := by
  rw [gSeq, e]
theorem if_tt {t : En → CS → R Bool} {g k : En → CS → RT} {ρ : En} {s s1 : CS} (e : t ρ s = .ok true s1) : gIf t g k ρ s = g ρ s1 := by
  rw [gIf, e]
  rfl
theorem if_ff {t : En → CS → R Bool} {g k : En → CS → RT} {ρ : En} {s s1 : CS} (e : t ρ s = .ok false s1) : gIf t g k ρ s = k ρ s1 := by
  rw [gIf, e]
  rfl
theorem ret_at {f : En → CS → R W} {ρ : En} {s s1 : CS} {w : W} (e : f ρ s = .ok w s1) : gRet f ρ s = .rt w s1 := by
  rw [gRet, e]
  rfl
theorem drop_at {f : En → CS → R W} {ρ : En} {s s1 : CS} {w : W} (e : f ρ s = .ok w s1) : gDrop f ρ s = .nx ρ s1 := by
  rw [gDrop, e]
  rfl
theorem chain_at {fa fb fc : En → CS → R W} {ρ : En} {s : CS} {a b c : Int} (e1 : fa ρ s = .ok (.d (.int a)) s) (e2 : fb ρ s = .ok (.d (.int b)) s) (e3 : fc ρ s = .ok (.d (.int c)) s) : fB (fChain leD leD fa fb fc) ρ s = .ok (decide (a ≤ b) && decide (b ≤ c)) s := by
  refine fB_at ?_
  unfold fChain
  rw [e1]
  show (fb ρ s).bind _ = _
  rw [e2]
  show (if decide (a ≤ b) = true then (fc ρ s).bind (fun z s => lift2 leD (.d (.int b)) z s) else _) = _
  rw [e3]
  cases decide (a ≤ b) <;> rfl
theorem cnts_len : ∀ ns ∈ szs, ∀ c ∈ cnts ns, c.length = ns.length := by decide
theorem plain_word {ns : List Nat} {x : D} (h : Plain ns x) : ∃ w a b, x = .tuple [.str w, a, b] ∧ neD (.str w) (.str "when") = some (.bool true) := by
  cases h with
  | @num w c l m hw e hl =>
    refine ⟨w, _, _, rfl, ?_⟩
    simp only [W3, List.mem_cons, List.not_mem_nil, or_false] at hw
    rcases hw with rfl | rfl | rfl
    · kernel_rfl
    · kernel_rfl
    · kernel_rfl
  | copy _ _ _ => exact ⟨"copy", _, _, rfl, by kernel_rfl⟩
theorem ne_when : neD (.str "when") (.str "when") = some (.bool false) := by kernel_rfl
abbrev stB : En → CS → RT := gIf (fB (f2 neD (f2 ixD (fVar 4) (fC (.int 0))) (fC (.str "when")))) (gDrop (fCall 3 y_law_stepped_r (fCons (f2 ixD (fVar 0) (fC (.int 0))) (fCons (fVar 3) (fCons (fVar 4) fNil))))) (gIf (fB (fChain leD leD (f2 ixD (fVar 4) (fC (.int 2))) (fIxA (fVar 3) (f2 ixD (fVar 4) (fC (.int 1)))) (f2 ixD (fVar 4) (fC (.int 3))))) (gDrop (fCall 3 y_law_stepped_r (fCons (f2 ixD (fVar 0) (fC (.int 0))) (fCons (fVar 3) (fCons (f2 ixD (fVar 4) (fC (.int 4))) fNil))))) gNx)
theorem step_both {ns : List Nat} (h : ns ∈ szs) {x : D} (hx : StepP ns x) {c : List Nat} (hc : c ∈ cnts ns) : ∃ c' ∈ cnts ns, pureR (noX y_behind_step_r) [.d (dT ns), .d x, .d (dT c)] [] = .ok (.d (dT c')) [] ∧
    ∀ (b k : D) (x1 x2 : Option W), stB [some (.d (.tuple [dT ns, b, k])), x1, x2, some (.c 0), some (.d x)] [.lst (c.map nD)] = .nx [some (.d (.tuple [dT ns, b, k])), x1, x2, some (.c 0), some (.d x)] [.lst (c'.map nD)] := by
  cases hx with
  | plain hp =>
    obtain ⟨c', h1, h2, h3⟩ := plain_both h hp hc
    obtain ⟨w, a, b, rfl, hne⟩ := plain_word hp
    refine ⟨c', h1, pure_of (s' := []) (call_of rfl (seq_rt (g := gIf _ _ _) ((if_tt (s1 := []) (fB_at ?_)).trans (ret_at ?_)))), fun b k x1 x2 => (if_tt (s1 := [.lst (c.map nD)]) (fB_at ?_)).trans (drop_at (s1 := [.lst (c'.map nD)]) (w := .d .none) ?_)⟩
    · show lift2 neD (.d (.str w)) (.d (.str "when")) _ = _
      simp only [lift2, hne]
    · exact h2
    · show lift2 neD (.d (.str w)) (.d (.str "when")) _ = _
      simp only [lift2, hne]
    · exact noX_ok h3
  | @when cc lo hi m y e h1 h2 hp =>
    obtain ⟨c', g1, g2, g3⟩ := plain_both h hp hc
    have hl : cc < c.length := by
      rw [cnts_len ns h c hc]
      exact (List.getElem?_eq_some_iff.mp e).1
    have ei : atI (c.map nD) (cc : Int) = some (nD c[cc]) := by
      rw [atI_nat (by rw [List.length_map]; exact hl), List.getElem_map]
    have t1 : fB (fChain leD leD (fVar 5) (f2 ixD (fVar 2) (fVar 4)) (fVar 6)) [some (.d (dT ns)), some (.d (.tuple [.str "when", nD cc, nD lo, nD hi, y])), some (.d (dT c)), some (.d (.str "when")), some (.d (nD cc)), some (.d (nD lo)), some (.d (nD hi)), some (.d y)] [] = .ok (decide ((lo : Int) ≤ (c[cc] : Nat)) && decide (((c[cc] : Nat) : Int) ≤ hi)) [] := by
      refine chain_at rfl ?_ rfl
      show lift2 ixD (.d (dT c)) (.d (nD cc)) _ = _
      simp only [lift2, ix_dT hl]
      rfl
    have t2 : ∀ (b k : D) (x1 x2 : Option W), fB (fChain leD leD (f2 ixD (fVar 4) (fC (.int 2))) (fIxA (fVar 3) (f2 ixD (fVar 4) (fC (.int 1)))) (f2 ixD (fVar 4) (fC (.int 3)))) [some (.d (.tuple [dT ns, b, k])), x1, x2, some (.c 0), some (.d (.tuple [.str "when", nD cc, nD lo, nD hi, y]))] [.lst (c.map nD)] = .ok (decide ((lo : Int) ≤ (c[cc] : Nat)) && decide (((c[cc] : Nat) : Int) ≤ hi)) [.lst (c.map nD)] := fun b k x1 x2 => by
      refine chain_at rfl ?_ rfl
      show (match atI (c.map nD) (cc : Int) with
        | some z => R.ok (W.d z) [.lst (c.map nD)]
        | none => .bad) = _
      rw [ei]
      rfl
    have w1 : fB (f2 neD (f2 ixD (fVar 1) (fC (.int 0))) (fC (.str "when"))) [some (.d (dT ns)), some (.d (.tuple [.str "when", nD cc, nD lo, nD hi, y])), some (.d (dT c)), none, none, none, none, none] [] = .ok false [] := by
      refine fB_at ?_
      show lift2 neD (.d (.str "when")) (.d (.str "when")) _ = _
      simp only [lift2, ne_when]
    have w2 : ∀ (b k : D) (x1 x2 : Option W), fB (f2 neD (f2 ixD (fVar 4) (fC (.int 0))) (fC (.str "when"))) [some (.d (.tuple [dT ns, b, k])), x1, x2, some (.c 0), some (.d (.tuple [.str "when", nD cc, nD lo, nD hi, y]))] [.lst (c.map nD)] = .ok false [.lst (c.map nD)] := fun b k x1 x2 => by
      refine fB_at ?_
      show lift2 neD (.d (.str "when")) (.d (.str "when")) _ = _
      simp only [lift2, ne_when]
    have e1 : gIf (fB (f2 neD (f2 ixD (fVar 1) (fC (.int 0))) (fC (.str "when")))) (gRet (fCallP 3 (noX y_behind_plain_step_r) (fCons (fVar 0) (fCons (fVar 1) (fCons (fVar 2) fNil))))) gNx [some (.d (dT ns)), some (.d (.tuple [.str "when", nD cc, nD lo, nD hi, y])), some (.d (dT c)), none, none, none, none, none] [] = .nx [some (.d (dT ns)), some (.d (.tuple [.str "when", nD cc, nD lo, nD hi, y])), some (.d (dT c)), none, none, none, none, none] [] := (if_ff w1).trans rfl
    have e2 : gAsg (hT 5 (hsC (hN 3) (hsC (hN 4) (hsC (hN 5) (hsC (hN 6) (hsC (hN 7) hsN)))))) (fVar 1) [some (.d (dT ns)), some (.d (.tuple [.str "when", nD cc, nD lo, nD hi, y])), some (.d (dT c)), none, none, none, none, none] [] = .nx [some (.d (dT ns)), some (.d (.tuple [.str "when", nD cc, nD lo, nD hi, y])), some (.d (dT c)), some (.d (.str "when")), some (.d (nD cc)), some (.d (nD lo)), some (.d (nD hi)), some (.d y)] [] := rfl
    cases hb : (decide ((lo : Int) ≤ (c[cc] : Nat)) && decide (((c[cc] : Nat) : Int) ≤ hi)) with
    | true =>
      rw [hb] at t1 t2
      refine ⟨c', g1, pure_of (s' := []) (call_of rfl ((seq_at e1).trans ((seq_at e2).trans (seq_rt ((if_tt t1).trans (ret_at ?_)))))), fun b k x1 x2 => (if_ff (w2 b k x1 x2)).trans ((if_tt (t2 b k x1 x2)).trans (drop_at (w := .d .none) ?_))⟩
      · exact g2
      · exact noX_ok g3
    | false =>
      rw [hb] at t1 t2
      refine ⟨c, hc, pure_of (s' := []) (call_of rfl ((seq_at e1).trans ((seq_at e2).trans ((seq_at ((if_ff t1).trans rfl)).trans rfl)))), fun b k x1 x2 => (if_ff (w2 b k x1 x2)).trans ((if_ff (t2 b k x1 x2)).trans rfl)⟩
abbrev mbB : En → CS → RT := gAsg (hN 2) (fCallP 3 (noX y_behind_step_r) (fCons (f2 ixD (fVar 0) (fC (.int 0))) (fCons (fVar 3) (fCons (fVar 2) fNil))))
theorem steps_both {ns : List Nat} (h : ns ∈ szs) (b k : D) (x1 x2 : Option W) : ∀ (ss : List D) (c : List Nat), (∀ s ∈ ss, StepP ns s) → c ∈ cnts ns → ∃ c' ∈ cnts ns,
    (∀ (kk x3 : Option W), ∃ y3, forL (hN 3) mbB ss [some (.d (.tuple [dT ns, b, k])), kk, some (.d (dT c)), x3] [] = .nx [some (.d (.tuple [dT ns, b, k])), kk, some (.d (dT c')), y3] []) ∧
    ∀ x4, ∃ y4, forL (hN 4) stB ss [some (.d (.tuple [dT ns, b, k])), x1, x2, some (.c 0), x4] [.lst (c.map nD)] = .nx [some (.d (.tuple [dT ns, b, k])), x1, x2, some (.c 0), y4] [.lst (c'.map nD)]
  | [], c, _, hc => ⟨c, hc, fun kk x3 => ⟨x3, rfl⟩, fun x4 => ⟨x4, rfl⟩⟩
  | s :: ss, c, hs, hc => by
    obtain ⟨c1, h1, h2, h3⟩ := step_both h (hs s List.mem_cons_self) hc
    obtain ⟨c2, g1, g2, g3⟩ := steps_both h b k x1 x2 ss c1 (fun x hx => hs x (List.mem_cons_of_mem _ hx)) h1
    refine ⟨c2, g1, fun kk x3 => ?_, fun x4 => ?_⟩
    · obtain ⟨y3, e⟩ := g2 kk (some (.d s))
      refine ⟨y3, ?_⟩
      have q0 : hN 3 (.d s) [some (.d (.tuple [dT ns, b, k])), kk, some (.d (dT c)), x3] = some [some (.d (.tuple [dT ns, b, k])), kk, some (.d (dT c)), some (.d s)] := rfl
      have q1 : mbB [some (.d (.tuple [dT ns, b, k])), kk, some (.d (dT c)), some (.d s)] [] = .nx [some (.d (.tuple [dT ns, b, k])), kk, some (.d (dT c1)), some (.d s)] [] := asg_at (w := .d (dT c1)) (s1 := []) h2 rfl
      unfold forL
      simp only [q0]
      rw [q1]
      exact e
    · obtain ⟨y4, e⟩ := g3 (some (.d s))
      refine ⟨y4, ?_⟩
      have q0 : hN 4 (.d s) [some (.d (.tuple [dT ns, b, k])), x1, x2, some (.c 0), x4] = some [some (.d (.tuple [dT ns, b, k])), x1, x2, some (.c 0), some (.d s)] := rfl
      unfold forL
      simp only [q0]
      rw [h3 b k x1 x2]
      exact e
theorem made_both {ns : List Nat} {m : Nat} {hd : D} (hh : HouseN ns m hd) {k : Nat} (hk : k < m) {c : List Nat} (hc : c ∈ cnts ns) : ∃ c' ∈ cnts ns, (∃ s', noX xmade_by_r [.d hd, .d (nD k), .d (dT c)] [] = .ok (.d (dT c')) s') ∧ pureR (noX y_law_made_r) [.d hd, .d (dT c), .d (nD k)] [] = .ok (.d (dT c')) [] := by
  obtain ⟨bs, ks, h, rfl, _, hm1, hm5, hm, hK⟩ := hh
  have hkl : k < ks.length := by omega
  obtain ⟨ss, ess, _, hS⟩ := hK ks[k] (List.getElem_mem hkl)
  obtain ⟨c', h1, h2, h3⟩ := steps_both h (dT bs) (.tuple ks) (some (.d (dT c))) (some (.d (nD k))) ss c hS hc
  obtain ⟨y3, e3⟩ := h2 (some (.d (nD k))) none
  obtain ⟨y4, e4⟩ := h3 none
  have ek : atI ks (k : Int) = some (.tuple ss) := by rw [atI_nat hkl, ess]
  refine ⟨c', h1, ⟨[], call_of rfl (w := .d (dT c')) (s' := []) ?_⟩, pure_of (s' := [.dead]) (call_of rfl (w := .d (dT c')) ?_)⟩
  · have ef : gFor (fIt (f2 ixD (f2 ixD (fVar 0) (fC (.int 2))) (fVar 1))) (hN 3) mbB [some (.d (.tuple [dT ns, dT bs, .tuple ks])), some (.d (nD k)), some (.d (dT c)), none] [] = .nx [some (.d (.tuple [dT ns, dT bs, .tuple ks])), some (.d (nD k)), some (.d (dT c')), y3] [] := by
      have it : fIt (f2 ixD (f2 ixD (fVar 0) (fC (.int 2))) (fVar 1)) [some (.d (.tuple [dT ns, dT bs, .tuple ks])), some (.d (nD k)), some (.d (dT c)), none] [] = .ok ss [] := by
        show R.bind (lift2 ixD (.d (.tuple ks)) (.d (nD k)) []) _ = _
        have : ixD (.tuple ks) (nD k) = some (.tuple ss) := ek
        simp only [lift2, this]
        rfl
      unfold gFor
      rw [it]
      exact e3
    exact (seq_at ef).trans rfl
  · have en : gAsg (hN 3) (fNewL (fCons (fVar 1) fNil)) [some (.d (.tuple [dT ns, dT bs, .tuple ks])), some (.d (dT c)), some (.d (nD k)), none, none] [] = .nx [some (.d (.tuple [dT ns, dT bs, .tuple ks])), some (.d (dT c)), some (.d (nD k)), some (.c 0), none] [.lst (c.map nD)] := rfl
    have ef : gFor (fIt (f2 ixD (f2 ixD (fVar 0) (fC (.int 2))) (fVar 2))) (hN 4) stB [some (.d (.tuple [dT ns, dT bs, .tuple ks])), some (.d (dT c)), some (.d (nD k)), some (.c 0), none] [.lst (c.map nD)] = .nx [some (.d (.tuple [dT ns, dT bs, .tuple ks])), some (.d (dT c)), some (.d (nD k)), some (.c 0), y4] [.lst (c'.map nD)] := by
      have it : fIt (f2 ixD (f2 ixD (fVar 0) (fC (.int 2))) (fVar 2)) [some (.d (.tuple [dT ns, dT bs, .tuple ks])), some (.d (dT c)), some (.d (nD k)), some (.c 0), none] [.lst (c.map nD)] = .ok ss [.lst (c.map nD)] := by
        show R.bind (lift2 ixD (.d (.tuple ks)) (.d (nD k)) [.lst (c.map nD)]) _ = _
        have : ixD (.tuple ks) (nD k) = some (.tuple ss) := ek
        simp only [lift2, this]
        rfl
      unfold gFor
      rw [it]
      exact e4
    exact (seq_at en).trans ((seq_at ef).trans rfl)
/-- .. as a function -/
def mkF (hd : D) (k : Nat) (c : List Nat) : List Nat := (outP (noX xmade_by_r [.d hd, .d (nD k), .d (dT c)] [])).getD []
theorem natsOf_map : ∀ l : List Nat, natsOf (l.map nD) = some l
  | [] => rfl
  | n :: r => by
    show (match natOf (nD n), natsOf (r.map nD) with
      | some n, some l => some (n :: l)
      | _, _ => none) = _
    rw [natsOf_map r]
    rfl
theorem mkF_is {ns : List Nat} {m : Nat} {hd : D} (hh : HouseN ns m hd) {k : Nat} (hk : k < m) {c : List Nat} (hc : c ∈ cnts ns) : mkF hd k c ∈ cnts ns ∧ pureR (noX xmade_by_r) [.d hd, .d (nD k), .d (dT c)] [] = .ok (.d (dT (mkF hd k c))) [] ∧ pureR (noX y_law_made_r) [.d hd, .d (dT c), .d (nD k)] [] = .ok (.d (dT (mkF hd k c))) [] := by
  obtain ⟨c', h1, ⟨s', h2⟩, h3⟩ := made_both hh hk hc
  have e : mkF hd k c = c' := by
    unfold mkF
    rw [h2]
    show (natsOf (c'.map nD)).getD [] = c'
    rw [natsOf_map]
    rfl
  rw [e]
  exact ⟨h1, pure_of h2, h3⟩
/-! ### what is found: contents with rows, in the order in which they are met -/
abbrev Es : Type := List (List Nat × List Nat)
def ks (es : Es) : List (List Nat) := es.map (·.1)
def ent (V : List Nat × List Nat → D) (es : Es) : List (D × D) := es.map fun p => (dT p.1, V p)
def rowOf (es : Es) (c : List Nat) : List Nat := match es.find? (fun p => decide (p.1 = c)) with
  | some p => p.2
  | none => []
def stepK (hd : D) (c : List Nat) (es : Es) (k : Nat) : Es := if mkF hd k c ∈ ks es then es else es ++ [(mkF hd k c, rowOf es c ++ [k])]
theorem eqL_dT : ∀ a b : List Nat, eqL (eqF 7) (a.map nD) (b.map nD) = decide (a = b)
  | [], [] => rfl
  | [], _ :: _ => rfl
  | _ :: _, [] => rfl
  | x :: a, y :: b => by
    have ih := eqL_dT a b
    simp only [List.map_cons]
    unfold eqL
    have e : eqF 7 (nD x) (nD y) = Nat.beq x y := rfl
    rw [e]
    cases q : Nat.beq x y with
    | true =>
      have := Nat.eq_of_beq_eq_true q
      subst this
      simp only [ih]
      by_cases h : a = b
      · subst h; simp
      · simp [h]
    | false =>
      have := Nat.ne_of_beq_eq_false q
      simp [this]
theorem eqk (a b : List Nat) : eqF 8 (dT a) (dT b) = decide (a = b) := eqL_dT a b
theorem look_ent (V : List Nat × List Nat → D) (c : List Nat) : ∀ es : Es, lookD (ent V es) (dT c) = (es.find? (fun p => decide (p.1 = c))).map V
  | [] => rfl
  | p :: r => by
    show (if eqF 8 (dT p.1) (dT c) = true then some (V p) else lookD (ent V r) (dT c)) = _
    rw [eqk, List.find?_cons]
    cases h : decide (p.1 = c) with
    | true => rfl
    | false =>
      rw [if_neg (by decide)]
      exact look_ent V c r
theorem find_mem {es : Es} {c : List Nat} (h : c ∈ ks es) : ∃ p, es.find? (fun p => decide (p.1 = c)) = some p ∧ p ∈ es ∧ p.1 = c := by
  obtain ⟨p, hp, rfl⟩ := List.mem_map.mp h
  cases e : es.find? (fun q => decide (q.1 = p.1)) with
  | none =>
    have := List.find?_eq_none.mp e p hp
    simp at this
  | some q => exact ⟨q, rfl, List.mem_of_find?_eq_some e, by have := List.find?_some e; simpa using this⟩
theorem find_no {es : Es} {c : List Nat} (h : c ∉ ks es) : es.find? (fun p => decide (p.1 = c)) = none := by
  refine List.find?_eq_none.mpr fun p hp => ?_
  intro e
  exact h (List.mem_map.mpr ⟨p, hp, of_decide_eq_true e⟩)
theorem look_in {V : List Nat × List Nat → D} {es : Es} {c : List Nat} (h : c ∈ ks es) : lookD (ent V es) (dT c) = some (V (c, rowOf es c)) := by
  obtain ⟨p, e, _, rfl⟩ := find_mem h
  rw [look_ent, e]
  unfold rowOf
  rw [e]
  rfl
theorem look_no {V : List Nat × List Nat → D} {es : Es} {c : List Nat} (h : c ∉ ks es) : lookD (ent V es) (dT c) = none := by
  rw [look_ent, find_no h]
  rfl
theorem put_ent {V : List Nat × List Nat → D} {v : D} {c : List Nat} : ∀ es : Es, c ∉ ks es → putD (ent V es) (dT c) v = ent V es ++ [(dT c, v)]
  | [], _ => rfl
  | p :: r, h => by
    have hd : p.1 ≠ c := fun e => h (by rw [← e]; exact List.mem_cons_self)
    have ih := put_ent (V := V) (v := v) r fun z => h (List.mem_cons_of_mem _ z)
    show (if eqF 8 (dT p.1) (dT c) = true then _ else (dT p.1, V p) :: putD (ent V r) (dT c) v) = _
    rw [eqk, decide_eq_false hd, if_neg (by decide), ih]
    rfl
theorem unm_ent {V : List Nat × List Nat → D} : ∀ es : Es, unm (ent V es) = true
  | [] => rfl
  | _ :: _ => rfl
theorem rowOf_app {es : Es} {c : List Nat} (h : c ∈ ks es) (x : Es) : rowOf (es ++ x) c = rowOf es c := by
  obtain ⟨p, e, _, _⟩ := find_mem h
  unfold rowOf
  rw [List.find?_append, e]
  rfl
theorem key_ok : ∀ ns ∈ szs, ∀ c ∈ cnts ns, keyOk (dT c) = true := by decide +kernel
theorem cnts_nd : ∀ ns ∈ szs, (cnts ns).Nodup := by decide
def Two (s : CS) (n1 n2 : Nat) (E : List (D × D)) (L : List D) : Prop := s[n1]? = some (.dct E) ∧ s[n2]? = some (.lst L) ∧ n1 ≠ n2
theorem Two.put {s : CS} {n1 n2 : Nat} {E E' : List (D × D)} {L L' : List D} (h : Two s n1 n2 E L) : Two ((s.set n1 (.dct E')).set n2 (.lst L')) n1 n2 E' L' := by
  obtain ⟨h1, h2, h3⟩ := h
  have l1 := (List.getElem?_eq_some_iff.mp h1).1
  have l2 := (List.getElem?_eq_some_iff.mp h2).1
  refine ⟨?_, ?_, h3⟩
  · rw [List.getElem?_set_ne (Ne.symm h3), List.getElem?_set_self l1]
  · rw [List.getElem?_set_self (by rw [List.length_set]; exact l2)]
/-- the part of both loops that puts what is new -/
abbrev discB (im id il : Nat) (fv : En → CS → R W) : En → CS → RT := gIf (fB (fDIn true (fVar im) (fVar id))) (gSeq (gDPut fv (fVar id) (fVar im)) (gAppC (fVar il) (fVar im))) gNx
theorem disc_old {im id il n1 n2 : Nat} {fv : En → CS → R W} {ρ : En} {s : CS} {V : List Nat × List Nat → D} {es : Es} {L : List D} {d : List Nat} (e1 : ρ[im]? = some (some (.d (dT d)))) (e2 : ρ[id]? = some (some (.c n1))) (hs : Two s n1 n2 (ent V es) L) (ko : keyOk (dT d) = true) (h : d ∈ ks es) : discB im id il fv ρ s = .nx ρ s := by
  refine (if_ff (s1 := s) (fB_at ?_)).trans rfl
  simp only [fDIn, fVar, e1, e2, R.bind, dIn, dctOf, hs.1, unm_ent, if_true, ko, look_in h]
  rfl
theorem disc_new {im id il n1 n2 : Nat} {fv : En → CS → R W} {ρ : En} {s : CS} {V : List Nat × List Nat → D} {es : Es} {L : List D} {d : List Nat} {v : D} (e1 : ρ[im]? = some (some (.d (dT d)))) (e2 : ρ[id]? = some (some (.c n1))) (e3 : ρ[il]? = some (some (.c n2))) (hs : Two s n1 n2 (ent V es) L) (ko : keyOk (dT d) = true) (h : d ∉ ks es)
    (ev : fv ρ s = .ok (.d v) s) (hl : es.length < 1000) (hl2 : L.length < 1000) : discB im id il fv ρ s = .nx ρ ((s.set n1 (.dct (ent V es ++ [(dT d, v)]))).set n2 (.lst (L ++ [dT d]))) := by
  refine (if_tt (s1 := s) (fB_at ?_)).trans ?_
  · simp only [fDIn, fVar, e1, e2, R.bind, dIn, dctOf, hs.1, unm_ent, if_true, ko, look_no h]
    rfl
  · have h2 : (s.set n1 (.dct (ent V es ++ [(dT d, v)])))[n2]? = some (.lst L) := by rw [List.getElem?_set_ne hs.2.2]; exact hs.2.1
    have p1 : gDPut fv (fVar id) (fVar im) ρ s = .nx ρ (s.set n1 (.dct (ent V es ++ [(dT d, v)]))) := by
      unfold gDPut
      rw [ev]
      simp only [R.toT, fVar, e1, e2, dPut, hs.1]
      rw [if_pos ⟨ko, by unfold ent; rw [List.length_map]; exact Nat.lt_of_lt_of_le hl (by decide), unm_ent es⟩, put_ent es h]
    refine (seq_at p1).trans ?_
    simp only [gAppC, fVar, e1, e3, R.toT, onC, h2, appC]
    rw [if_pos (Nat.lt_of_lt_of_le hl2 (by decide))]
theorem rngK_int (j : Int) (s : CS) : rngK (.d (.int j)) s = if -(2 ^ 62) ≤ j ∧ j < 2 ^ 62 then .ok (rngD 0 j.toNat) s else .bad := rfl
theorem rng_nat {n : Nat} (hn : n < 1000000) (s : CS) : rngK (.d (nD n)) s = .ok ((List.range n).map nD) s := by
  have p62 : (2 : Int) ^ 62 = 4611686018427387904 := by decide
  unfold nD
  rw [rngK_int, p62]
  have c : -4611686018427387904 ≤ (n : Int) ∧ (n : Int) < 4611686018427387904 := by omega
  rw [if_pos c, Int.toNat_natCast]
  simp only [rngD, Int.zero_add]
theorem rng_def (f : En → CS → R W) (ρ : En) (s : CS) : fRng1 f ρ s = (f ρ s).bind rngK := rfl
theorem bind_ok {a b : Type} (x : a) (s : CS) (k : a → CS → R b) : (R.ok x s).bind k = k x s := rfl
theorem rng_of {f : En → CS → R W} {ρ : En} {n : Nat} {s : CS} (e : f ρ s = .ok (.d (nD n)) s) (hn : n < 1000000) : fRng1 f ρ s = .ok ((List.range n).map nD) s := by
  rw [rng_def, e, bind_ok, rng_nat hn]
theorem fN1 {g : List D → Option D} {f : En → CS → R W} {ρ : En} {s s' : CS} {d z : D} (e : f ρ s = .ok (.d d) s') (h : g [d] = some z) : fN g (fCons f fNil) ρ s = .ok (.d z) s' := by
  simp only [fN, fCons, fNil, e, R.bind, liftN, allD, Option.map, h]
theorem HouseN.len {ns : List Nat} {m : Nat} {hd : D} (hh : HouseN ns m hd) {i : Nat} {ρ : En} (e : ρ[i]? = some (some (.d hd))) (s : CS) : fN lenD (fCons (f2 ixD (fVar i) (fC (.int 2))) fNil) ρ s = .ok (.d (nD m)) s := by
  obtain ⟨bs, ks, h, rfl, _, hm1, hm5, hm, hK⟩ := hh
  refine fN1 (d := .tuple ks) ?_ (by rw [← hm]; rfl)
  have hv : fVar i ρ s = .ok (.d (.tuple [dT ns, dT bs, .tuple ks])) s := by simp only [fVar, e]
  simp only [f2, hv, R.bind, fC, lift2, ixD]
  rfl
theorem HouseN.m5 {ns : List Nat} {m : Nat} {hd : D} (hh : HouseN ns m hd) : m ≤ 5 := by
  obtain ⟨bs, ks, h, rfl, _, hm1, hm5, hm, hK⟩ := hh
  exact hm5
theorem HouseN.m1 {ns : List Nat} {m : Nat} {hd : D} (hh : HouseN ns m hd) : 1 ≤ m := by
  obtain ⟨bs, ks, h, rfl, _, hm1, hm5, hm, hK⟩ := hh
  exact hm1
theorem HouseN.sz {ns : List Nat} {m : Nat} {hd : D} (hh : HouseN ns m hd) : ns ∈ szs := by
  obtain ⟨bs, ks, h, rfl, _, hm1, hm5, hm, hK⟩ := hh
  exact h
theorem HouseN.contL {ns : List Nat} {m : Nat} {hd : D} (hh : HouseN ns m hd) {i : Nat} {ρ : En} (e : ρ[i]? = some (some (.d hd))) (s : CS) : fCallP 1 (noX y_law_contents_r) (fCons (fVar i) fNil) ρ s = .ok (.d (.list ((cnts ns).map dT))) s := by
  obtain ⟨bs, ks, h, rfl, _, hm1, hm5, hm, hK⟩ := hh
  exact callC h e s
theorem it_of {f : En → CS → R W} {ρ : En} {s s' : CS} {ds : List D} (e : f ρ s = .ok (.d (.tuple ds)) s' ∨ f ρ s = .ok (.d (.list ds)) s') : fIt f ρ s = .ok ds s' := by
  unfold fIt
  rcases e with e | e <;> rw [e] <;> rfl
/-! ### the order in which contents are met -/
def aft (hd : D) (c : List Nat) (l : List Nat) : List Nat := l.foldl (fun c k => mkF hd k c) c
theorem aft_app (hd : D) (c : List Nat) (l : List Nat) (k : Nat) : aft hd c (l ++ [k]) = mkF hd k (aft hd c l) := by
  unfold aft
  rw [List.foldl_append]
  rfl
structure Inv5 (hd : D) (m : Nat) (ns b : List Nat) (es : Es) : Prop where
  nd : (ks es).Nodup
  cn : ∀ c ∈ ks es, c ∈ cnts ns
  rw : ∀ p ∈ es, (∀ k ∈ p.2, k < m) ∧ aft hd b p.2 = p.1
  b : b ∈ ks es
  ln : ∀ p ∈ es, p.2.length < es.length
theorem ks_app (es x : Es) : ks (es ++ x) = ks es ++ ks x := List.map_append ..
theorem sub_len {α : Type} [DecidableEq α] : ∀ (l D : List α), l.Nodup → (∀ x ∈ l, x ∈ D) → l.length ≤ D.length
  | [], _, _, _ => Nat.zero_le _
  | x :: l, D, nd, h => by
    have nx := (List.nodup_cons.mp nd).1
    have ih := sub_len l (D.erase x) (List.nodup_cons.mp nd).2 fun y hy => (List.mem_erase_of_ne (fun e => nx (by rw [← e]; exact hy))).mpr (h y (List.mem_cons_of_mem _ hy))
    have hx := h x List.mem_cons_self
    rw [List.length_erase_of_mem hx] at ih
    have : 0 < D.length := List.length_pos_of_mem hx
    rw [List.length_cons]
    omega
theorem Inv5.len {hd : D} {m : Nat} {ns b : List Nat} {es : Es} (h : ns ∈ szs) (I : Inv5 hd m ns b es) : es.length ≤ 8 := by
  have := sub_len (ks es) (cnts ns) I.nd I.cn
  have h8 := (cnts_ok ns h).2
  unfold ks at this
  rw [List.length_map] at this
  omega
theorem Inv5.new {ns : List Nat} {m : Nat} {hd : D} (hh : HouseN ns m hd) {b : List Nat} {es : Es} (I : Inv5 hd m ns b es) {c : List Nat} (hc : c ∈ ks es) {k : Nat} (hk : k < m) (hn : mkF hd k c ∉ ks es) : Inv5 hd m ns b (es ++ [(mkF hd k c, rowOf es c ++ [k])]) := by
  obtain ⟨p, e, hp, e2⟩ := find_mem hc
  have er : rowOf es c = p.2 := by unfold rowOf; rw [e]
  obtain ⟨r1, r2⟩ := I.rw p hp
  refine ⟨?_, ?_, ?_, ?_, ?_⟩
  · rw [ks_app]
    refine List.nodup_append.mpr ⟨I.nd, by simp [ks], fun x hx y hy => ?_⟩
    simp only [ks, List.map_cons, List.map_nil, List.mem_singleton] at hy
    subst hy
    exact fun z => hn (by rw [← z]; exact hx)
  · intro d hd'
    rw [ks_app] at hd'
    rcases List.mem_append.mp hd' with z | z
    · exact I.cn d z
    · simp only [ks, List.map_cons, List.map_nil, List.mem_singleton] at z
      subst z
      exact (mkF_is hh hk (I.cn c hc)).1
  · intro q hq
    rcases List.mem_append.mp hq with z | z
    · exact I.rw q z
    · rw [List.mem_singleton] at z
      subst z
      refine ⟨fun j hj => ?_, ?_⟩
      · rw [er] at hj
        rcases List.mem_append.mp hj with z | z
        · exact r1 j z
        · rw [List.mem_singleton.mp z]
          exact hk
      · show aft hd b (rowOf es c ++ [k]) = mkF hd k c
        rw [aft_app, er, r2, e2]
  · rw [ks_app]
    exact List.mem_append_left _ I.b
  · intro q hq
    rw [List.length_append]
    rcases List.mem_append.mp hq with z | z
    · have := I.ln q z
      omega
    · rw [List.mem_singleton] at z
      subst z
      show (rowOf es c ++ [k]).length < es.length + 1
      have := I.ln p hp
      rw [er, List.length_append, List.length_singleton]
      omega
/-- one kind more -/
theorem stepK_inv {ns : List Nat} {m : Nat} {hd : D} (hh : HouseN ns m hd) {b : List Nat} {es : Es} (I : Inv5 hd m ns b es) {c : List Nat} (hc : c ∈ ks es) {k : Nat} (hk : k < m) : ∃ x, stepK hd c es k = es ++ x ∧ Inv5 hd m ns b (es ++ x) := by
  unfold stepK
  by_cases h : mkF hd k c ∈ ks es
  · exact ⟨[], by rw [if_pos h, List.append_nil], by rw [List.append_nil]; exact I⟩
  · exact ⟨[(mkF hd k c, rowOf es c ++ [k])], by rw [if_neg h], I.new hh hc hk h⟩
theorem fold_inv {ns : List Nat} {m : Nat} {hd : D} (hh : HouseN ns m hd) {b c : List Nat} : ∀ (K : List Nat) (es : Es), Inv5 hd m ns b es → c ∈ ks es → (∀ k ∈ K, k < m) → ∃ x, K.foldl (stepK hd c) es = es ++ x ∧ Inv5 hd m ns b (es ++ x)
  | [], es, I, _, _ => ⟨[], by rw [List.append_nil]; rfl, by rw [List.append_nil]; exact I⟩
  | k :: K, es, I, hc, hK => by
    obtain ⟨x, e, I1⟩ := stepK_inv hh I hc (hK k List.mem_cons_self)
    obtain ⟨y, e2, I2⟩ := fold_inv hh K (es ++ x) I1 (by rw [ks_app]; exact List.mem_append_left _ hc) fun j hj => hK j (List.mem_cons_of_mem _ hj)
    refine ⟨x ++ y, ?_, by rw [← List.append_assoc]; exact I2⟩
    rw [List.foldl_cons, e, e2, List.append_assoc]
/-- all kinds at the i-th content -/
def stepI (hd : D) (m : Nat) (es : Es) (i : Nat) : Es := match (ks es)[i]? with
  | some c => (List.range m).foldl (stepK hd c) es
  | none => es
def met (hd : D) (m : Nat) (b : List Nat) : Nat → Es
  | 0 => [(b, [])]
  | i + 1 => stepI hd m (met hd m b i) i
theorem stepI_inv {ns : List Nat} {m : Nat} {hd : D} (hh : HouseN ns m hd) {b : List Nat} {es : Es} (I : Inv5 hd m ns b es) (i : Nat) : ∃ x, stepI hd m es i = es ++ x ∧ Inv5 hd m ns b (es ++ x) := by
  unfold stepI
  cases e : (ks es)[i]? with
  | none => exact ⟨[], by rw [List.append_nil], by rw [List.append_nil]; exact I⟩
  | some c => exact fold_inv hh (List.range m) es I (List.mem_of_getElem? e) fun k hk => List.mem_range.mp hk
theorem met_inv {ns : List Nat} {m : Nat} {hd : D} (hh : HouseN ns m hd) {b : List Nat} (hb : b ∈ cnts ns) : ∀ i, Inv5 hd m ns b (met hd m b i)
  | 0 => ⟨by simp [ks, met], (fun c hc => by simp [ks, met] at hc; rw [hc]; exact hb), (fun p hp => by
      simp only [met, List.mem_singleton] at hp
      subst hp
      exact ⟨(fun k hk => by cases hk), rfl⟩), by simp [ks, met], (fun p hp => by
      simp only [met, List.mem_singleton] at hp
      subst hp
      exact Nat.zero_lt_one)⟩
  | i + 1 => by
    obtain ⟨x, e, I⟩ := stepI_inv hh (met_inv hh hb i) i
    show Inv5 hd m ns b (stepI hd m (met hd m b i) i)
    rw [e]
    exact I
theorem met_stop {hd : D} {m : Nat} {b : List Nat} {i : Nat} (h : (met hd m b i).length ≤ i) : ∀ n, met hd m b (i + n) = met hd m b i
  | 0 => rfl
  | n + 1 => by
    have ih := met_stop h n
    show stepI hd m (met hd m b (i + n)) (i + n) = _
    rw [ih]
    unfold stepI
    rw [List.getElem?_eq_none (by unfold ks; rw [List.length_map]; omega)]
theorem met_8 {ns : List Nat} {m : Nat} {hd : D} (hh : HouseN ns m hd) {b : List Nat} (hb : b ∈ cnts ns) {i : Nat} (h : (met hd m b i).length ≤ i) : met hd m b i = met hd m b 8 := by
  rcases Nat.le_total i 8 with q | q
  · obtain ⟨n, e8⟩ := Nat.exists_eq_add_of_le q
    rw [e8]
    exact (met_stop h n).symm
  · obtain ⟨n, rfl⟩ := Nat.exists_eq_add_of_le q
    exact met_stop ((met_inv hh hb 8).len (HouseN.sz hh)) n
theorem Inv5.row {hd : D} {m : Nat} {ns b : List Nat} {es : Es} (h : ns ∈ szs) (I : Inv5 hd m ns b es) {c : List Nat} (hc : c ∈ ks es) : (rowOf es c).length < 8 := by
  obtain ⟨p, e, hp, _⟩ := find_mem hc
  have er : rowOf es c = p.2 := by unfold rowOf; rw [e]
  have h1 := I.ln p hp
  have h2 := I.len h
  rw [er]
  omega
/-! ### the program's way -/
def VP (p : List Nat × List Nat) : D := .tuple (p.2.map nD)
def VL (p : List Nat × List Nat) : D := nD p.2.length
theorem dget5 {V : List Nat × List Nat → D} {n i k : Nat} {ρ : En} {s : CS} {es : Es} {c : List Nat} (e1 : ρ[i]? = some (some (.c n))) (e2 : ρ[k]? = some (some (.d (dT c)))) (e : s[n]? = some (.dct (ent V es))) (hk : keyOk (dT c) = true) (hc : c ∈ ks es) : fDGet (fVar i) (fVar k) ρ s = .ok (.d (V (c, rowOf es c))) s := by
  simp only [fDGet, fVar, e1, e2, R.bind, dGet, dctOf, e, unm_ent, if_true, hk, look_in hc]
abbrev fvP : En → CS → R W := f2 addD (fDGet (fVar 1) (fVar 4)) (fN tupD (fCons (fVar 5) fNil))
abbrev bodyP : En → CS → RT := gSeq (gAsg (hN 6) (fCallP 3 (noX xmade_by_r) (fCons (fVar 0) (fCons (fVar 5) (fCons (fVar 4) fNil))))) (discB 6 1 3 fvP)
theorem ent_app (V : List Nat × List Nat → D) (es x : Es) : ent V (es ++ x) = ent V es ++ ent V x := List.map_append ..
theorem kindsP {ns : List Nat} {m : Nat} {hd : D} (hh : HouseN ns m hd) {b c : List Nat} {n1 n2 : Nat} (x2 : Option W) : ∀ (K : List Nat) (es : Es) (L : List D) (s : CS) (x5 x6 : Option W), Two s n1 n2 (ent VP es) L → Inv5 hd m ns b es → c ∈ ks es → (∀ k ∈ K, k < m) → L.length + K.length < 900 →
    ∃ x y5 y6 s', forL (hN 5) bodyP (K.map nD) [some (.d hd), some (.c n1), x2, some (.c n2), some (.d (dT c)), x5, x6] s = .nx [some (.d hd), some (.c n1), x2, some (.c n2), some (.d (dT c)), y5, y6] s' ∧
      K.foldl (stepK hd c) es = es ++ x ∧ Two s' n1 n2 (ent VP (es ++ x)) (L ++ (ks x).map dT) ∧ x.length ≤ K.length
  | [], es, L, s, x5, x6, hs, _, _, _, _ => ⟨[], x5, x6, s, rfl, by rw [List.append_nil]; rfl, by rw [List.append_nil]; simp [ks]; exact hs, Nat.le_refl _⟩
  | k :: K, es, L, s, x5, x6, hs, I, hc, hK, hl => by
    have hk := hK k List.mem_cons_self
    have hK' : ∀ j ∈ K, j < m := fun j hj => hK j (List.mem_cons_of_mem _ hj)
    have hcn := I.cn c hc
    obtain ⟨q1, q2, _⟩ := mkF_is hh hk hcn
    have h8 := I.len hh.sz
    rw [List.length_cons] at hl
    have q0 : hN 5 (.d (nD k)) [some (.d hd), some (.c n1), x2, some (.c n2), some (.d (dT c)), x5, x6] = some [some (.d hd), some (.c n1), x2, some (.c n2), some (.d (dT c)), some (.d (nD k)), x6] := rfl
    have e6 : gAsg (hN 6) (fCallP 3 (noX xmade_by_r) (fCons (fVar 0) (fCons (fVar 5) (fCons (fVar 4) fNil)))) [some (.d hd), some (.c n1), x2, some (.c n2), some (.d (dT c)), some (.d (nD k)), x6] s = .nx [some (.d hd), some (.c n1), x2, some (.c n2), some (.d (dT c)), some (.d (nD k)), some (.d (dT (mkF hd k c)))] s := asg_at (w := .d (dT (mkF hd k c))) (s1 := s) (pureR_at q2 s) rfl
    by_cases hin : mkF hd k c ∈ ks es
    · have ed := disc_old (im := 6) (id := 1) (il := 3) (fv := fvP) (ρ := [some (.d hd), some (.c n1), x2, some (.c n2), some (.d (dT c)), some (.d (nD k)), some (.d (dT (mkF hd k c)))]) rfl rfl hs (key_ok ns hh.sz _ q1) hin
      obtain ⟨x, y5, y6, s', f1, f2, f3, f4⟩ := kindsP hh x2 K es L s (some (.d (nD k))) (some (.d (dT (mkF hd k c)))) hs I hc hK' (by omega)
      refine ⟨x, y5, y6, s', ?_, ?_, f3, by rw [List.length_cons]; omega⟩
      · rw [List.map_cons]
        unfold forL
        simp only [q0]
        rw [show bodyP _ s = _ from (seq_at e6).trans ed]
        exact f1
      · rw [List.foldl_cons]
        unfold stepK
        rw [if_pos hin]
        exact f2
    · have er := I.row hh.sz hc
      have ev : fvP [some (.d hd), some (.c n1), x2, some (.c n2), some (.d (dT c)), some (.d (nD k)), some (.d (dT (mkF hd k c)))] s = .ok (.d (.tuple ((rowOf es c ++ [k]).map nD))) s := by
        have eg := dget5 (V := VP) (i := 1) (k := 4) (ρ := [some (.d hd), some (.c n1), x2, some (.c n2), some (.d (dT c)), some (.d (nD k)), some (.d (dT (mkF hd k c)))]) rfl rfl hs.1 (key_ok ns hh.sz c hcn) hc
        have ea : addD (VP (c, rowOf es c)) (.tuple [nD k]) = some (.tuple ((rowOf es c ++ [k]).map nD)) := by
          show (if ((rowOf es c).map nD).length + [nD k].length ≤ line then _ else _) = _
          rw [if_pos (Nat.le_trans (by rw [List.length_map]; simp; omega : ((rowOf es c).map nD).length + [nD k].length ≤ 8) (by decide)), List.map_append]
          rfl
        unfold fvP f2
        rw [eg]
        show lift2 addD (.d (VP (c, rowOf es c))) (.d (.tuple [nD k])) s = _
        simp only [lift2, ea]
      have ed := disc_new (im := 6) (id := 1) (il := 3) (fv := fvP) (ρ := [some (.d hd), some (.c n1), x2, some (.c n2), some (.d (dT c)), some (.d (nD k)), some (.d (dT (mkF hd k c)))]) rfl rfl rfl hs (key_ok ns hh.sz _ q1) hin ev (by omega) (by omega)
      have hs2 : Two ((s.set n1 (.dct (ent VP es ++ [(dT (mkF hd k c), .tuple ((rowOf es c ++ [k]).map nD))]))).set n2 (.lst (L ++ [dT (mkF hd k c)]))) n1 n2 (ent VP (es ++ [(mkF hd k c, rowOf es c ++ [k])])) (L ++ [dT (mkF hd k c)]) := by
        rw [ent_app]
        exact hs.put
      obtain ⟨x, y5, y6, s', f1, f2, f3, f4⟩ := kindsP hh x2 K (es ++ [(mkF hd k c, rowOf es c ++ [k])]) (L ++ [dT (mkF hd k c)]) _ (some (.d (nD k))) (some (.d (dT (mkF hd k c)))) hs2 (I.new hh hc hk hin) (by rw [ks_app]; exact List.mem_append_left _ hc) hK' (by rw [List.length_append, List.length_singleton]; omega)
      refine ⟨(mkF hd k c, rowOf es c ++ [k]) :: x, y5, y6, s', ?_, ?_, ?_, by rw [List.length_cons, List.length_cons]; omega⟩
      · rw [List.map_cons]
        unfold forL
        simp only [q0]
        rw [show bodyP _ s = _ from (seq_at e6).trans ed]
        exact f1
      · rw [List.foldl_cons]
        have : stepK hd c es k = es ++ [(mkF hd k c, rowOf es c ++ [k])] := by unfold stepK; rw [if_neg hin]
        rw [this, f2, List.append_assoc]
        rfl
      · rw [List.append_assoc, List.append_assoc] at f3
        exact f3
abbrev outP5 : En → CS → RT := gFor (fRng1 (fN lenD (fCons (f2 ixD (fVar 0) (fC (.int 2))) fNil))) (hN 5) bodyP
theorem met_len {ns : List Nat} {m : Nat} {hd : D} (hh : HouseN ns m hd) {b : List Nat} (hb : b ∈ cnts ns) (i : Nat) : (met hd m b i).length ≤ 8 := (met_inv hh hb i).len hh.sz
theorem met_step {hd : D} {m : Nat} {b : List Nat} {i : Nat} {c : List Nat} {N : List (List Nat)} (h : (ks (met hd m b i)).drop i = c :: N) : met hd m b (i + 1) = (List.range m).foldl (stepK hd c) (met hd m b i) ∧ c ∈ ks (met hd m b i) := by
  have e : (ks (met hd m b i))[i]? = some c := by
    have := congrArg (fun l => l[0]?) h
    simpa using this
  refine ⟨?_, List.mem_of_getElem? e⟩
  show stepI hd m (met hd m b i) i = _
  unfold stepI
  rw [e]
theorem contsP {ns : List Nat} {m : Nat} {hd : D} (hh : HouseN ns m hd) {b : List Nat} (hb : b ∈ cnts ns) {n1 n2 : Nat} (x2 : Option W) : ∀ (N : List (List Nat)) (i : Nat) (R : List (List Nat)) (L : List D) (s : CS) (x4 x5 x6 : Option W), (ks (met hd m b i)).drop i = N ++ R → Two s n1 n2 (ent VP (met hd m b i)) L → L.length + 5 * N.length < 800 →
    ∃ x y4 y5 y6 s', forL (hN 4) outP5 (N.map dT) [some (.d hd), some (.c n1), x2, some (.c n2), x4, x5, x6] s = .nx [some (.d hd), some (.c n1), x2, some (.c n2), y4, y5, y6] s' ∧
      met hd m b (i + N.length) = met hd m b i ++ x ∧ Two s' n1 n2 (ent VP (met hd m b (i + N.length))) (L ++ (ks x).map dT)
  | [], i, R, L, s, x4, x5, x6, _, hs, _ => ⟨[], x4, x5, x6, s, rfl, by rw [List.append_nil]; rfl, by simpa [ks] using hs⟩
  | c :: N, i, R, L, s, x4, x5, x6, hd', hs, hl => by
    have h5 := hh.m5
    have I := met_inv hh hb i
    obtain ⟨em, hc⟩ := met_step (N := N ++ R) hd'
    rw [List.length_cons] at hl
    obtain ⟨x, y5, y6, s1, f1, f2, f3, f4⟩ := kindsP hh (b := b) (c := c) (n1 := n1) (n2 := n2) x2 (List.range m) (met hd m b i) L s x5 x6 hs I hc (fun k hk => List.mem_range.mp hk) (by rw [List.length_range]; omega)
    rw [List.length_range] at f4
    have e1 : met hd m b (i + 1) = met hd m b i ++ x := em.trans f2
    have hi : i < (ks (met hd m b i)).length := by
      have := congrArg List.length hd'
      rw [List.length_drop] at this
      simp at this
      omega
    have hd2 : (ks (met hd m b (i + 1))).drop (i + 1) = N ++ (R ++ ks x) := by
      rw [e1, ks_app, List.drop_append_of_le_length (by omega)]
      have : (ks (met hd m b i)).drop (i + 1) = N ++ R := by
        rw [← List.drop_drop, hd']
        rfl
      rw [this, List.append_assoc]
    have lx : (ks x).length = x.length := by unfold ks; rw [List.length_map]
    rw [← e1] at f3
    obtain ⟨z, z4, z5, z6, s2, g1, g2, g3⟩ := contsP hh hb x2 N (i + 1) (R ++ ks x) (L ++ (ks x).map dT) s1 (some (.d (dT c))) y5 y6 hd2 f3 (by rw [List.length_append, List.length_map, lx]; omega)
    have en : i + (c :: N).length = i + 1 + N.length := by rw [List.length_cons]; omega
    refine ⟨x ++ z, z4, z5, z6, s2, ?_, ?_, ?_⟩
    · have q0 : hN 4 (.d (dT c)) [some (.d hd), some (.c n1), x2, some (.c n2), x4, x5, x6] = some [some (.d hd), some (.c n1), x2, some (.c n2), some (.d (dT c)), x5, x6] := rfl
      have q1 : outP5 [some (.d hd), some (.c n1), x2, some (.c n2), some (.d (dT c)), x5, x6] s = .nx [some (.d hd), some (.c n1), x2, some (.c n2), some (.d (dT c)), y5, y6] s1 := by
        unfold outP5 gFor
        rw [rng_of (hh.len (i := 0) rfl s) (by omega)]
        exact f1
      rw [List.map_cons]
      unfold forL
      simp only [q0]
      rw [q1]
      exact g1
    · rw [en, g2, e1, List.append_assoc]
    · rw [en, ks_app, List.map_append, ← List.append_assoc]
      exact g3
theorem add_is {ns : List Nat} {m : Nat} {hd : D} (hh : HouseN ns m hd) {b : List Nat} (hb : b ∈ cnts ns) {i : Nat} {N : List (List Nat)} (hq : (ks (met hd m b i)).drop i = N) (hi : i ≤ (met hd m b i).length) {s : CS} (hs : s[0]? = some (.dct (ent VP (met hd m b i)))) :
    ∃ N' s', noX y_add_longer_rows_r [.d hd, .c 0, .d (.list (N.map dT))] s = .ok (.d (.list (N'.map dT))) s' ∧ s'[0]? = some (.dct (ent VP (met hd m b (i + N.length)))) ∧ (ks (met hd m b (i + N.length))).drop (i + N.length) = N' ∧ i + N.length ≤ (met hd m b (i + N.length)).length := by
  have l0 := (List.getElem?_eq_some_iff.mp hs).1
  have h8 := met_len hh hb i
  have lN : i + N.length = (met hd m b i).length := by
    rw [← hq, List.length_drop]
    unfold ks
    rw [List.length_map]
    omega
  have t0 : Two (s ++ [.lst []]) 0 s.length (ent VP (met hd m b i)) [] := ⟨by rw [List.getElem?_append_left l0]; exact hs, by simp, by omega⟩
  obtain ⟨x, y4, y5, y6, s1, f1, f2, f3⟩ := contsP hh hb (n1 := 0) (n2 := s.length) (some (.d (.list (N.map dT)))) N i [] [] (s ++ [.lst []]) none none none (by rw [List.append_nil]; exact hq) t0 (by simp; omega)
  rw [List.nil_append] at f3
  refine ⟨ks x, s1.set s.length .dead, ?_, ?_, ?_, ?_⟩
  · refine call_of rfl ?_
    have q1 : gAsg (hN 3) (fNew fNil) [some (.d hd), some (.c 0), some (.d (.list (N.map dT))), none, none, none, none] s = .nx [some (.d hd), some (.c 0), some (.d (.list (N.map dT))), some (.c s.length), none, none, none] (s ++ [.lst []]) := rfl
    have q2 : gFor (fIt (fVar 2)) (hN 4) outP5 [some (.d hd), some (.c 0), some (.d (.list (N.map dT))), some (.c s.length), none, none, none] (s ++ [.lst []]) = .nx [some (.d hd), some (.c 0), some (.d (.list (N.map dT))), some (.c s.length), y4, y5, y6] s1 := f1
    refine (seq_at q1).trans ((seq_at q2).trans (ret_at ?_))
    show (match s1[s.length]? with
      | some (.lst ds) => R.ok (W.d (.list ds)) (s1.set s.length .dead)
      | _ => .bad) = _
    rw [f3.2.1]
  · rw [List.getElem?_set_ne (by omega)]
    exact f3.1
  · rw [f2, ks_app, lN, List.drop_append_of_le_length (by unfold ks; rw [List.length_map]; omega), List.drop_eq_nil_of_le (by unfold ks; rw [List.length_map]; omega)]
    rfl
  · rw [f2, List.length_append]
    omega
theorem shortest_loop {ns : List Nat} {m : Nat} {hd : D} (hh : HouseN ns m hd) {b : List Nat} (hb : b ∈ cnts ns) (x1 : Option W) : ∀ (fuel i : Nat) (N : List (List Nat)) (s : CS), 9 - i < fuel → (ks (met hd m b i)).drop i = N → i ≤ (met hd m b i).length → s[0]? = some (.dct (ent VP (met hd m b i))) →
    ∃ y3 s', whileL (fTr (fVar 3)) (gAsg (hN 3) (fCall 3 y_add_longer_rows_r (fCons (fVar 0) (fCons (fVar 2) (fCons (fVar 3) fNil))))) fuel [some (.d hd), x1, some (.c 0), some (.d (.list (N.map dT)))] s = .nx [some (.d hd), x1, some (.c 0), y3] s' ∧ s'[0]? = some (.dct (ent VP (met hd m b 8)))
  | 0, i, N, s, hf, _, _, _ => by omega
  | fuel + 1, i, [], s, hf, hq, hi, hs => by
    refine ⟨some (.d (.list [])), s, rfl, ?_⟩
    have : (met hd m b i).length ≤ i := by
      have := congrArg List.length hq
      rw [List.length_drop] at this
      unfold ks at this
      rw [List.length_map] at this
      simp at this
      omega
    rw [hs, met_8 hh hb this]
  | fuel + 1, i, c :: N, s, hf, hq, hi, hs => by
    have h8 := met_len hh hb i
    have hlt : i < (met hd m b i).length := by
      have := congrArg List.length hq
      rw [List.length_drop] at this
      unfold ks at this
      rw [List.length_map] at this
      simp at this
      omega
    obtain ⟨N', s1, e1, g1, g2, g3⟩ := add_is hh hb hq hi hs
    rw [List.length_cons] at g1 g2 g3
    obtain ⟨y3, s', e2, g4⟩ := shortest_loop hh hb x1 fuel (i + (N.length + 1)) N' s1 (by omega) g2 g3 g1
    refine ⟨y3, s', ?_, g4⟩
    have q1 : gAsg (hN 3) (fCall 3 y_add_longer_rows_r (fCons (fVar 0) (fCons (fVar 2) (fCons (fVar 3) fNil)))) [some (.d hd), x1, some (.c 0), some (.d (.list ((c :: N).map dT)))] s = .nx [some (.d hd), x1, some (.c 0), some (.d (.list (N'.map dT)))] s1 := asg_at e1 rfl
    show (match gAsg (hN 3) (fCall 3 y_add_longer_rows_r (fCons (fVar 0) (fCons (fVar 2) (fCons (fVar 3) fNil)))) [some (.d hd), x1, some (.c 0), some (.d (.list ((c :: N).map dT)))] s with
      | .nx ρ2 s2 => whileL (fTr (fVar 3)) _ fuel ρ2 s2
      | .ct ρ2 s2 => whileL (fTr (fVar 3)) _ fuel ρ2 s2
      | .bk ρ2 s2 => .nx ρ2 s2
      | z => z) = _
    rw [q1]
    exact e2
/-- the second part of a house: what a thing begins with -/
def HouseB (ns : List Nat) (m : Nat) (b : List Nat) (x : D) : Prop := HouseN ns m x ∧ b ∈ cnts ns ∧ ∃ k, x = .tuple [dT ns, dT b, k]
theorem all2_app {α β : Type} {p : α → β → Prop} : ∀ {xs : List α} {ys : List β} {x : α} {y : β}, All2 p xs ys → p x y → All2 p (xs ++ [x]) (ys ++ [y])
  | _, _, _, _, .nil, h => .cons h .nil
  | _, _, _, _, .cons a t, h => .cons a (all2_app t h)
def cntsF (F : List (List Nat)) (ns : List Nat) : List (List Nat) := ns.foldl (fun F n => F.flatMap fun h => (List.range n).map fun v => h ++ [v]) F
theorem cntsF_in : ∀ {ns bs : List Nat} {F : List (List Nat)} {h : List Nat}, All2 (fun n b : Nat => b < n) ns bs → h ∈ F → h ++ bs ∈ cntsF F ns
  | _, _, F, h, .nil, hF => by simpa [cntsF] using hF
  | _, _, F, h, .cons (x := n) (y := b) (xs := ns) (ys := bs) a t, hF => by
    have := cntsF_in (F := F.flatMap fun h => (List.range n).map fun v => h ++ [v]) (h := h ++ [b]) t (List.mem_flatMap.mpr ⟨h, hF, List.mem_map.mpr ⟨b, List.mem_range.mpr a, rfl⟩⟩)
    rw [List.append_assoc] at this
    exact this
theorem begin_in {ns bs : List Nat} (h : All2 (fun n b : Nat => b < n) ns bs) : bs ∈ cnts ns := cntsF_in (F := [[]]) (h := []) h (by simp)
theorem houseB_of {ns : List Nat} {m : Nat} {hd : D} (hh : HouseN ns m hd) : ∃ b, HouseB ns m b hd := by
  obtain ⟨bs, kk, h, rfl, hb, h1, h5, hm, hK⟩ := id hh
  exact ⟨bs, hh, begin_in hb, _, rfl⟩
theorem shortest_is {ns : List Nat} {m : Nat} {b : List Nat} {hd : D} (hB : HouseB ns m b hd) : ∃ s', noX y_shortest_rows_r [.d hd] [] = .ok (.fd (ent VP (met hd m b 8))) s' := by
  obtain ⟨hh, hb, k, ek⟩ := hB
  have hl : (met hd m b 0).length = 1 := rfl
  obtain ⟨y3, s', e, g⟩ := shortest_loop hh hb (some (.d (dT b))) 4096 0 [b] [.dct (ent VP (met hd m b 0))] (by omega) rfl (by omega) rfl
  refine ⟨s'.set 0 .dead, call_of rfl ?_⟩
  have q1 : gAsg (hN 1) (f2 ixD (fVar 0) (fC (.int 1))) [some (.d hd), none, none, none] [] = .nx [some (.d hd), some (.d (dT b)), none, none] [] := by
    rw [ek]
    rfl
  have ko := key_ok ns hh.sz b hb
  have q2 : gAsg (hN 2) (fNewD1 (fVar 1) (fN tupD fNil)) [some (.d hd), some (.d (dT b)), none, none] [] = .nx [some (.d hd), some (.d (dT b)), some (.c 0), none] [.dct (ent VP (met hd m b 0))] := by
    refine asg_at (w := .c 0) ?_ rfl
    show (if keyOk (dT b) = true then _ else _) = _
    rw [if_pos ko]
    rfl
  have q3 : gAsg (hN 3) (fN lstD (fCons (fVar 1) fNil)) [some (.d hd), some (.d (dT b)), some (.c 0), none] [.dct (ent VP (met hd m b 0))] = .nx [some (.d hd), some (.d (dT b)), some (.c 0), some (.d (.list ([b].map dT)))] [.dct (ent VP (met hd m b 0))] := rfl
  refine (seq_at q1).trans ((seq_at q2).trans ((seq_at q3).trans ((seq_at e).trans (ret_at ?_))))
  show (match s'[0]? with
    | some (.dct ds) => R.ok (W.fd ds) (s'.set 0 .dead)
    | _ => .bad) = _
  rw [g]
/-! ### the law's way -/
theorem ne_some {ns : List Nat} (h : ns ∈ szs) {ds : List (List Nat)} (hd : ∀ c ∈ ds, c ∈ cnts ns) (hl : ds.length ≤ 8) : neD (.list (ds.map dT)) (.list []) = some (.bool (!ds.isEmpty)) := by
  have sh : SeqAt.shaped (.list (ds.map dT)) = true := (Fine.list (n := 1) (m := 18) (k := 8) (fun x hx => by
    obtain ⟨c, hc, rfl⟩ := List.mem_map.mp hx
    obtain ⟨h1, h2⟩ := cnts_fine ns h c (hd c hc)
    exact fine_dT h2 h1) (by rw [List.length_map]; exact hl)).shaped (by decide)
  have s0 : SeqAt.shaped (.list []) = true := by decide +kernel
  unfold neD
  rw [if_pos ⟨sh, s0⟩, eqF_eq]
  cases ds with
  | nil => simp [PyData.eqv, PyData.eqvAll]
  | cons c r => simp [PyData.eqv, PyData.eqvAll]
abbrev fvQ : En → CS → R W := f2 addD (fDGet (fVar 1) (fVar 3)) (fC (.int 1))
abbrev bodyQ : En → CS → RT := gSeq (gAsg (hN 5) (fCallP 3 (noX y_law_made_r) (fCons (fVar 0) (fCons (fVar 3) (fCons (fVar 4) fNil))))) (discB 5 1 2 fvQ)
theorem kindsQ {ns : List Nat} {m : Nat} {hd : D} (hh : HouseN ns m hd) {b c : List Nat} {n1 n2 : Nat} : ∀ (K : List Nat) (es : Es) (L : List D) (s : CS) (x4 x5 : Option W), Two s n1 n2 (ent VL es) L → Inv5 hd m ns b es → c ∈ ks es → (∀ k ∈ K, k < m) → L.length + K.length < 900 →
    ∃ x y4 y5 s', forL (hN 4) bodyQ (K.map nD) [some (.d hd), some (.c n1), some (.c n2), some (.d (dT c)), x4, x5] s = .nx [some (.d hd), some (.c n1), some (.c n2), some (.d (dT c)), y4, y5] s' ∧
      K.foldl (stepK hd c) es = es ++ x ∧ Two s' n1 n2 (ent VL (es ++ x)) (L ++ (ks x).map dT) ∧ x.length ≤ K.length
  | [], es, L, s, x4, x5, hs, _, _, _, _ => ⟨[], x4, x5, s, rfl, by rw [List.append_nil]; rfl, by rw [List.append_nil]; simp [ks]; exact hs, Nat.le_refl _⟩
  | k :: K, es, L, s, x4, x5, hs, I, hc, hK, hl => by
    have hk := hK k List.mem_cons_self
    have hK' : ∀ j ∈ K, j < m := fun j hj => hK j (List.mem_cons_of_mem _ hj)
    have hcn := I.cn c hc
    obtain ⟨q1, _, q2⟩ := mkF_is hh hk hcn
    have h8 := I.len hh.sz
    rw [List.length_cons] at hl
    have q0 : hN 4 (.d (nD k)) [some (.d hd), some (.c n1), some (.c n2), some (.d (dT c)), x4, x5] = some [some (.d hd), some (.c n1), some (.c n2), some (.d (dT c)), some (.d (nD k)), x5] := rfl
    have e6 : gAsg (hN 5) (fCallP 3 (noX y_law_made_r) (fCons (fVar 0) (fCons (fVar 3) (fCons (fVar 4) fNil)))) [some (.d hd), some (.c n1), some (.c n2), some (.d (dT c)), some (.d (nD k)), x5] s = .nx [some (.d hd), some (.c n1), some (.c n2), some (.d (dT c)), some (.d (nD k)), some (.d (dT (mkF hd k c)))] s := asg_at (w := .d (dT (mkF hd k c))) (s1 := s) (pureR_at q2 s) rfl
    by_cases hin : mkF hd k c ∈ ks es
    · have ed := disc_old (im := 5) (id := 1) (il := 2) (fv := fvQ) (ρ := [some (.d hd), some (.c n1), some (.c n2), some (.d (dT c)), some (.d (nD k)), some (.d (dT (mkF hd k c)))]) rfl rfl hs (key_ok ns hh.sz _ q1) hin
      obtain ⟨x, y4, y5, s', f1, f2, f3, f4⟩ := kindsQ hh K es L s (some (.d (nD k))) (some (.d (dT (mkF hd k c)))) hs I hc hK' (by omega)
      refine ⟨x, y4, y5, s', ?_, ?_, f3, by rw [List.length_cons]; omega⟩
      · rw [List.map_cons]
        unfold forL
        simp only [q0]
        rw [show bodyQ _ s = _ from (seq_at e6).trans ed]
        exact f1
      · rw [List.foldl_cons]
        unfold stepK
        rw [if_pos hin]
        exact f2
    · have ev : fvQ [some (.d hd), some (.c n1), some (.c n2), some (.d (dT c)), some (.d (nD k)), some (.d (dT (mkF hd k c)))] s = .ok (.d (VL (mkF hd k c, rowOf es c ++ [k]))) s := by
        have eg := dget5 (V := VL) (i := 1) (k := 3) (ρ := [some (.d hd), some (.c n1), some (.c n2), some (.d (dT c)), some (.d (nD k)), some (.d (dT (mkF hd k c)))]) rfl rfl hs.1 (key_ok ns hh.sz c hcn) hc
        have ea : addD (VL (c, rowOf es c)) (.int 1) = some (VL (mkF hd k c, rowOf es c ++ [k])) := by
          show some (PyData.int (((rowOf es c).length : Int) + 1)) = some (.int (((rowOf es c ++ [k]).length : Nat) : Int))
          rw [List.length_append, List.length_singleton]
          rfl
        unfold fvQ f2
        rw [eg]
        show lift2 addD (.d (VL (c, rowOf es c))) (.d (.int 1)) s = _
        simp only [lift2, ea]
      have ed := disc_new (im := 5) (id := 1) (il := 2) (fv := fvQ) (ρ := [some (.d hd), some (.c n1), some (.c n2), some (.d (dT c)), some (.d (nD k)), some (.d (dT (mkF hd k c)))]) rfl rfl rfl hs (key_ok ns hh.sz _ q1) hin ev (by omega) (by omega)
      have hs2 : Two ((s.set n1 (.dct (ent VL es ++ [(dT (mkF hd k c), VL (mkF hd k c, rowOf es c ++ [k]))]))).set n2 (.lst (L ++ [dT (mkF hd k c)]))) n1 n2 (ent VL (es ++ [(mkF hd k c, rowOf es c ++ [k])])) (L ++ [dT (mkF hd k c)]) := by
        rw [ent_app]
        exact hs.put
      obtain ⟨x, y4, y5, s', f1, f2, f3, f4⟩ := kindsQ hh K (es ++ [(mkF hd k c, rowOf es c ++ [k])]) (L ++ [dT (mkF hd k c)]) _ (some (.d (nD k))) (some (.d (dT (mkF hd k c)))) hs2 (I.new hh hc hk hin) (by rw [ks_app]; exact List.mem_append_left _ hc) hK' (by rw [List.length_append, List.length_singleton]; omega)
      refine ⟨(mkF hd k c, rowOf es c ++ [k]) :: x, y4, y5, s', ?_, ?_, ?_, by rw [List.length_cons, List.length_cons]; omega⟩
      · rw [List.map_cons]
        unfold forL
        simp only [q0]
        rw [show bodyQ _ s = _ from (seq_at e6).trans ed]
        exact f1
      · rw [List.foldl_cons]
        have : stepK hd c es k = es ++ [(mkF hd k c, rowOf es c ++ [k])] := by unfold stepK; rw [if_neg hin]
        rw [this, f2, List.append_assoc]
        rfl
      · rw [List.append_assoc, List.append_assoc] at f3
        exact f3
abbrev testQ : En → CS → R Bool := fB (fCmpP neD (fVar 2) (fN lstD fNil))
abbrev stepQ : En → CS → RT := gSeq (gAsg (hN 3) (fPopI (fVar 2) (fC (.int 0)))) (gFor (fRng1 (fN lenD (fCons (f2 ixD (fVar 0) (fC (.int 2))) fNil))) (hN 4) bodyQ)
theorem steps_g_is : y_law_steps_to_g = gSeq (gPar2 1 2 (fCons (fNewDP (f2 ixD (fVar 0) (fC (.int 1))) (fC (.int 0))) (fCons (fNew (fCons (f2 ixD (fVar 0) (fC (.int 1))) fNil)) fNil))) (gSeq (whileL testQ stepQ 4096) (gRet (fFrzD 1))) := rfl
theorem test_is {ns : List Nat} (h : ns ∈ szs) {ds : List (List Nat)} (hd : ∀ c ∈ ds, c ∈ cnts ns) (hl : ds.length ≤ 8) {n : Nat} {ρ : En} {s : CS} (e : ρ[2]? = some (some (.c n))) (hs : s[n]? = some (.lst (ds.map dT))) : testQ ρ s = .ok (!ds.isEmpty) s := by
  refine fB_at ?_
  have el : fN lstD fNil ρ s = .ok (.d (.list [])) s := rfl
  simp only [fCmpP, fVar, e, el, R.bind, cmpP, peek, hs, ne_some h hd hl]
theorem queue_loop {ns : List Nat} {m : Nat} {hd : D} (hh : HouseN ns m hd) {b : List Nat} (hb : b ∈ cnts ns) : ∀ (fuel i : Nat) (N : List (List Nat)) (s : CS) (x3 x4 x5 : Option W), 9 - i < fuel → (ks (met hd m b i)).drop i = N → i ≤ (met hd m b i).length → Two s 0 1 (ent VL (met hd m b i)) (N.map dT) →
    ∃ y3 y4 y5 s', whileL testQ stepQ fuel [some (.d hd), some (.c 0), some (.c 1), x3, x4, x5] s = .nx [some (.d hd), some (.c 0), some (.c 1), y3, y4, y5] s' ∧ s'[0]? = some (.dct (ent VL (met hd m b 8)))
  | 0, i, N, s, x3, x4, x5, hf, _, _, _ => by omega
  | fuel + 1, i, [], s, x3, x4, x5, hf, hq, hi, hs => by
    have t := test_is hh.sz (ds := []) (fun c hc => by cases hc) (by simp) (ρ := [some (.d hd), some (.c 0), some (.c 1), x3, x4, x5]) rfl hs.2.1
    refine ⟨x3, x4, x5, s, ?_, ?_⟩
    · unfold whileL
      rw [t]
      rfl
    · have : (met hd m b i).length ≤ i := by
        have := congrArg List.length hq
        rw [List.length_drop] at this
        unfold ks at this
        rw [List.length_map] at this
        simp at this
        omega
      rw [hs.1, met_8 hh hb this]
  | fuel + 1, i, c :: N, s, x3, x4, x5, hf, hq, hi, hs => by
    have h8 := met_len hh hb i
    have h5 := hh.m5
    have I := met_inv hh hb i
    have hlen : N.length + 1 + i = (met hd m b i).length := by
      have := congrArg List.length hq
      rw [List.length_drop] at this
      unfold ks at this
      rw [List.length_map] at this
      simp at this
      omega
    have hmem : ∀ d ∈ c :: N, d ∈ cnts ns := fun d hd' => I.cn d (List.mem_of_mem_drop (by rw [hq]; exact hd'))
    have t := test_is hh.sz (ds := c :: N) hmem (by rw [List.length_cons]; omega) (ρ := [some (.d hd), some (.c 0), some (.c 1), x3, x4, x5]) rfl hs.2.1
    obtain ⟨em, hc⟩ := met_step (N := N) hq
    have hs1 : Two (s.set 1 (.lst (N.map dT))) 0 1 (ent VL (met hd m b i)) (N.map dT) := by
      refine ⟨?_, ?_, hs.2.2⟩
      · rw [List.getElem?_set_ne (by decide)]
        exact hs.1
      · rw [List.getElem?_set_self (List.getElem?_eq_some_iff.mp hs.2.1).1]
    have qp : gAsg (hN 3) (fPopI (fVar 2) (fC (.int 0))) [some (.d hd), some (.c 0), some (.c 1), x3, x4, x5] s = .nx [some (.d hd), some (.c 0), some (.c 1), some (.d (dT c)), x4, x5] (s.set 1 (.lst (N.map dT))) := by
      refine asg_at (w := .d (dT c)) (s1 := s.set 1 (.lst (N.map dT))) ?_ rfl
      have ix : ixN ((c :: N).map dT).length 0 = some 0 := by
        unfold ixN
        rw [if_pos (by decide), if_pos (by rw [List.length_map, List.length_cons]; omega)]
        rfl
      have hv : fVar 2 [some (.d hd), some (.c 0), some (.c 1), x3, x4, x5] s = .ok (.c 1) s := rfl
      simp only [fPopI, hv, R.bind, popC, hs.2.1, fC, popW, ix]
      rw [if_pos (by decide)]
      rfl
    obtain ⟨x, y4, y5, s1, k1, k2, k3, k4⟩ := kindsQ hh (b := b) (c := c) (n1 := 0) (n2 := 1) (List.range m) (met hd m b i) (N.map dT) _ x4 x5 hs1 I hc (fun k hk => List.mem_range.mp hk) (by rw [List.length_range, List.length_map]; omega)
    have e1 : met hd m b (i + 1) = met hd m b i ++ x := em.trans k2
    rw [← e1] at k3
    have hd2 : (ks (met hd m b (i + 1))).drop (i + 1) = N ++ ks x := by
      rw [e1, ks_app, List.drop_append_of_le_length (by unfold ks; rw [List.length_map]; omega)]
      have : (ks (met hd m b i)).drop (i + 1) = N := by
        rw [← List.drop_drop, hq]
        rfl
      rw [this]
    rw [← List.map_append] at k3
    obtain ⟨z3, z4, z5, s', g1, g2⟩ := queue_loop hh hb fuel (i + 1) (N ++ ks x) s1 (some (.d (dT c))) y4 y5 (by omega) hd2 (by rw [e1, List.length_append]; omega) k3
    refine ⟨z3, z4, z5, s', ?_, g2⟩
    have qf : gFor (fRng1 (fN lenD (fCons (f2 ixD (fVar 0) (fC (.int 2))) fNil))) (hN 4) bodyQ [some (.d hd), some (.c 0), some (.c 1), some (.d (dT c)), x4, x5] (s.set 1 (.lst (N.map dT))) = .nx [some (.d hd), some (.c 0), some (.c 1), some (.d (dT c)), y4, y5] s1 := by
      unfold gFor
      rw [rng_of (hh.len (i := 0) rfl _) (by omega)]
      exact k1
    unfold whileL
    rw [t]
    show (match stepQ [some (.d hd), some (.c 0), some (.c 1), x3, x4, x5] s with
      | .nx ρ2 s2 => whileL testQ stepQ fuel ρ2 s2
      | .ct ρ2 s2 => whileL testQ stepQ fuel ρ2 s2
      | .bk ρ2 s2 => .nx ρ2 s2
      | z => z) = _
    rw [show stepQ _ s = _ from (seq_at qp).trans qf]
    exact g1
theorem steps_is {ns : List Nat} {m : Nat} {b : List Nat} {hd : D} (hB : HouseB ns m b hd) : ∃ s', noX y_law_steps_to_r [.d hd] [] = .ok (.fd (ent VL (met hd m b 8))) s' := by
  obtain ⟨hh, hb, k, ek⟩ := hB
  have hl : (met hd m b 0).length = 1 := rfl
  have ko := key_ok ns hh.sz b hb
  obtain ⟨y3, y4, y5, s', e, g⟩ := queue_loop hh hb 4096 0 [b] [.dct (ent VL (met hd m b 0)), .lst ([b].map dT)] none none none (by omega) rfl (by omega) ⟨rfl, rfl, by decide⟩
  refine ⟨s'.set 0 .dead, call_of rfl ?_⟩
  rw [steps_g_is]
  have eb : ∀ s, f2 ixD (fVar 0) (fC (.int 1)) [some (.d hd), none, none, none, none, none] s = .ok (.d (dT b)) s := fun s => by
    rw [ek]
    rfl
  have q1 : gPar2 1 2 (fCons (fNewDP (f2 ixD (fVar 0) (fC (.int 1))) (fC (.int 0))) (fCons (fNew (fCons (f2 ixD (fVar 0) (fC (.int 1))) fNil)) fNil)) [some (.d hd), none, none, none, none, none] [] = .nx [some (.d hd), some (.c 0), some (.c 1), none, none, none] [.dct (ent VL (met hd m b 0)), .lst ([b].map dT)] := by
    have e1 : fNewDP (f2 ixD (fVar 0) (fC (.int 1))) (fC (.int 0)) [some (.d hd), none, none, none, none, none] [] = .ok (.c 0) [.dct (ent VL (met hd m b 0))] := by
      unfold fNewDP
      rw [eb]
      show (if keyOk (dT b) = true then _ else _) = _
      rw [if_pos ko]
      rfl
    have e2 : fNew (fCons (f2 ixD (fVar 0) (fC (.int 1))) fNil) [some (.d hd), none, none, none, none, none] [.dct (ent VL (met hd m b 0))] = .ok (.c 1) [.dct (ent VL (met hd m b 0)), .lst ([b].map dT)] := by
      simp only [fNew, fCons, eb, R.bind, fNil, allD, Option.map]
      rfl
    have e3 : fCons (fNewDP (f2 ixD (fVar 0) (fC (.int 1))) (fC (.int 0))) (fCons (fNew (fCons (f2 ixD (fVar 0) (fC (.int 1))) fNil)) fNil) [some (.d hd), none, none, none, none, none] [] = .ok [.c 0, .c 1] [.dct (ent VL (met hd m b 0)), .lst ([b].map dT)] := by
      unfold fCons
      rw [e1]
      show R.bind (R.bind (fNew _ _ [.dct (ent VL (met hd m b 0))]) _) _ = _
      have e2' := e2
      unfold fCons at e2'
      rw [e2']
      rfl
    unfold gPar2
    rw [e3]
    rfl
  refine (seq_at q1).trans ((seq_at e).trans (ret_at ?_))
  show (match s'[0]? with
    | some (.dct ds) => R.ok (W.fd ds) (s'.set 0 .dead)
    | _ => .bad) = _
  rw [g]
/-! ### both are asked -/
theorem sh_dT : ∀ {a b : List Nat}, a.length = b.length → shs (a.map nD) (b.map nD) = true
  | [], [], _ => rfl
  | [], _ :: _, h => by simp at h
  | _ :: _, [], h => by simp at h
  | x :: a, y :: b, h => by
    have := sh_dT (a := a) (b := b) (by simpa using h)
    show (sh (nD x) (nD y) && shs (a.map nD) (b.map nD)) = true
    rw [this]
    rfl
theorem pl_dT (a : List Nat) : plD 8 (dT a) = true := by
  show (a.map nD).all (plD 7) = true
  rw [List.all_eq_true]
  intro x hx
  obtain ⟨n, _, rfl⟩ := List.mem_map.mp hx
  rfl
def srtK (es : Es) : List D := isortL leK ((ks es).map dT)
theorem srtOk_dT {n : Nat} (hn : 0 < n) : ∀ cs : List (List Nat), (∀ c ∈ cs, c.length = n) → srtOk (cs.map dT) = true
  | [], _ => rfl
  | c :: r, h => by
    have hc := h c List.mem_cons_self
    cases c with
    | nil => simp at hc; omega
    | cons x t =>
      show (plD 8 (dT (x :: t)) && sh (dT (x :: t)) (dT (x :: t)) && (r.map dT).all fun y => plD 8 y && sh y (dT (x :: t))) = true
      rw [pl_dT, show sh (dT (x :: t)) (dT (x :: t)) = true from sh_dT rfl]
      rw [Bool.true_and, Bool.true_and, List.all_eq_true]
      intro y hy
      obtain ⟨d, hd, rfl⟩ := List.mem_map.mp hy
      rw [pl_dT, show sh (dT d) (dT (x :: t)) = true from sh_dT (by rw [h d (List.mem_cons_of_mem _ hd), hc])]
      rfl
theorem srt_is {ns : List Nat} (h : ns ∈ szs) {es : Es} (hc : ∀ c ∈ ks es, c ∈ cnts ns) : srtD ((ks es).map dT) = some (srtK es) := by
  unfold srtD
  rw [if_pos (srtOk_dT (szs_ok ns h).1 _ fun c hc' => cnts_len ns h c (hc c hc'))]
  rfl
theorem insL_len {α : Type} (le : α → α → Bool) (x : α) : ∀ l : List α, (insL le x l).length = l.length + 1
  | [] => rfl
  | y :: r => by
    unfold insL
    split
    · rfl
    · rw [List.length_cons, insL_len le x r, List.length_cons]
theorem isortL_len {α : Type} (le : α → α → Bool) : ∀ l : List α, (isortL le l).length = l.length
  | [] => rfl
  | y :: r => by
    unfold isortL
    rw [insL_len, isortL_len le r, List.length_cons]
theorem fine_cnt {ns : List Nat} (h : ns ∈ szs) {c : List Nat} (hc : c ∈ cnts ns) : Fine 1 18 (dT c) := by
  obtain ⟨h1, h2⟩ := cnts_fine ns h c hc
  exact fine_dT h2 h1
theorem fine_srt {ns : List Nat} (h : ns ∈ szs) {es : Es} (hc : ∀ c ∈ ks es, c ∈ cnts ns) (hl : es.length ≤ 8) : Fine 2 163 (.tuple (srtK es)) := Fine.tuple (n := 1) (m := 18) (k := 8) (fun x hx => by
  obtain ⟨c, hc', rfl⟩ := List.mem_map.mp (isortL_mem.mp hx)
  exact fine_cnt h (hc c hc')) (by unfold srtK; rw [isortL_len, List.length_map]; unfold ks; rw [List.length_map]; exact hl)
theorem ent_keys (V : List Nat × List Nat → D) (es : Es) : (ent V es).map (·.1) = (ks es).map dT := by
  unfold ent ks
  rw [List.map_map, List.map_map]
  rfl
theorem srt_fd {V : List Nat × List Nat → D} {ns : List Nat} (h : ns ∈ szs) {es : Es} (hc : ∀ c ∈ ks es, c ∈ cnts ns) {fs : En → CS → R (List W)} {ρ : En} {s s' : CS} (e : fs ρ s = .ok [.fd (ent V es)] s') : fSrt fs ρ s = .ok (.d (.list (srtK es))) s' := by
  unfold fSrt
  rw [e]
  show (if unm (ent V es) = true then (match srtD ((ent V es).map (·.1)) with
    | some es => R.ok (W.d (.list es)) s'
    | none => .bad) else .bad) = _
  rw [if_pos (unm_ent es), ent_keys, srt_is h hc]
theorem tupleD_list (ds : List D) : tupleD [.list ds] = some (.tuple ds) := rfl
theorem come_is {ns : List Nat} {m : Nat} {b : List Nat} {hd : D} (hB : HouseB ns m b hd) : pureR (noX xcome_to_r) [.d hd] [] = .ok (.d (.tuple (srtK (met hd m b 8)))) [] := by
  obtain ⟨s', e⟩ := shortest_is hB
  have I := (met_inv hB.1 hB.2.1 8).cn
  generalize met hd m b 8 = es at e I ⊢
  refine pure_of (s' := s') (call_of rfl (ret_at (fN1 (d := .list (srtK es)) (srt_fd (V := VP) hB.1.sz I ?_) (tupleD_list _))))
  show R.bind (noX y_shortest_rows_r [.d hd] []) (fun w s => R.ok [w] s) = _
  rw [e]
  rfl
def told (es : Es) (c : List Nat) : D := if c ∈ ks es then .tuple ((rowOf es c).map nD) else .none
theorem row_is {ns : List Nat} {m : Nat} {b : List Nat} {hd : D} (hB : HouseB ns m b hd) {c : List Nat} (hc : c ∈ cnts ns) : pureR (noX xrow_to_r) [.d hd, .d (dT c)] [] = .ok (.d (told (met hd m b 8) c)) [] := by
  obtain ⟨s', e⟩ := shortest_is hB
  have ko := key_ok ns hB.1.sz c hc
  generalize met hd m b 8 = es at e ⊢
  refine pure_of (s' := s') (call_of rfl (ret_at ?_))
  show R.bind (noX y_shortest_rows_r [.d hd] []) (dGetM0 (fVar 1) [some (.d hd), some (.d (dT c))]) = _
  rw [e]
  show dGetM0 (fVar 1) [some (.d hd), some (.d (dT c))] (.fd (ent VP es)) s' = _
  unfold told
  by_cases h : c ∈ ks es
  · simp only [dGetM0, dctOf, unm_ent, if_true, fVar, List.getElem?_cons_succ, List.getElem?_cons_zero, R.bind, dGetM, ko, look_in h, if_pos h]
    rfl
  · simp only [dGetM0, dctOf, unm_ent, if_true, fVar, List.getElem?_cons_succ, List.getElem?_cons_zero, R.bind, dGetM, ko, look_no h, if_neg h]
theorem fine3 {n m : Nat} {a b c : D} (h1 : Fine n m a) (h2 : Fine n m b) (h3 : Fine n m c) : Fine (n + 1) (3 * (m + 2) + 3) (.tuple [a, b, c]) := Fine.tuple (fun x hx => by
  simp only [List.mem_cons, List.not_mem_nil, or_false] at hx
  rcases hx with rfl | rfl | rfl
  · exact h1
  · exact h2
  · exact h3) (by simp)
theorem fine_plain {ns : List Nat} (h : ns ∈ szs) {x : D} (hx : Plain ns x) : Fine 1 30 x := by
  obtain ⟨h1, h2, h3⟩ := szs_ok ns h
  cases hx with
  | @num w c l m hw e hl =>
    obtain ⟨hc, e2⟩ := List.getElem?_eq_some_iff.mp e
    have h8 := h3 m (by rw [← e2]; exact List.getElem_mem hc)
    have hw' : w ∈ (["set", "raise", "lower", "copy", "when"] : List Str) := by
      simp only [W3, List.mem_cons, List.not_mem_nil, or_false] at hw ⊢
      rcases hw with h | h | h
      · exact .inl h
      · exact .inr (.inl h)
      · exact .inr (.inr (.inl h))
    exact fine3 (fine_word w hw') ((fine_nat (by omega)).mono (by omega) (by omega)) ((fine_nat (by omega)).mono (by omega) (by omega))
  | @copy c o hc ho hne => exact fine3 (fine_word "copy" (by simp)) ((fine_nat (by omega)).mono (by omega) (by omega)) ((fine_nat (by omega)).mono (by omega) (by omega))
theorem fine_step {ns : List Nat} (h : ns ∈ szs) {x : D} (hx : StepP ns x) : Fine 2 163 x := by
  obtain ⟨h1, h2, h3⟩ := szs_ok ns h
  cases hx with
  | plain hp => exact (fine_plain h hp).mono (by omega) (by omega)
  | @when c lo hi m y e a b hp =>
    obtain ⟨hc, e2⟩ := List.getElem?_eq_some_iff.mp e
    have h8 := h3 m (by rw [← e2]; exact List.getElem_mem hc)
    refine Fine.tuple (n := 1) (m := 30) (k := 5) (fun x hx => ?_) (by simp)
    simp only [List.mem_cons, List.not_mem_nil, or_false] at hx
    rcases hx with rfl | rfl | rfl | rfl | rfl
    · exact (fine_word "when" (by simp)).mono (by omega) (by omega)
    · exact (fine_nat (by omega)).mono (by omega) (by omega)
    · exact (fine_nat (by omega)).mono (by omega) (by omega)
    · exact (fine_nat (by omega)).mono (by omega) (by omega)
    · exact fine_plain h hp
theorem all2_lt : ∀ {ns bs : List Nat}, All2 (fun n b : Nat => b < n) ns bs → (∀ n ∈ ns, n ≤ 8) → ∀ b ∈ bs, b < 100
  | _, _, .nil, _ => fun b hb => by cases hb
  | n :: ns, b :: bs, .cons h t, hn => fun x hx => by
    rcases List.mem_cons.mp hx with rfl | hx
    · have := hn n List.mem_cons_self
      omega
    · exact all2_lt t (fun y hy => hn y (List.mem_cons_of_mem _ hy)) x hx
theorem fine_house {ns : List Nat} {m : Nat} {hd : D} (hh : HouseN ns m hd) : Fine 5 14943 hd := by
  obtain ⟨bs, ks, h, rfl, hb, hm1, hm5, hm, hK⟩ := hh
  obtain ⟨h1, h2, h3⟩ := szs_ok ns h
  have fk : Fine 4 4978 (.tuple ks) := Fine.tuple (n := 3) (m := 993) (k := 5) (fun x hx => by
    obtain ⟨ss, rfl, hl, hs⟩ := hK x hx
    exact Fine.tuple (n := 2) (m := 163) (k := 6) (fun y hy => fine_step h (hs y hy)) hl) (by omega)
  refine fine3 ((fine_dT (fun n hn => by have := h3 n hn; omega) h2).mono (by omega) (by omega)) ((fine_dT (all2_lt hb fun n hn => (h3 n hn).2) ?_).mono (by omega) (by omega)) fk
  rw [← hb.len]
  exact h2
theorem HouseN.tup {ns : List Nat} {m : Nat} {hd : D} (hh : HouseN ns m hd) : ∃ ds, hd = .tuple ds := by
  obtain ⟨bs, ks, h, rfl, hb, hm1, hm5, hm, hK⟩ := hh
  exact ⟨_, rfl⟩
/-- two reprs of the same -/
theorem repr_skip {f g : En → CS → R W} {k : En → CS → RT} {ρ : En} {s : CS} {n m : Nat} {ds : List D} (e1 : f ρ s = .ok (.d (.tuple ds)) s) (e2 : g ρ s = .ok (.d (.tuple ds)) s) (h : Fine n m (.tuple ds)) (hn : n ≤ 60) (hm : m ≤ 10000000) :
    gIf (fB (f2 neD (fN reprD (fCons f fNil)) (fN reprD (fCons g fNil)))) k gNx ρ s = .nx ρ s := by
  have r := h.repr hn hm (.inl ⟨ds, rfl⟩)
  refine (if_ff (s1 := s) (fB_at ?_)).trans rfl
  simp only [f2, fN1 e1 r, fN1 e2 r, R.bind, lift2, h.ne]
theorem aft_in {ns : List Nat} {m : Nat} {hd : D} (hh : HouseN ns m hd) : ∀ (l : List Nat) (c : List Nat), (∀ k ∈ l, k < m) → c ∈ cnts ns → aft hd c l ∈ cnts ns
  | [], c, _, hc => hc
  | k :: l, c, hl, hc => aft_in hh l (mkF hd k c) (fun x hx => hl x (List.mem_cons_of_mem _ hx)) (mkF_is hh (hl k List.mem_cons_self) hc).1

abbrev mkQ : En → CS → RT := gAsg (hN 4) (fCallP 3 (noX y_law_made_r) (fCons (fVar 0) (fCons (fVar 4) (fCons (fVar 5) fNil))))
theorem behind_loop {ns : List Nat} {m : Nat} {hd : D} (hh : HouseN ns m hd) (x1 x2 x3 : Option W) (s : CS) : ∀ (l : List Nat) (c : List Nat) (x5 : Option W), (∀ k ∈ l, k < m) → c ∈ cnts ns → ∃ y5, forL (hN 5) mkQ (l.map nD) [some (.d hd), x1, x2, x3, some (.d (dT c)), x5] s = .nx [some (.d hd), x1, x2, x3, some (.d (dT (aft hd c l))), y5] s
  | [], c, x5, _, _ => ⟨x5, rfl⟩
  | k :: l, c, x5, hl, hc => by
    obtain ⟨h1, _, h2⟩ := mkF_is hh (hl k List.mem_cons_self) hc
    obtain ⟨y5, e⟩ := behind_loop hh x1 x2 x3 s l (mkF hd k c) (some (.d (nD k))) (fun x hx => hl x (List.mem_cons_of_mem _ hx)) h1
    refine ⟨y5, ?_⟩
    have q0 : hN 5 (.d (nD k)) [some (.d hd), x1, x2, x3, some (.d (dT c)), x5] = some [some (.d hd), x1, x2, x3, some (.d (dT c)), some (.d (nD k))] := rfl
    have q1 : mkQ [some (.d hd), x1, x2, x3, some (.d (dT c)), some (.d (nD k))] s = .nx [some (.d hd), x1, x2, x3, some (.d (dT (mkF hd k c))), some (.d (nD k))] s := asg_at (w := .d (dT (mkF hd k c))) (s1 := s) (pureR_at h2 s) rfl
    rw [List.map_cons]
    unfold forL
    simp only [q0]
    rw [q1]
    exact e
abbrev rA : En → CS → RT := gAsg (hN 3) (fCallP 2 (noX xrow_to_r) (fCons (fVar 0) (fCons (fVar 2) fNil)))
abbrev rB : En → CS → RT := gIf (fB (f2 neD (fIsN false (fVar 3)) (fDIn true (fVar 2) (fVar 1)))) (gRet (fC (.bool false))) gNx
abbrev rD5 : En → CS → RT := gIf (fOr (fNot (fB (f1 (isiD isTuple) (fVar 3)))) (fOr (fB (f2 neD (fN lenD (fCons (fVar 3) fNil)) (fDGet (fVar 1) (fVar 2)))) (fB (f2 neD (fVar 4) (fVar 2))))) (gRet (fC (.bool false))) gNx
abbrev rC : En → CS → RT := gIf (fB (fIsN true (fVar 3))) (gSeq (gAsg (hN 4) (f2 ixD (fVar 0) (fC (.int 1)))) (gSeq (gFor (fIt (fVar 3)) (hN 5) mkQ) rD5)) gNx
abbrev bodyR : En → CS → RT := gSeq rA (gSeq rB rC)
theorem right_t2_is : y_law_right_t2 = gSeq (gFor (fIt (fCallP 1 (noX y_law_contents_r) (fCons (fVar 0) fNil))) (hN 2) bodyR) y_law_right_t3 := rfl
theorem ne_bb (x : Bool) : neD (.bool x) (.bool x) = some (.bool false) := by cases x <;> kernel_rfl
theorem right_step {ns : List Nat} {m : Nat} {b : List Nat} {hd : D} (hB : HouseB ns m b hd) {c : List Nat} (hc : c ∈ cnts ns) (x3 x4 x5 : Option W) (s : CS) :
    ∃ y3 y4 y5, bodyR [some (.d hd), some (.fd (ent VL (met hd m b 8))), some (.d (dT c)), x3, x4, x5] s = .nx [some (.d hd), some (.fd (ent VL (met hd m b 8))), some (.d (dT c)), y3, y4, y5] s := by
  have er := row_is hB hc
  have I := met_inv hB.1 hB.2.1 8
  generalize met hd m b 8 = es at er I ⊢
  obtain ⟨hh, hb, k, ek⟩ := hB
  have ko := key_ok ns hh.sz c hc
  have qA : rA [some (.d hd), some (.fd (ent VL es)), some (.d (dT c)), x3, x4, x5] s = .nx [some (.d hd), some (.fd (ent VL es)), some (.d (dT c)), some (.d (told es c)), x4, x5] s := asg_at (w := .d (told es c)) (s1 := s) (pureR_at er s) rfl
  by_cases h : c ∈ ks es
  · have et : told es c = .tuple ((rowOf es c).map nD) := if_pos h
    rw [et] at qA
    obtain ⟨p, e, hp, e2⟩ := find_mem h
    have erow : rowOf es c = p.2 := by unfold rowOf; rw [e]
    obtain ⟨r1, r2⟩ := I.rw p hp
    rw [← erow] at r1 r2
    rw [e2] at r2
    have qB : rB [some (.d hd), some (.fd (ent VL es)), some (.d (dT c)), some (.d (.tuple ((rowOf es c).map nD))), x4, x5] s = .nx [some (.d hd), some (.fd (ent VL es)), some (.d (dT c)), some (.d (.tuple ((rowOf es c).map nD))), x4, x5] s := by
      refine (if_ff (s1 := s) (fB_at ?_)).trans rfl
      have ed : fDIn true (fVar 2) (fVar 1) [some (.d hd), some (.fd (ent VL es)), some (.d (dT c)), some (.d (.tuple ((rowOf es c).map nD))), x4, x5] s = .ok (.d (.bool false)) s := by
        simp only [fDIn, fVar, List.getElem?_cons_succ, List.getElem?_cons_zero, R.bind, dIn, dctOf, unm_ent, if_true, ko, look_in h]
        rfl
      have ei : fIsN false (fVar 3) [some (.d hd), some (.fd (ent VL es)), some (.d (dT c)), some (.d (.tuple ((rowOf es c).map nD))), x4, x5] s = .ok (.d (.bool false)) s := rfl
      simp only [f2, ei, ed, R.bind, lift2, ne_bb]
    obtain ⟨y5, eb⟩ := behind_loop hh (some (.fd (ent VL es))) (some (.d (dT c))) (some (.d (.tuple ((rowOf es c).map nD)))) s (rowOf es c) b x5 r1 hb
    rw [r2] at eb
    refine ⟨some (.d (.tuple ((rowOf es c).map nD))), some (.d (dT c)), y5, (seq_at qA).trans ((seq_at qB).trans ?_)⟩
    refine (if_tt (s1 := s) rfl).trans ?_
    have q4 : gAsg (hN 4) (f2 ixD (fVar 0) (fC (.int 1))) [some (.d hd), some (.fd (ent VL es)), some (.d (dT c)), some (.d (.tuple ((rowOf es c).map nD))), x4, x5] s = .nx [some (.d hd), some (.fd (ent VL es)), some (.d (dT c)), some (.d (.tuple ((rowOf es c).map nD))), some (.d (dT b)), x5] s := by
      rw [ek]
      rfl
    have q5 : gFor (fIt (fVar 3)) (hN 5) mkQ [some (.d hd), some (.fd (ent VL es)), some (.d (dT c)), some (.d (.tuple ((rowOf es c).map nD))), some (.d (dT b)), x5] s = .nx [some (.d hd), some (.fd (ent VL es)), some (.d (dT c)), some (.d (.tuple ((rowOf es c).map nD))), some (.d (dT c)), y5] s := eb
    refine (seq_at q4).trans ((seq_at q5).trans ?_)
    refine (if_ff (s1 := s) ?_).trans rfl
    have g1 : fNot (fB (f1 (isiD isTuple) (fVar 3))) [some (.d hd), some (.fd (ent VL es)), some (.d (dT c)), some (.d (.tuple ((rowOf es c).map nD))), some (.d (dT c)), y5] s = .ok false s := rfl
    have eg : fDGet (fVar 1) (fVar 2) [some (.d hd), some (.fd (ent VL es)), some (.d (dT c)), some (.d (.tuple ((rowOf es c).map nD))), some (.d (dT c)), y5] s = .ok (.d (VL (c, rowOf es c))) s := by
      simp only [fDGet, fVar, List.getElem?_cons_succ, List.getElem?_cons_zero, R.bind, dGet, dctOf, unm_ent, if_true, ko, look_in h]
    have el : fN lenD (fCons (fVar 3) fNil) [some (.d hd), some (.fd (ent VL es)), some (.d (dT c)), some (.d (.tuple ((rowOf es c).map nD))), some (.d (dT c)), y5] s = .ok (.d (.int ((rowOf es c).length : Nat))) s := by
      refine fN1 (d := .tuple ((rowOf es c).map nD)) rfl ?_
      show some (PyData.int (((rowOf es c).map nD).length : Nat)) = _
      rw [List.length_map]
    have g2 : fB (f2 neD (fN lenD (fCons (fVar 3) fNil)) (fDGet (fVar 1) (fVar 2))) [some (.d hd), some (.fd (ent VL es)), some (.d (dT c)), some (.d (.tuple ((rowOf es c).map nD))), some (.d (dT c)), y5] s = .ok false s := by
      refine fB_at ?_
      have : neD (.int ((rowOf es c).length : Nat)) (VL (c, rowOf es c)) = some (.bool false) := by
        show neD (.int ((rowOf es c).length : Nat)) (.int ((rowOf es c).length : Nat)) = _
        rw [ne_ints, beq_self_eq_true]
        rfl
      simp only [f2, el, eg, R.bind, lift2, this]
    have g3 : fB (f2 neD (fVar 4) (fVar 2)) [some (.d hd), some (.fd (ent VL es)), some (.d (dT c)), some (.d (.tuple ((rowOf es c).map nD))), some (.d (dT c)), y5] s = .ok false s := by
      refine fB_at ?_
      have fc := fine_cnt hh.sz hc
      show lift2 neD (.d (dT c)) (.d (dT c)) s = _
      simp only [lift2, ne_self (fc.shaped (by decide)) fc.nd]
    unfold fOr
    rw [g1]
    show R.bind (fB (f2 neD (fN lenD (fCons (fVar 3) fNil)) (fDGet (fVar 1) (fVar 2))) _ s) _ = _
    rw [g2]
    exact g3
  · have et : told es c = .none := if_neg h
    rw [et] at qA
    refine ⟨some (.d .none), x4, x5, (seq_at qA).trans ((seq_at (ρ' := [some (.d hd), some (.fd (ent VL es)), some (.d (dT c)), some (.d .none), x4, x5]) (s' := s) ?_).trans ?_)⟩
    · refine (if_ff (s1 := s) (fB_at ?_)).trans rfl
      have ed : fDIn true (fVar 2) (fVar 1) [some (.d hd), some (.fd (ent VL es)), some (.d (dT c)), some (.d .none), x4, x5] s = .ok (.d (.bool true)) s := by
        simp only [fDIn, fVar, List.getElem?_cons_succ, List.getElem?_cons_zero, R.bind, dIn, dctOf, unm_ent, if_true, ko, look_no h]
        rfl
      have ei : fIsN false (fVar 3) [some (.d hd), some (.fd (ent VL es)), some (.d (dT c)), some (.d .none), x4, x5] s = .ok (.d (.bool true)) s := rfl
      simp only [f2, ei, ed, R.bind, lift2, ne_bb]
    · exact (if_ff (s1 := s) rfl).trans rfl
theorem right_loop {ns : List Nat} {m : Nat} {b : List Nat} {hd : D} (hB : HouseB ns m b hd) (s : CS) : ∀ (cs : List (List Nat)) (x2 x3 x4 x5 : Option W), (∀ c ∈ cs, c ∈ cnts ns) → ∃ y2 y3 y4 y5, forL (hN 2) bodyR (cs.map dT) [some (.d hd), some (.fd (ent VL (met hd m b 8))), x2, x3, x4, x5] s = .nx [some (.d hd), some (.fd (ent VL (met hd m b 8))), y2, y3, y4, y5] s
  | [], x2, x3, x4, x5, _ => ⟨x2, x3, x4, x5, rfl⟩
  | c :: cs, x2, x3, x4, x5, h => by
    obtain ⟨y3, y4, y5, e1⟩ := right_step hB (h c List.mem_cons_self) x3 x4 x5 s
    obtain ⟨z2, z3, z4, z5, e2⟩ := right_loop hB s cs (some (.d (dT c))) y3 y4 y5 fun d hd => h d (List.mem_cons_of_mem _ hd)
    refine ⟨z2, z3, z4, z5, ?_⟩
    have q0 : hN 2 (.d (dT c)) [some (.d hd), some (.fd (ent VL (met hd m b 8))), x2, x3, x4, x5] = some [some (.d hd), some (.fd (ent VL (met hd m b 8))), some (.d (dT c)), x3, x4, x5] := rfl
    rw [List.map_cons]
    unfold forL
    simp only [q0]
    rw [e1]
    exact e2
theorem right_is {ns : List Nat} {m : Nat} {b : List Nat} {hd : D} (hB : HouseB ns m b hd) : pureR (noX y_law_right_r) [.d hd] [] = .ok (.d (.bool true)) [] := by
  obtain ⟨s, es⟩ := steps_is hB
  have I := met_inv hB.1 hB.2.1 8
  have h8 := met_len hB.1 hB.2.1 8
  have ec := come_is hB
  obtain ⟨y2, y3, y4, y5, el⟩ := right_loop hB s (cnts ns) none none none none fun c hc => hc
  generalize met hd m b 8 = ee at es I h8 ec el
  have q1 : gAsg (hN 1) (fCall 1 y_law_steps_to_r (fCons (fVar 0) fNil)) [some (.d hd), none, none, none, none, none] [] = .nx [some (.d hd), some (.fd (ent VL ee)), none, none, none, none] s := asg_at (w := .fd (ent VL ee)) es rfl
  have q2 : gIf (fB (f2 neD (fN reprD (fCons (fCallP 1 (noX xcome_to_r) (fCons (fVar 0) fNil)) fNil)) (fN reprD (fCons (fN tupleD (fCons (fSrt (fCons (fVar 1) fNil)) fNil)) fNil)))) (gRet (fC (.bool false))) gNx [some (.d hd), some (.fd (ent VL ee)), none, none, none, none] s = .nx [some (.d hd), some (.fd (ent VL ee)), none, none, none, none] s :=
    repr_skip (pureR_at ec s) (fN1 (srt_fd (V := VL) hB.1.sz I.cn rfl) (tupleD_list _)) (fine_srt hB.1.sz I.cn h8) (by decide) (by decide)
  have q3 : gFor (fIt (fCallP 1 (noX y_law_contents_r) (fCons (fVar 0) fNil))) (hN 2) bodyR [some (.d hd), some (.fd (ent VL ee)), none, none, none, none] s = .nx [some (.d hd), some (.fd (ent VL ee)), y2, y3, y4, y5] s := by
    unfold gFor
    rw [it_of (.inr (hB.1.contL (i := 0) rfl s))]
    exact el
  refine pure_of (s' := s) (call_of rfl ((seq_at q1).trans ((seq_at q2).trans ?_)))
  rw [right_t2_is]
  exact (seq_at q3).trans rfl
/-! ### the law -/
abbrev EV (w0 x2 x3 x4 x5 x6 x7 x8 x9 x10 x11 : Option W) : En := [w0, some (.c 0), x2, x3, x4, x5, x6, x7, x8, x9, x10, x11]
abbrev tuP : En → CS → RT := gAsg (hT 2 (hsC (hN 3) (hsC (hN 4) hsN))) (fCall 1 y_law_pair_r (fCons (fVar 1) fNil))
abbrev tuQ : En → CS → RT := gAsg (hN 5) (fN reprD (fCons (fVar 3) fNil))
abbrev tuT : En → CS → RT := gIf (fOr (fNot (fB (fCallP 1 (noX y_law_right_r) (fCons (fVar 3) fNil)))) (fB (f2 neD (fN reprD (fCons (fVar 3) fNil)) (fVar 5)))) (gRet (fC (.bool false))) gNx
abbrev tuB : En → CS → RT := gSeq tuP (gSeq tuQ tuT)
theorem t1_is : xlaw_t1 = gSeq (gFor (fRng1 (fC (.int 6))) (hN 2) tuB) xlaw_t2 := rfl
theorem turn_is {s : CS} (h0 : Pn s) (w0 x2 x3 x4 x5 x6 x7 x8 x9 x10 x11 : Option W) : ∃ y3 y4 y5 s', tuB (EV w0 x2 x3 x4 x5 x6 x7 x8 x9 x10 x11) s = .nx (EV w0 x2 y3 y4 y5 x6 x7 x8 x9 x10 x11) s' ∧ Pn s' := by
  obtain ⟨w, p, t, hp, ep, x, rfl, ns, m, hd, r, rfl, hh, hr⟩ := pair_sp s h0
  have h1 := h0.set hp t
  have qP : tuP (EV w0 x2 x3 x4 x5 x6 x7 x8 x9 x10 x11) s = .nx (EV w0 x2 (some (.d hd)) (some (.d r)) x5 x6 x7 x8 x9 x10 x11) (s.set 0 p ++ t) := asg_at (w := .d (.tuple [hd, r])) ep rfl
  obtain ⟨s1, es1⟩ : ∃ s1, s1 = s.set 0 p ++ t := ⟨_, rfl⟩
  rw [← es1] at h1 qP
  have fh := fine_house hh
  have rh := fh.repr (by decide) (by decide) (.inl hh.tup)
  obtain ⟨b, hB⟩ := houseB_of hh
  have qQ : tuQ (EV w0 x2 (some (.d hd)) (some (.d r)) x5 x6 x7 x8 x9 x10 x11) s1 = .nx (EV w0 x2 (some (.d hd)) (some (.d r)) (some (.d (.str hd.shown))) x6 x7 x8 x9 x10 x11) s1 := asg_at (w := .d (.str hd.shown)) (s1 := s1) (fN1 rfl rh) rfl
  refine ⟨some (.d hd), some (.d r), some (.d (.str hd.shown)), s1, (seq_at qP).trans ((seq_at qQ).trans ?_), h1⟩
  refine (if_ff (s1 := s1) ?_).trans rfl
  have g1 : fNot (fB (fCallP 1 (noX y_law_right_r) (fCons (fVar 3) fNil))) (EV w0 x2 (some (.d hd)) (some (.d r)) (some (.d (.str hd.shown))) x6 x7 x8 x9 x10 x11) s1 = .ok false s1 := by
    have e : fCallP 1 (noX y_law_right_r) (fCons (fVar 3) fNil) (EV w0 x2 (some (.d hd)) (some (.d r)) (some (.d (.str hd.shown))) x6 x7 x8 x9 x10 x11) s1 = .ok (.d (.bool true)) s1 := pureR_at (right_is hB) s1
    unfold fNot
    rw [fB_at e]
    rfl
  have g2 : fB (f2 neD (fN reprD (fCons (fVar 3) fNil)) (fVar 5)) (EV w0 x2 (some (.d hd)) (some (.d r)) (some (.d (.str hd.shown))) x6 x7 x8 x9 x10 x11) s1 = .ok false s1 := by
    refine fB_at ?_
    have e : fN reprD (fCons (fVar 3) fNil) (EV w0 x2 (some (.d hd)) (some (.d r)) (some (.d (.str hd.shown))) x6 x7 x8 x9 x10 x11) s1 = .ok (.d (.str hd.shown)) s1 := fN1 rfl rh
    have e2 : fVar 5 (EV w0 x2 (some (.d hd)) (some (.d r)) (some (.d (.str hd.shown))) x6 x7 x8 x9 x10 x11) s1 = .ok (.d (.str hd.shown)) s1 := rfl
    simp only [f2, e, e2, R.bind, lift2, fh.ne]
  unfold fOr
  rw [g1]
  exact g2
theorem turns_is (w0 x6 x7 x8 x9 x10 x11 : Option W) : ∀ (items : List D) (s : CS) (x2 x3 x4 x5 : Option W), Pn s → ∃ y2 y3 y4 y5 s', forL (hN 2) tuB items (EV w0 x2 x3 x4 x5 x6 x7 x8 x9 x10 x11) s = .nx (EV w0 y2 y3 y4 y5 x6 x7 x8 x9 x10 x11) s' ∧ Pn s'
  | [], s, x2, x3, x4, x5, h => ⟨x2, x3, x4, x5, s, rfl, h⟩
  | y :: items, s, x2, x3, x4, x5, hs => by
    obtain ⟨y3, y4, y5, s1, e1, p1⟩ := turn_is hs w0 (some (.d y)) x3 x4 x5 x6 x7 x8 x9 x10 x11
    obtain ⟨z2, z3, z4, z5, s', e2, p2⟩ := turns_is w0 x6 x7 x8 x9 x10 x11 items s1 (some (.d y)) y3 y4 y5 p1
    refine ⟨z2, z3, z4, z5, s', ?_, p2⟩
    have q0 : hN 2 (.d y) (EV w0 x2 x3 x4 x5 x6 x7 x8 x9 x10 x11) = some (EV w0 (some (.d y)) x3 x4 x5 x6 x7 x8 x9 x10 x11) := rfl
    unfold forL
    simp only [q0]
    rw [e1]
    exact e2
/-! a row of eight -/
def upK : D := .tuple [stW 0 6 6 (stS "set" 0 7), stW 0 5 5 (stS "set" 0 6), stW 0 4 4 (stS "set" 0 5), stW 0 3 3 (stS "set" 0 4), stW 0 2 2 (stS "set" 0 3), stW 0 1 1 (stS "set" 0 2)]
def rowH (d : Nat) : D := .tuple [dT [8], dT [d], .tuple [.tuple [stW 0 0 0 (stS "set" 0 1)], upK]]
theorem rowH_ok {d : Nat} (hd : d < 3) : HouseN [8] 2 (rowH d) := ⟨[d], _, by decide, rfl, .cons (by omega) .nil, by decide, by decide, rfl, fun k hk => by
  simp only [List.mem_cons, List.not_mem_nil, or_false] at hk
  rcases hk with rfl | rfl
  · exact one_kind (st_when rfl (by decide) (by decide) m_set rfl (by decide))
  · refine ⟨_, rfl, by decide, fun x hx => ?_⟩
    simp only [List.mem_cons, List.not_mem_nil, or_false] at hx
    rcases hx with rfl | rfl | rfl | rfl | rfl | rfl <;> exact st_when rfl (by decide) (by decide) m_set rfl (by decide)⟩
def dueL (d v : Nat) : D := dT ((if d = 0 ∧ 0 < v then [0] else []) ++ List.replicate (v - max d 1) 1)
def toldL (d : Nat) : List D := (List.range 8).map fun v => if v < d then .none else dueL d v
def dueRow (d : Nat) : List D := [.none, .none, .none] ++ (List.range (8 - d)).map fun i => dueL d (d + i)
abbrev dueV : En → CS → R W := f2 addD (f2 mulD (fN tupD (fCons (fC (.int 0)) fNil)) (fN intD (fCons (fAndV (f2 eqD (fVar 7) (fC (.int 0))) (f2 gtD (fVar 10) (fC (.int 0)))) fNil))) (f2 mulD (fN tupD (fCons (fC (.int 1)) fNil)) (f2 subD (fVar 10) (fN max2D (fCons (fVar 7) (fCons (fC (.int 1)) fNil)))))
abbrev dueB : En → CS → RT := gAppC (fVar 9) dueV
theorem t6_is : xlaw_t6 = gSeq (gFor (fRng2 (fVar 7) (fC (.int 8))) (hN 10) dueB) xlaw_t7 := rfl
theorem app_end {i : Nat} {f : En → CS → R W} {ρ : En} {s : CS} {L : List D} {x : D} (e : ρ[i]? = some (some (.c s.length))) (hl : L.length < 1000) (ef : f ρ (s ++ [.lst L]) = .ok (.d x) (s ++ [.lst L])) : gAppC (fVar i) f ρ (s ++ [.lst L]) = .nx ρ (s ++ [.lst (L ++ [x])]) := by
  have g : (s ++ [Cell.lst L])[s.length]? = some (.lst L) := by simp
  simp only [gAppC, fVar, e, R.toT, onC, g, ef, appC]
  rw [if_pos (Nat.lt_of_lt_of_le hl (by decide))]
  simp
theorem app_loop {w0 x2 x3 x4 x5 x6 x8 x11 : Option W} {d : Nat} {s : CS} : ∀ (vs : List Nat) (L : List D) (x10 : Option W), (∀ v ∈ vs, ∀ u, dueV (EV w0 x2 x3 x4 x5 x6 (some (.d (nD d))) x8 (some (.c s.length)) (some (.d (nD v))) x11) u = .ok (.d (dueL d v)) u) → L.length + vs.length < 900 →
    ∃ y10, forL (hN 10) dueB (vs.map nD) (EV w0 x2 x3 x4 x5 x6 (some (.d (nD d))) x8 (some (.c s.length)) x10 x11) (s ++ [.lst L]) = .nx (EV w0 x2 x3 x4 x5 x6 (some (.d (nD d))) x8 (some (.c s.length)) y10 x11) (s ++ [.lst (L ++ vs.map (dueL d))])
  | [], L, x10, _, _ => ⟨x10, by
      show RT.nx _ (s ++ [.lst L]) = RT.nx _ (s ++ [.lst (L ++ [])])
      rw [List.append_nil]⟩
  | v :: vs, L, x10, h, hl => by
    rw [List.length_cons] at hl
    obtain ⟨y10, e⟩ := app_loop (w0 := w0) (x2 := x2) (x3 := x3) (x4 := x4) (x5 := x5) (x6 := x6) (x8 := x8) (x11 := x11) (d := d) (s := s) vs (L ++ [dueL d v]) (some (.d (nD v))) (fun u hu => h u (List.mem_cons_of_mem _ hu)) (by rw [List.length_append, List.length_singleton]; omega)
    refine ⟨y10, ?_⟩
    have q0 : hN 10 (.d (nD v)) (EV w0 x2 x3 x4 x5 x6 (some (.d (nD d))) x8 (some (.c s.length)) x10 x11) = some (EV w0 x2 x3 x4 x5 x6 (some (.d (nD d))) x8 (some (.c s.length)) (some (.d (nD v))) x11) := rfl
    have q1 := app_end (i := 9) (f := dueV) (ρ := EV w0 x2 x3 x4 x5 x6 (some (.d (nD d))) x8 (some (.c s.length)) (some (.d (nD v))) x11) (s := s) (L := L) (x := dueL d v) rfl (by omega) (h v List.mem_cons_self _)
    rw [List.map_cons]
    unfold forL
    simp only [q0]
    rw [show dueB _ (s ++ [.lst L]) = _ from q1]
    rw [List.map_cons, show L ++ dueL d v :: vs.map (dueL d) = L ++ [dueL d v] ++ vs.map (dueL d) by simp]
    exact e
theorem due_is {d v : Nat} (hd : d < 3) (hv : v < 8) (w0 x2 x3 x4 x5 x6 x8 x9 x11 : Option W) (u : CS) : dueV (EV w0 x2 x3 x4 x5 x6 (some (.d (nD d))) x8 x9 (some (.d (nD v))) x11) u = .ok (.d (dueL d v)) u := by
  have h1 : d = 0 ∨ d = 1 ∨ d = 2 := by omega
  have h2 : v = 0 ∨ v = 1 ∨ v = 2 ∨ v = 3 ∨ v = 4 ∨ v = 5 ∨ v = 6 ∨ v = 7 := by omega
  rcases h1 with rfl | rfl | rfl <;> rcases h2 with rfl | rfl | rfl | rfl | rfl | rfl | rfl | rfl <;> kernel_rfl
abbrev t8f : En → CS → RT := gIf (fB (f2 neD (fCallP 1 (noX xcome_to_r) (fCons (fVar 8) fNil)) (fN tupleD (fCons (fLc [10] (fRng2 (fVar 7) (fC (.int 8))) (hN 10) fYes (fN tupD (fCons (fVar 10) fNil))) fNil)))) (gRet (fC (.bool false))) gNx
theorem rng2_is {d : Nat} (hd : d < 3) (w0 x2 x3 x4 x5 x6 x8 x9 x10 x11 : Option W) (u : CS) : fRng2 (fVar 7) (fC (.int 8)) (EV w0 x2 x3 x4 x5 x6 (some (.d (nD d))) x8 x9 x10 x11) u = .ok (((List.range (8 - d)).map fun i => d + i).map nD) u := by
  have h1 : d = 0 ∨ d = 1 ∨ d = 2 := by omega
  rcases h1 with rfl | rfl | rfl <;> kernel_rfl
theorem told_is {d : Nat} (hd : d < 3) (w0 x2 x3 x4 x5 x6 x9 x10 x11 : Option W) (u : CS) : fLc [10] (fRng1 (fC (.int 8))) (hN 10) fYes (fCallP 2 (noX xrow_to_r) (fCons (fVar 8) (fCons (fN tupD (fCons (fVar 10) fNil)) fNil))) (EV w0 x2 x3 x4 x5 x6 (some (.d (nD d))) (some (.d (rowH d))) x9 x10 x11) u = .ok (.d (.list (toldL d))) u := by
  have h1 : d = 0 ∨ d = 1 ∨ d = 2 := by omega
  rcases h1 with rfl | rfl | rfl <;> kernel_rfl
theorem t8_is {d : Nat} (hd : d < 3) (w0 x2 x3 x4 x5 x6 x9 x10 x11 : Option W) (u : CS) : t8f (EV w0 x2 x3 x4 x5 x6 (some (.d (nD d))) (some (.d (rowH d))) x9 x10 x11) u = .nx (EV w0 x2 x3 x4 x5 x6 (some (.d (nD d))) (some (.d (rowH d))) x9 x10 x11) u := by
  have h1 : d = 0 ∨ d = 1 ∨ d = 2 := by omega
  rcases h1 with rfl | rfl | rfl <;> kernel_rfl
theorem last_is {d : Nat} (hd : d < 3) : eqD (.list (toldL d)) (.list ((dueRow d).drop (3 - d))) = some (.bool true) := by
  have h1 : d = 0 ∨ d = 1 ∨ d = 2 := by omega
  rcases h1 with rfl | rfl | rfl <;> kernel_rfl
theorem tail_is {s : CS} (hs : Pn s) (w0 x2 x3 x4 x5 : Option W) : ∃ s', xlaw_t2 (EV w0 x2 x3 x4 x5 none none none none none none) s = .rt (.d (.bool true)) s' := by
  have q2 : gAsg (hN 6) (fN tupleD (fCons (fLc [10] (fRngU (fC (.int 6)) (fC (.int 0)) (f1 negD (fC (.int 1)))) (hN 10) fYes (fN tupD (fCons (fC (.str "when")) (fCons (fC (.int 0)) (fCons (fVar 10) (fCons (fVar 10) (fCons (fN tupD (fCons (fC (.str "set")) (fCons (fC (.int 0)) (fCons (f2 addD (fVar 10) (fC (.int 1))) fNil)))) fNil))))))) fNil)) (EV w0 x2 x3 x4 x5 none none none none none none) s = .nx (EV w0 x2 x3 x4 x5 (some (.d upK)) none none none none none) s := by kernel_rfl
  obtain ⟨w, p, t, hp, e3, x, rfl, d, rfl, hd⟩ := sp_cl (ρ := EV w0 x2 x3 x4 x5 (some (.d upK)) none none none none none) (fs := fCons (fVar 1) (fCons (fC (.int 3)) fNil)) (ws := [.c 0, .d (.int (3 : Nat))]) (m := 2) (fun s => rfl) rfl (sp_draw (m := 3) (by decide) (by decide)) s hs
  have h1 := hs.set hp t
  obtain ⟨u, hu⟩ : ∃ u, u = s.set 0 p ++ t := ⟨_, rfl⟩
  rw [← hu] at e3 h1
  have q3 : gAsg (hN 7) (fCall 2 y_law_draw_r (fCons (fVar 1) (fCons (fC (.int 3)) fNil))) (EV w0 x2 x3 x4 x5 (some (.d upK)) none none none none none) s = .nx (EV w0 x2 x3 x4 x5 (some (.d upK)) (some (.d (nD d))) none none none none) u := asg_at e3 rfl
  have q4 : gAsg (hN 8) (fN tupD (fCons (fN tupD (fCons (fC (.int 8)) fNil)) (fCons (fN tupD (fCons (fVar 7) fNil)) (fCons (fN tupD (fCons (fN tupD (fCons (fN tupD (fCons (fC (.str "when")) (fCons (fC (.int 0)) (fCons (fC (.int 0)) (fCons (fC (.int 0)) (fCons (fN tupD (fCons (fC (.str "set")) (fCons (fC (.int 0)) (fCons (fC (.int 1)) fNil)))) fNil)))))) fNil)) (fCons (fVar 6) fNil))) fNil)))) (EV w0 x2 x3 x4 x5 (some (.d upK)) (some (.d (nD d))) none none none none) u = .nx (EV w0 x2 x3 x4 x5 (some (.d upK)) (some (.d (nD d))) (some (.d (rowH d))) none none none) u := by kernel_rfl
  have q5 : gAsg (hN 9) (fNew (fCons (fC .none) (fCons (fC .none) (fCons (fC .none) fNil)))) (EV w0 x2 x3 x4 x5 (some (.d upK)) (some (.d (nD d))) (some (.d (rowH d))) none none none) u = .nx (EV w0 x2 x3 x4 x5 (some (.d upK)) (some (.d (nD d))) (some (.d (rowH d))) (some (.c u.length)) none none) (u ++ [Cell.lst [.none, .none, .none]]) := rfl
  obtain ⟨y10, e6⟩ := app_loop (w0 := w0) (x2 := x2) (x3 := x3) (x4 := x4) (x5 := x5) (x6 := some (.d upK)) (x8 := some (.d (rowH d))) (x11 := none) (d := d) (s := u) ((List.range (8 - d)).map fun i => d + i) [.none, .none, .none] none (fun v hv z => by
    obtain ⟨i, hi, rfl⟩ := List.mem_map.mp hv
    have := List.mem_range.mp hi
    exact due_is hd (by omega) _ _ _ _ _ _ _ _ _ z) (by rw [List.length_map, List.length_range]; simp; omega)
  have ed : [PyData.none, .none, .none] ++ ((List.range (8 - d)).map fun i => d + i).map (dueL d) = dueRow d := by
    unfold dueRow
    rw [List.map_map]
    rfl
  rw [ed] at e6
  have q6 : gFor (fRng2 (fVar 7) (fC (.int 8))) (hN 10) dueB (EV w0 x2 x3 x4 x5 (some (.d upK)) (some (.d (nD d))) (some (.d (rowH d))) (some (.c u.length)) none none) (u ++ [Cell.lst [.none, .none, .none]]) = .nx (EV w0 x2 x3 x4 x5 (some (.d upK)) (some (.d (nD d))) (some (.d (rowH d))) (some (.c u.length)) y10 none) (u ++ [Cell.lst (dueRow d)]) := by
    unfold gFor
    rw [rng2_is hd]
    exact e6
  have q7 : gAsg (hN 11) (fLc [10] (fRng1 (fC (.int 8))) (hN 10) fYes (fCallP 2 (noX xrow_to_r) (fCons (fVar 8) (fCons (fN tupD (fCons (fVar 10) fNil)) fNil)))) (EV w0 x2 x3 x4 x5 (some (.d upK)) (some (.d (nD d))) (some (.d (rowH d))) (some (.c u.length)) y10 none) (u ++ [Cell.lst (dueRow d)]) = .nx (EV w0 x2 x3 x4 x5 (some (.d upK)) (some (.d (nD d))) (some (.d (rowH d))) (some (.c u.length)) y10 (some (.d (.list (toldL d))))) (u ++ [Cell.lst (dueRow d)]) := asg_at (told_is hd _ _ _ _ _ _ _ _ _ _) rfl
  have q8 := t8_is hd w0 x2 x3 x4 x5 (some (.d upK)) (some (.c u.length)) y10 (some (.d (.list (toldL d)))) (u ++ [Cell.lst (dueRow d)])
  refine ⟨(u ++ [Cell.lst (dueRow d)]).set u.length .dead, ?_⟩
  have q9 : xlaw_t9 (EV w0 x2 x3 x4 x5 (some (.d upK)) (some (.d (nD d))) (some (.d (rowH d))) (some (.c u.length)) y10 (some (.d (.list (toldL d))))) (u ++ [Cell.lst (dueRow d)]) = .rt (.d (.bool true)) ((u ++ [Cell.lst (dueRow d)]).set u.length .dead) := by
    obtain ⟨b, hB⟩ := houseB_of (rowH_ok hd)
    refine ret_at ?_
    have g1 : fCallP 1 (noX y_law_right_r) (fCons (fVar 8) fNil) (EV w0 x2 x3 x4 x5 (some (.d upK)) (some (.d (nD d))) (some (.d (rowH d))) (some (.c u.length)) y10 (some (.d (.list (toldL d))))) (u ++ [Cell.lst (dueRow d)]) = .ok (.d (.bool true)) (u ++ [Cell.lst (dueRow d)]) := pureR_at (right_is hB) _
    have g : (u ++ [Cell.lst (dueRow d)])[u.length]? = some (.lst (dueRow d)) := by simp
    have g2 : fFrz 9 (EV w0 x2 x3 x4 x5 (some (.d upK)) (some (.d (nD d))) (some (.d (rowH d))) (some (.c u.length)) y10 (some (.d (.list (toldL d))))) (u ++ [Cell.lst (dueRow d)]) = .ok (.d (.list (dueRow d))) ((u ++ [Cell.lst (dueRow d)]).set u.length .dead) := by
      show (match (u ++ [Cell.lst (dueRow d)])[u.length]? with
        | some (.lst ds) => R.ok (W.d (.list ds)) ((u ++ [Cell.lst (dueRow d)]).set u.length .dead)
        | _ => .bad) = _
      rw [g]
    have sl : ∀ z, liftS (.d (.list (dueRow d))) (some ((3 : Int) - (d : Nat))) none z = .ok (.d (.list ((dueRow d).drop (3 - d)))) z := fun z => by
      have h1 : d = 0 ∨ d = 1 ∨ d = 2 := by omega
      rcases h1 with rfl | rfl | rfl <;> kernel_rfl
    have g3 : fSl (fFrz 9) (fO1 (f2 subD (fC (.int 3)) (fVar 7))) fO0 (EV w0 x2 x3 x4 x5 (some (.d upK)) (some (.d (nD d))) (some (.d (rowH d))) (some (.c u.length)) y10 (some (.d (.list (toldL d))))) (u ++ [Cell.lst (dueRow d)]) = .ok (.d (.list ((dueRow d).drop (3 - d)))) ((u ++ [Cell.lst (dueRow d)]).set u.length .dead) := by
      unfold fSl
      rw [g2]
      exact sl _
    have g4 : fVar 11 (EV w0 x2 x3 x4 x5 (some (.d upK)) (some (.d (nD d))) (some (.d (rowH d))) (some (.c u.length)) y10 (some (.d (.list (toldL d))))) (u ++ [Cell.lst (dueRow d)]) = .ok (.d (.list (toldL d))) (u ++ [Cell.lst (dueRow d)]) := rfl
    have g5 : f2 eqD (fVar 11) (fSl (fFrz 9) (fO1 (f2 subD (fC (.int 3)) (fVar 7))) fO0) (EV w0 x2 x3 x4 x5 (some (.d upK)) (some (.d (nD d))) (some (.d (rowH d))) (some (.c u.length)) y10 (some (.d (.list (toldL d))))) (u ++ [Cell.lst (dueRow d)]) = .ok (.d (.bool true)) ((u ++ [Cell.lst (dueRow d)]).set u.length .dead) := by
      simp only [f2, g4, g3, R.bind, lift2, last_is hd]
    unfold fAndV
    rw [fB_at g1]
    exact g5
  exact (seq_at q2).trans ((seq_at q3).trans ((seq_at q4).trans ((seq_at q5).trans ((seq_at q6).trans ((seq_at q7).trans ((seq_at q8).trans q9))))))
theorem HLAW : LawTrue xlaw_r := by
  intro ns hl
  obtain ⟨ms, hp⟩ := zpen_is ns hl
  have hp : noX y_law_pen_r [.sc ns] [] = .ok (.c 0) [.lst [.list (ms.map .int), .int 0, .int 0]] := by
    show noX zpen_r _ _ = _
    unfold noX
    rw [hp]
  have q1 : gAsg (hN 1) (fCall 1 y_law_pen_r (fCons (fVar 0) fNil)) (startE 12 [.sc ns]) [] = .nx (EV (some (.sc ns)) none none none none none none none none none none) [.lst [.list (ms.map .int), .int 0, .int 0]] := by
    show gAsg (hN 1) (fCall 1 y_law_pen_r (fCons (fVar 0) fNil)) [some (.sc ns), none, none, none, none, none, none, none, none, none, none, none] [] = _
    exact asg_at (w := .c 0) hp rfl
  obtain ⟨u2, u3, u4, u5, s', e2, p2⟩ := turns_is (some (.sc ns)) none none none none none none ((List.range 6).map nD) [.lst [.list (ms.map .int), .int 0, .int 0]] none none none none ⟨_, rfl, ms, 0, 0, rfl⟩
  have q2 : gFor (fRng1 (fC (.int 6))) (hN 2) tuB (EV (some (.sc ns)) none none none none none none none none none none) [.lst [.list (ms.map .int), .int 0, .int 0]] = .nx (EV (some (.sc ns)) u2 u3 u4 u5 none none none none none none) s' := by
    unfold gFor
    rw [rng_of (n := 6) rfl (by decide)]
    exact e2
  obtain ⟨z, e3⟩ := tail_is p2 (some (.sc ns)) u2 u3 u4 u5
  refine ⟨z, ?_⟩
  have big : xlaw_g (startE 12 [.sc ns]) [] = .rt (.d (.bool true)) z := by
    refine (seq_at q1).trans ?_
    rw [t1_is]
    exact (seq_at q2).trans e3
  show (if [W.sc ns].length = 1 then _ else _) = _
  rw [if_pos (show [W.sc ns].length = 1 from rfl), big]
/-! what the top has written; the law -/
theorem all_mk {l : PySem.W.OpenLaw} {w : World} {K : PySem.W.Frag} {h : Heap} {mg : Str → Option Value} {fa f0 f1 f2 f3 f4 f5 f6 f7 f8 f9 f10 f11 f12 f13 f14 f15 f16 f17 f18 f19 f20 f21 f22 f23 f24 f25 f26 f27 f28 f29 : Addr} (X : K.In h) (G : h.Ns mainGlobals mg) (hfa : mg "law" = some (.ref fa)) (HL : LawTrue xlaw_r)
    {od0 an0 od1 an1 od2 an2 od3 an3 od4 an4 od5 an5 od6 an6 od7 an7 od8 an8 od9 an9 od10 an10 od11 an11 od12 an12 od13 an13 od14 an14 od15 an15 od16 an16 od17 an17 od18 an18 od19 an19 od20 an20 od21 an21 od22 an22 od23 an23 od24 an24 od25 an25 od26 an26 od27 an27 od28 an28 od29 an29 : Option Addr} {sl0 sl1 sl2 sl3 sl4 sl5 sl6 sl7 sl8 sl9 sl10 sl11 sl12 sl13 sl14 sl15 sl16 sl17 sl18 sl19 sl20 sl21 sl22 sl23 sl24 sl25 sl26 sl27 sl28 sl29 : Array (Option Value)} {oc0 kV0 dc0 pm0 cd0 ct0 oc1 kV1 dc1 pm1 cd1 ct1 oc2 kV2 dc2 pm2 cd2 ct2 oc3 kV3 dc3 pm3 cd3 ct3 oc4 kV4 dc4 pm4 cd4 ct4 oc5 kV5 dc5 pm5 cd5 ct5 oc6 kV6 dc6 pm6 cd6 ct6 oc7 kV7 dc7 pm7 cd7 ct7 oc8 kV8 dc8 pm8 cd8 ct8 oc9 kV9 dc9 pm9 cd9 ct9 oc10 kV10 dc10 pm10 cd10 ct10 oc11 kV11 dc11 pm11 cd11 ct11 oc12 kV12 dc12 pm12 cd12 ct12 oc13 kV13 dc13 pm13 cd13 ct13 oc14 kV14 dc14 pm14 cd14 ct14 oc15 kV15 dc15 pm15 cd15 ct15 oc16 kV16 dc16 pm16 cd16 ct16 oc17 kV17 dc17 pm17 cd17 ct17 oc18 kV18 dc18 pm18 cd18 ct18 oc19 kV19 dc19 pm19 cd19 ct19 oc20 kV20 dc20 pm20 cd20 ct20 oc21 kV21 dc21 pm21 cd21 ct21 oc22 kV22 dc22 pm22 cd22 ct22 oc23 kV23 dc23 pm23 cd23 ct23 oc24 kV24 dc24 pm24 cd24 ct24 oc25 kV25 dc25 pm25 cd25 ct25 oc26 kV26 dc26 pm26 cd26 ct26 oc27 kV27 dc27 pm27 cd27 ct27 oc28 kV28 dc28 pm28 cd28 ct28 oc29 kV29 dc29 pm29 cd29 ct29 : Value}
    (a0 : PySem.W.nsIn K mainGlobals "come_to" = some (some (.ref f0))) (l0 : K.lookup f0 = some ⟨oc0, od0, .func (PySem.W.fnOf "come_to" "come_to" (defArgs xcome_to_s) (defBody xcome_to_s) (defScope xcome_to_s) .none kV0 dc0 pm0 an0 cd0 ct0), sl0⟩) (c0 : PySem.W.codeIn K cd0 "come_to" = true) (k0 : PySem.W.keepIn K (.ref f0) = true)
    (a1 : PySem.W.nsIn K mainGlobals "row_to" = some (some (.ref f1))) (l1 : K.lookup f1 = some ⟨oc1, od1, .func (PySem.W.fnOf "row_to" "row_to" (defArgs xrow_to_s) (defBody xrow_to_s) (defScope xrow_to_s) .none kV1 dc1 pm1 an1 cd1 ct1), sl1⟩) (c1 : PySem.W.codeIn K cd1 "row_to" = true) (k1 : PySem.W.keepIn K (.ref f1) = true)
    (a2 : PySem.W.nsIn K mainGlobals "made_by" = some (some (.ref f2))) (l2 : K.lookup f2 = some ⟨oc2, od2, .func (PySem.W.fnOf "made_by" "made_by" (defArgs xmade_by_s) (defBody xmade_by_s) (defScope xmade_by_s) .none kV2 dc2 pm2 an2 cd2 ct2), sl2⟩) (c2 : PySem.W.codeIn K cd2 "made_by" = true) (k2 : PySem.W.keepIn K (.ref f2) = true)
    (a3 : PySem.W.nsIn K mainGlobals "_behind_step" = some (some (.ref f3))) (l3 : K.lookup f3 = some ⟨oc3, od3, .func (PySem.W.fnOf "_behind_step" "_behind_step" (defArgs y_behind_step_s) (defBody y_behind_step_s) (defScope y_behind_step_s) .none kV3 dc3 pm3 an3 cd3 ct3), sl3⟩) (c3 : PySem.W.codeIn K cd3 "_behind_step" = true) (k3 : PySem.W.keepIn K (.ref f3) = true)
    (a4 : PySem.W.nsIn K mainGlobals "_behind_plain_step" = some (some (.ref f4))) (l4 : K.lookup f4 = some ⟨oc4, od4, .func (PySem.W.fnOf "_behind_plain_step" "_behind_plain_step" (defArgs y_behind_plain_step_s) (defBody y_behind_plain_step_s) (defScope y_behind_plain_step_s) .none kV4 dc4 pm4 an4 cd4 ct4), sl4⟩) (c4 : PySem.W.codeIn K cd4 "_behind_plain_step" = true) (k4 : PySem.W.keepIn K (.ref f4) = true)
    (a5 : PySem.W.nsIn K mainGlobals "_new_value" = some (some (.ref f5))) (l5 : K.lookup f5 = some ⟨oc5, od5, .func (PySem.W.fnOf "_new_value" "_new_value" (defArgs y_new_value_s) (defBody y_new_value_s) (defScope y_new_value_s) .none kV5 dc5 pm5 an5 cd5 ct5), sl5⟩) (c5 : PySem.W.codeIn K cd5 "_new_value" = true) (k5 : PySem.W.keepIn K (.ref f5) = true)
    (a6 : PySem.W.nsIn K mainGlobals "_shortest_rows" = some (some (.ref f6))) (l6 : K.lookup f6 = some ⟨oc6, od6, .func (PySem.W.fnOf "_shortest_rows" "_shortest_rows" (defArgs y_shortest_rows_s) (defBody y_shortest_rows_s) (defScope y_shortest_rows_s) .none kV6 dc6 pm6 an6 cd6 ct6), sl6⟩) (c6 : PySem.W.codeIn K cd6 "_shortest_rows" = true) (k6 : PySem.W.keepIn K (.ref f6) = true)
    (a7 : PySem.W.nsIn K mainGlobals "_add_longer_rows" = some (some (.ref f7))) (l7 : K.lookup f7 = some ⟨oc7, od7, .func (PySem.W.fnOf "_add_longer_rows" "_add_longer_rows" (defArgs y_add_longer_rows_s) (defBody y_add_longer_rows_s) (defScope y_add_longer_rows_s) .none kV7 dc7 pm7 an7 cd7 ct7), sl7⟩) (c7 : PySem.W.codeIn K cd7 "_add_longer_rows" = true) (k7 : PySem.W.keepIn K (.ref f7) = true)
    (a8 : PySem.W.nsIn K mainGlobals "_law_pen" = some (some (.ref f8))) (l8 : K.lookup f8 = some ⟨oc8, od8, .func (PySem.W.fnOf "_law_pen" "_law_pen" (defArgs y_law_pen_s) (defBody y_law_pen_s) (defScope y_law_pen_s) .none kV8 dc8 pm8 an8 cd8 ct8), sl8⟩) (c8 : PySem.W.codeIn K cd8 "_law_pen" = true) (k8 : PySem.W.keepIn K (.ref f8) = true)
    (a9 : PySem.W.nsIn K mainGlobals "_law_fresh" = some (some (.ref f9))) (l9 : K.lookup f9 = some ⟨oc9, od9, .func (PySem.W.fnOf "_law_fresh" "_law_fresh" (defArgs y_law_fresh_s) (defBody y_law_fresh_s) (defScope y_law_fresh_s) .none kV9 dc9 pm9 an9 cd9 ct9), sl9⟩) (c9 : PySem.W.codeIn K cd9 "_law_fresh" = true) (k9 : PySem.W.keepIn K (.ref f9) = true)
    (a10 : PySem.W.nsIn K mainGlobals "_law_draw" = some (some (.ref f10))) (l10 : K.lookup f10 = some ⟨oc10, od10, .func (PySem.W.fnOf "_law_draw" "_law_draw" (defArgs y_law_draw_s) (defBody y_law_draw_s) (defScope y_law_draw_s) .none kV10 dc10 pm10 an10 cd10 ct10), sl10⟩) (c10 : PySem.W.codeIn K cd10 "_law_draw" = true) (k10 : PySem.W.keepIn K (.ref f10) = true)
    (a11 : PySem.W.nsIn K mainGlobals "_law_one_of" = some (some (.ref f11))) (l11 : K.lookup f11 = some ⟨oc11, od11, .func (PySem.W.fnOf "_law_one_of" "_law_one_of" (defArgs y_law_one_of_s) (defBody y_law_one_of_s) (defScope y_law_one_of_s) .none kV11 dc11 pm11 an11 cd11 ct11), sl11⟩) (c11 : PySem.W.codeIn K cd11 "_law_one_of" = true) (k11 : PySem.W.keepIn K (.ref f11) = true)
    (a12 : PySem.W.nsIn K mainGlobals "_law_sizes" = some (some (.ref f12))) (l12 : K.lookup f12 = some ⟨oc12, od12, .func (PySem.W.fnOf "_law_sizes" "_law_sizes" (defArgs y_law_sizes_s) (defBody y_law_sizes_s) (defScope y_law_sizes_s) .none kV12 dc12 pm12 an12 cd12 ct12), sl12⟩) (c12 : PySem.W.codeIn K cd12 "_law_sizes" = true) (k12 : PySem.W.keepIn K (.ref f12) = true)
    (a13 : PySem.W.nsIn K mainGlobals "_law_plain" = some (some (.ref f13))) (l13 : K.lookup f13 = some ⟨oc13, od13, .func (PySem.W.fnOf "_law_plain" "_law_plain" (defArgs y_law_plain_s) (defBody y_law_plain_s) (defScope y_law_plain_s) .none kV13 dc13 pm13 an13 cd13 ct13), sl13⟩) (c13 : PySem.W.codeIn K cd13 "_law_plain" = true) (k13 : PySem.W.keepIn K (.ref f13) = true)
    (a14 : PySem.W.nsIn K mainGlobals "_law_step" = some (some (.ref f14))) (l14 : K.lookup f14 = some ⟨oc14, od14, .func (PySem.W.fnOf "_law_step" "_law_step" (defArgs y_law_step_s) (defBody y_law_step_s) (defScope y_law_step_s) .none kV14 dc14 pm14 an14 cd14 ct14), sl14⟩) (c14 : PySem.W.codeIn K cd14 "_law_step" = true) (k14 : PySem.W.keepIn K (.ref f14) = true)
    (a15 : PySem.W.nsIn K mainGlobals "_law_kind" = some (some (.ref f15))) (l15 : K.lookup f15 = some ⟨oc15, od15, .func (PySem.W.fnOf "_law_kind" "_law_kind" (defArgs y_law_kind_s) (defBody y_law_kind_s) (defScope y_law_kind_s) .none kV15 dc15 pm15 an15 cd15 ct15), sl15⟩) (c15 : PySem.W.codeIn K cd15 "_law_kind" = true) (k15 : PySem.W.keepIn K (.ref f15) = true)
    (a16 : PySem.W.nsIn K mainGlobals "_law_house_of" = some (some (.ref f16))) (l16 : K.lookup f16 = some ⟨oc16, od16, .func (PySem.W.fnOf "_law_house_of" "_law_house_of" (defArgs y_law_house_of_s) (defBody y_law_house_of_s) (defScope y_law_house_of_s) .none kV16 dc16 pm16 an16 cd16 ct16), sl16⟩) (c16 : PySem.W.codeIn K cd16 "_law_house_of" = true) (k16 : PySem.W.keepIn K (.ref f16) = true)
    (a17 : PySem.W.nsIn K mainGlobals "_law_some_house" = some (some (.ref f17))) (l17 : K.lookup f17 = some ⟨oc17, od17, .func (PySem.W.fnOf "_law_some_house" "_law_some_house" (defArgs y_law_some_house_s) (defBody y_law_some_house_s) (defScope y_law_some_house_s) .none kV17 dc17 pm17 an17 cd17 ct17), sl17⟩) (c17 : PySem.W.codeIn K cd17 "_law_some_house" = true) (k17 : PySem.W.keepIn K (.ref f17) = true)
    (a18 : PySem.W.nsIn K mainGlobals "_law_small_house" = some (some (.ref f18))) (l18 : K.lookup f18 = some ⟨oc18, od18, .func (PySem.W.fnOf "_law_small_house" "_law_small_house" (defArgs y_law_small_house_s) (defBody y_law_small_house_s) (defScope y_law_small_house_s) .none kV18 dc18 pm18 an18 cd18 ct18), sl18⟩) (c18 : PySem.W.codeIn K cd18 "_law_small_house" = true) (k18 : PySem.W.keepIn K (.ref f18) = true)
    (a19 : PySem.W.nsIn K mainGlobals "_law_wide" = some (some (.ref f19))) (l19 : K.lookup f19 = some ⟨oc19, od19, .func (PySem.W.fnOf "_law_wide" "_law_wide" (defArgs y_law_wide_s) (defBody y_law_wide_s) (defScope y_law_wide_s) .none kV19 dc19 pm19 an19 cd19 ct19), sl19⟩) (c19 : PySem.W.codeIn K cd19 "_law_wide" = true) (k19 : PySem.W.keepIn K (.ref f19) = true)
    (a20 : PySem.W.nsIn K mainGlobals "_law_trap" = some (some (.ref f20))) (l20 : K.lookup f20 = some ⟨oc20, od20, .func (PySem.W.fnOf "_law_trap" "_law_trap" (defArgs y_law_trap_s) (defBody y_law_trap_s) (defScope y_law_trap_s) .none kV20 dc20 pm20 an20 cd20 ct20), sl20⟩) (c20 : PySem.W.codeIn K cd20 "_law_trap" = true) (k20 : PySem.W.keepIn K (.ref f20) = true)
    (a21 : PySem.W.nsIn K mainGlobals "_law_deep" = some (some (.ref f21))) (l21 : K.lookup f21 = some ⟨oc21, od21, .func (PySem.W.fnOf "_law_deep" "_law_deep" (defArgs y_law_deep_s) (defBody y_law_deep_s) (defScope y_law_deep_s) .none kV21 dc21 pm21 an21 cd21 ct21), sl21⟩) (c21 : PySem.W.codeIn K cd21 "_law_deep" = true) (k21 : PySem.W.keepIn K (.ref f21) = true)
    (a22 : PySem.W.nsIn K mainGlobals "_law_rules" = some (some (.ref f22))) (l22 : K.lookup f22 = some ⟨oc22, od22, .func (PySem.W.fnOf "_law_rules" "_law_rules" (defArgs y_law_rules_s) (defBody y_law_rules_s) (defScope y_law_rules_s) .none kV22 dc22 pm22 an22 cd22 ct22), sl22⟩) (c22 : PySem.W.codeIn K cd22 "_law_rules" = true) (k22 : PySem.W.keepIn K (.ref f22) = true)
    (a23 : PySem.W.nsIn K mainGlobals "_law_pair" = some (some (.ref f23))) (l23 : K.lookup f23 = some ⟨oc23, od23, .func (PySem.W.fnOf "_law_pair" "_law_pair" (defArgs y_law_pair_s) (defBody y_law_pair_s) (defScope y_law_pair_s) .none kV23 dc23 pm23 an23 cd23 ct23), sl23⟩) (c23 : PySem.W.codeIn K cd23 "_law_pair" = true) (k23 : PySem.W.keepIn K (.ref f23) = true)
    (a24 : PySem.W.nsIn K mainGlobals "_law_contents" = some (some (.ref f24))) (l24 : K.lookup f24 = some ⟨oc24, od24, .func (PySem.W.fnOf "_law_contents" "_law_contents" (defArgs y_law_contents_s) (defBody y_law_contents_s) (defScope y_law_contents_s) .none kV24 dc24 pm24 an24 cd24 ct24), sl24⟩) (c24 : PySem.W.codeIn K cd24 "_law_contents" = true) (k24 : PySem.W.keepIn K (.ref f24) = true)
    (a25 : PySem.W.nsIn K mainGlobals "_law_stepped" = some (some (.ref f25))) (l25 : K.lookup f25 = some ⟨oc25, od25, .func (PySem.W.fnOf "_law_stepped" "_law_stepped" (defArgs y_law_stepped_s) (defBody y_law_stepped_s) (defScope y_law_stepped_s) .none kV25 dc25 pm25 an25 cd25 ct25), sl25⟩) (c25 : PySem.W.codeIn K cd25 "_law_stepped" = true) (k25 : PySem.W.keepIn K (.ref f25) = true)
    (a26 : PySem.W.nsIn K mainGlobals "_law_made" = some (some (.ref f26))) (l26 : K.lookup f26 = some ⟨oc26, od26, .func (PySem.W.fnOf "_law_made" "_law_made" (defArgs y_law_made_s) (defBody y_law_made_s) (defScope y_law_made_s) .none kV26 dc26 pm26 an26 cd26 ct26), sl26⟩) (c26 : PySem.W.codeIn K cd26 "_law_made" = true) (k26 : PySem.W.keepIn K (.ref f26) = true)
    (a27 : PySem.W.nsIn K mainGlobals "_law_steps_to" = some (some (.ref f27))) (l27 : K.lookup f27 = some ⟨oc27, od27, .func (PySem.W.fnOf "_law_steps_to" "_law_steps_to" (defArgs y_law_steps_to_s) (defBody y_law_steps_to_s) (defScope y_law_steps_to_s) .none kV27 dc27 pm27 an27 cd27 ct27), sl27⟩) (c27 : PySem.W.codeIn K cd27 "_law_steps_to" = true) (k27 : PySem.W.keepIn K (.ref f27) = true)
    (a28 : PySem.W.nsIn K mainGlobals "_law_right" = some (some (.ref f28))) (l28 : K.lookup f28 = some ⟨oc28, od28, .func (PySem.W.fnOf "_law_right" "_law_right" (defArgs y_law_right_s) (defBody y_law_right_s) (defScope y_law_right_s) .none kV28 dc28 pm28 an28 cd28 ct28), sl28⟩) (c28 : PySem.W.codeIn K cd28 "_law_right" = true) (k28 : PySem.W.keepIn K (.ref f28) = true)
    (a29 : PySem.W.nsIn K mainGlobals "law" = some (some (.ref f29))) (l29 : K.lookup f29 = some ⟨oc29, od29, .func (PySem.W.fnOf "law" "law" (defArgs xlaw_s) (defBody xlaw_s) (defScope xlaw_s) .none kV29 dc29 pm29 an29 cd29 ct29), sl29⟩) (c29 : PySem.W.codeIn K cd29 "law" = true) (k29 : PySem.W.keepIn K (.ref f29) = true)
    (z0 : PySem.W.nsIn K mainGlobals "dict" = some none)
    (z1 : PySem.W.nsIn K mainGlobals "int" = some none)
    (z2 : PySem.W.nsIn K mainGlobals "isinstance" = some none)
    (z3 : PySem.W.nsIn K mainGlobals "len" = some none)
    (z4 : PySem.W.nsIn K mainGlobals "list" = some none)
    (z5 : PySem.W.nsIn K mainGlobals "max" = some none)
    (z6 : PySem.W.nsIn K mainGlobals "min" = some none)
    (z7 : PySem.W.nsIn K mainGlobals "range" = some none)
    (z8 : PySem.W.nsIn K mainGlobals "repr" = some none)
    (z9 : PySem.W.nsIn K mainGlobals "sorted" = some none)
    (z10 : PySem.W.nsIn K mainGlobals "tuple" = some none)
    : ∃ fd : FuncData, (∀ (s : Shared) (v : Value), BindsTo s fd ⟨[v], []⟩ [("_law_script", v)]) ∧ ∀ base : Heap, K.In base → base.Ns mainGlobals mg → FnG l.prog w K mg base 10 fa fd ["_law_script"] (spLaw K) := by
  have e := hfa.symm.trans (PySem.W.mg_of X G a29)
  cases e
  have F0 := fun_mk (st := xcome_to_s) l0 c0 k0
  have b0 := F0.binds (ps := ["house"]) fun _ _ _ _ _ _ us hl => match us, hl with | [_], _ => rfl
  have F1 := fun_mk (st := xrow_to_s) l1 c1 k1
  have b1 := F1.binds (ps := ["house", "content"]) fun _ _ _ _ _ _ us hl => match us, hl with | [_, _], _ => rfl
  have F2 := fun_mk (st := xmade_by_s) l2 c2 k2
  have b2 := F2.binds (ps := ["house", "kind", "content"]) fun _ _ _ _ _ _ us hl => match us, hl with | [_, _, _], _ => rfl
  have F3 := fun_mk (st := y_behind_step_s) l3 c3 k3
  have b3 := F3.binds (ps := ["sizes", "step", "content"]) fun _ _ _ _ _ _ us hl => match us, hl with | [_, _, _], _ => rfl
  have F4 := fun_mk (st := y_behind_plain_step_s) l4 c4 k4
  have b4 := F4.binds (ps := ["sizes", "step", "content"]) fun _ _ _ _ _ _ us hl => match us, hl with | [_, _, _], _ => rfl
  have F5 := fun_mk (st := y_new_value_s) l5 c5 k5
  have b5 := F5.binds (ps := ["sizes", "step", "content"]) fun _ _ _ _ _ _ us hl => match us, hl with | [_, _, _], _ => rfl
  have F6 := fun_mk (st := y_shortest_rows_s) l6 c6 k6
  have b6 := F6.binds (ps := ["house"]) fun _ _ _ _ _ _ us hl => match us, hl with | [_], _ => rfl
  have F7 := fun_mk (st := y_add_longer_rows_s) l7 c7 k7
  have b7 := F7.binds (ps := ["house", "rows", "newest"]) fun _ _ _ _ _ _ us hl => match us, hl with | [_, _, _], _ => rfl
  have F8 := fun_mk (st := y_law_pen_s) l8 c8 k8
  have b8 := F8.binds (ps := ["_law_script"]) fun _ _ _ _ _ _ us hl => match us, hl with | [_], _ => rfl
  have F9 := fun_mk (st := y_law_fresh_s) l9 c9 k9
  have b9 := F9.binds (ps := ["_law_pen_here"]) fun _ _ _ _ _ _ us hl => match us, hl with | [_], _ => rfl
  have F10 := fun_mk (st := y_law_draw_s) l10 c10 k10
  have b10 := F10.binds (ps := ["_law_pen_here", "_law_many"]) fun _ _ _ _ _ _ us hl => match us, hl with | [_, _], _ => rfl
  have F11 := fun_mk (st := y_law_one_of_s) l11 c11 k11
  have b11 := F11.binds (ps := ["_law_pen_here", "_law_rows"]) fun _ _ _ _ _ _ us hl => match us, hl with | [_, _], _ => rfl
  have F12 := fun_mk (st := y_law_sizes_s) l12 c12 k12
  have b12 := F12.binds (ps := ["_law_pen_here"]) fun _ _ _ _ _ _ us hl => match us, hl with | [_], _ => rfl
  have F13 := fun_mk (st := y_law_plain_s) l13 c13 k13
  have b13 := F13.binds (ps := ["_law_pen_here", "_law_sizes_here"]) fun _ _ _ _ _ _ us hl => match us, hl with | [_, _], _ => rfl
  have F14 := fun_mk (st := y_law_step_s) l14 c14 k14
  have b14 := F14.binds (ps := ["_law_pen_here", "_law_sizes_here"]) fun _ _ _ _ _ _ us hl => match us, hl with | [_, _], _ => rfl
  have F15 := fun_mk (st := y_law_kind_s) l15 c15 k15
  have b15 := F15.binds (ps := ["_law_pen_here", "_law_sizes_here", "_law_most"]) fun _ _ _ _ _ _ us hl => match us, hl with | [_, _, _], _ => rfl
  have F16 := fun_mk (st := y_law_house_of_s) l16 c16 k16
  have b16 := F16.binds (ps := ["_law_pen_here", "_law_sizes_here", "_law_many"]) fun _ _ _ _ _ _ us hl => match us, hl with | [_, _, _], _ => rfl
  have F17 := fun_mk (st := y_law_some_house_s) l17 c17 k17
  have b17 := F17.binds (ps := ["_law_pen_here"]) fun _ _ _ _ _ _ us hl => match us, hl with | [_], _ => rfl
  have F18 := fun_mk (st := y_law_small_house_s) l18 c18 k18
  have b18 := F18.binds (ps := ["_law_pen_here"]) fun _ _ _ _ _ _ us hl => match us, hl with | [_], _ => rfl
  have F19 := fun_mk (st := y_law_wide_s) l19 c19 k19
  have b19 := F19.binds (ps := ["_law_pen_here"]) fun _ _ _ _ _ _ us hl => match us, hl with | [_], _ => rfl
  have F20 := fun_mk (st := y_law_trap_s) l20 c20 k20
  have b20 := F20.binds (ps := ["_law_pen_here"]) fun _ _ _ _ _ _ us hl => match us, hl with | [_], _ => rfl
  have F21 := fun_mk (st := y_law_deep_s) l21 c21 k21
  have b21 := F21.binds (ps := ["_law_pen_here"]) fun _ _ _ _ _ _ us hl => match us, hl with | [_], _ => rfl
  have F22 := fun_mk (st := y_law_rules_s) l22 c22 k22
  have b22 := F22.binds (ps := ["_law_pen_here", "_law_house", "_law_most"]) fun _ _ _ _ _ _ us hl => match us, hl with | [_, _, _], _ => rfl
  have F23 := fun_mk (st := y_law_pair_s) l23 c23 k23
  have b23 := F23.binds (ps := ["_law_pen_here"]) fun _ _ _ _ _ _ us hl => match us, hl with | [_], _ => rfl
  have F24 := fun_mk (st := y_law_contents_s) l24 c24 k24
  have b24 := F24.binds (ps := ["_law_house"]) fun _ _ _ _ _ _ us hl => match us, hl with | [_], _ => rfl
  have F25 := fun_mk (st := y_law_stepped_s) l25 c25 k25
  have b25 := F25.binds (ps := ["_law_sizes_here", "_law_cells", "_law_step_here"]) fun _ _ _ _ _ _ us hl => match us, hl with | [_, _, _], _ => rfl
  have F26 := fun_mk (st := y_law_made_s) l26 c26 k26
  have b26 := F26.binds (ps := ["_law_house", "_law_content", "_law_kind_here"]) fun _ _ _ _ _ _ us hl => match us, hl with | [_, _, _], _ => rfl
  have F27 := fun_mk (st := y_law_steps_to_s) l27 c27 k27
  have b27 := F27.binds (ps := ["_law_house"]) fun _ _ _ _ _ _ us hl => match us, hl with | [_], _ => rfl
  have F28 := fun_mk (st := y_law_right_s) l28 c28 k28
  have b28 := F28.binds (ps := ["_law_house"]) fun _ _ _ _ _ _ us hl => match us, hl with | [_], _ => rfl
  have F29 := fun_mk (st := xlaw_s) l29 c29 k29
  have b29 := F29.binds (ps := ["_law_script"]) fun _ _ _ _ _ _ us hl => match us, hl with | [_], _ => rfl
  letI : KFrag := ⟨K, w⟩
  have Tx : Txt K mg (fun i => [f0, f1, f2, f3, f4, f5, f6, f7, f8, f9, f10, f11, f12, f13, f14, f15, f16, f17, f18, f19, f20, f21, f22, f23, f24, f25, f26, f27, f28, fa].getD i 0) (fun i => [PySem.W.fnOf "come_to" "come_to" (defArgs xcome_to_s) (defBody xcome_to_s) (defScope xcome_to_s) .none kV0 dc0 pm0 an0 cd0 ct0, PySem.W.fnOf "row_to" "row_to" (defArgs xrow_to_s) (defBody xrow_to_s) (defScope xrow_to_s) .none kV1 dc1 pm1 an1 cd1 ct1, PySem.W.fnOf "made_by" "made_by" (defArgs xmade_by_s) (defBody xmade_by_s) (defScope xmade_by_s) .none kV2 dc2 pm2 an2 cd2 ct2, PySem.W.fnOf "_behind_step" "_behind_step" (defArgs y_behind_step_s) (defBody y_behind_step_s) (defScope y_behind_step_s) .none kV3 dc3 pm3 an3 cd3 ct3, PySem.W.fnOf "_behind_plain_step" "_behind_plain_step" (defArgs y_behind_plain_step_s) (defBody y_behind_plain_step_s) (defScope y_behind_plain_step_s) .none kV4 dc4 pm4 an4 cd4 ct4, PySem.W.fnOf "_new_value" "_new_value" (defArgs y_new_value_s) (defBody y_new_value_s) (defScope y_new_value_s) .none kV5 dc5 pm5 an5 cd5 ct5, PySem.W.fnOf "_shortest_rows" "_shortest_rows" (defArgs y_shortest_rows_s) (defBody y_shortest_rows_s) (defScope y_shortest_rows_s) .none kV6 dc6 pm6 an6 cd6 ct6, PySem.W.fnOf "_add_longer_rows" "_add_longer_rows" (defArgs y_add_longer_rows_s) (defBody y_add_longer_rows_s) (defScope y_add_longer_rows_s) .none kV7 dc7 pm7 an7 cd7 ct7, PySem.W.fnOf "_law_pen" "_law_pen" (defArgs y_law_pen_s) (defBody y_law_pen_s) (defScope y_law_pen_s) .none kV8 dc8 pm8 an8 cd8 ct8, PySem.W.fnOf "_law_fresh" "_law_fresh" (defArgs y_law_fresh_s) (defBody y_law_fresh_s) (defScope y_law_fresh_s) .none kV9 dc9 pm9 an9 cd9 ct9, PySem.W.fnOf "_law_draw" "_law_draw" (defArgs y_law_draw_s) (defBody y_law_draw_s) (defScope y_law_draw_s) .none kV10 dc10 pm10 an10 cd10 ct10, PySem.W.fnOf "_law_one_of" "_law_one_of" (defArgs y_law_one_of_s) (defBody y_law_one_of_s) (defScope y_law_one_of_s) .none kV11 dc11 pm11 an11 cd11 ct11, PySem.W.fnOf "_law_sizes" "_law_sizes" (defArgs y_law_sizes_s) (defBody y_law_sizes_s) (defScope y_law_sizes_s) .none kV12 dc12 pm12 an12 cd12 ct12, PySem.W.fnOf "_law_plain" "_law_plain" (defArgs y_law_plain_s) (defBody y_law_plain_s) (defScope y_law_plain_s) .none kV13 dc13 pm13 an13 cd13 ct13, PySem.W.fnOf "_law_step" "_law_step" (defArgs y_law_step_s) (defBody y_law_step_s) (defScope y_law_step_s) .none kV14 dc14 pm14 an14 cd14 ct14, PySem.W.fnOf "_law_kind" "_law_kind" (defArgs y_law_kind_s) (defBody y_law_kind_s) (defScope y_law_kind_s) .none kV15 dc15 pm15 an15 cd15 ct15, PySem.W.fnOf "_law_house_of" "_law_house_of" (defArgs y_law_house_of_s) (defBody y_law_house_of_s) (defScope y_law_house_of_s) .none kV16 dc16 pm16 an16 cd16 ct16, PySem.W.fnOf "_law_some_house" "_law_some_house" (defArgs y_law_some_house_s) (defBody y_law_some_house_s) (defScope y_law_some_house_s) .none kV17 dc17 pm17 an17 cd17 ct17, PySem.W.fnOf "_law_small_house" "_law_small_house" (defArgs y_law_small_house_s) (defBody y_law_small_house_s) (defScope y_law_small_house_s) .none kV18 dc18 pm18 an18 cd18 ct18, PySem.W.fnOf "_law_wide" "_law_wide" (defArgs y_law_wide_s) (defBody y_law_wide_s) (defScope y_law_wide_s) .none kV19 dc19 pm19 an19 cd19 ct19, PySem.W.fnOf "_law_trap" "_law_trap" (defArgs y_law_trap_s) (defBody y_law_trap_s) (defScope y_law_trap_s) .none kV20 dc20 pm20 an20 cd20 ct20, PySem.W.fnOf "_law_deep" "_law_deep" (defArgs y_law_deep_s) (defBody y_law_deep_s) (defScope y_law_deep_s) .none kV21 dc21 pm21 an21 cd21 ct21, PySem.W.fnOf "_law_rules" "_law_rules" (defArgs y_law_rules_s) (defBody y_law_rules_s) (defScope y_law_rules_s) .none kV22 dc22 pm22 an22 cd22 ct22, PySem.W.fnOf "_law_pair" "_law_pair" (defArgs y_law_pair_s) (defBody y_law_pair_s) (defScope y_law_pair_s) .none kV23 dc23 pm23 an23 cd23 ct23, PySem.W.fnOf "_law_contents" "_law_contents" (defArgs y_law_contents_s) (defBody y_law_contents_s) (defScope y_law_contents_s) .none kV24 dc24 pm24 an24 cd24 ct24, PySem.W.fnOf "_law_stepped" "_law_stepped" (defArgs y_law_stepped_s) (defBody y_law_stepped_s) (defScope y_law_stepped_s) .none kV25 dc25 pm25 an25 cd25 ct25, PySem.W.fnOf "_law_made" "_law_made" (defArgs y_law_made_s) (defBody y_law_made_s) (defScope y_law_made_s) .none kV26 dc26 pm26 an26 cd26 ct26, PySem.W.fnOf "_law_steps_to" "_law_steps_to" (defArgs y_law_steps_to_s) (defBody y_law_steps_to_s) (defScope y_law_steps_to_s) .none kV27 dc27 pm27 an27 cd27 ct27, PySem.W.fnOf "_law_right" "_law_right" (defArgs y_law_right_s) (defBody y_law_right_s) (defScope y_law_right_s) .none kV28 dc28 pm28 an28 cd28 ct28, PySem.W.fnOf "law" "law" (defArgs xlaw_s) (defBody xlaw_s) (defScope xlaw_s) .none kV29 dc29 pm29 an29 cd29 ct29].getD i (PySem.W.fnOf "come_to" "come_to" (defArgs xcome_to_s) (defBody xcome_to_s) (defScope xcome_to_s) .none kV0 dc0 pm0 an0 cd0 ct0)) := {
    F0 := F0,
    M0 := PySem.W.mg_of X G a0,
    B0 := b0,
    F1 := F1,
    M1 := PySem.W.mg_of X G a1,
    B1 := b1,
    F2 := F2,
    M2 := PySem.W.mg_of X G a2,
    B2 := b2,
    F3 := F3,
    M3 := PySem.W.mg_of X G a3,
    B3 := b3,
    F4 := F4,
    M4 := PySem.W.mg_of X G a4,
    B4 := b4,
    F5 := F5,
    M5 := PySem.W.mg_of X G a5,
    B5 := b5,
    F6 := F6,
    M6 := PySem.W.mg_of X G a6,
    B6 := b6,
    F7 := F7,
    M7 := PySem.W.mg_of X G a7,
    B7 := b7,
    F8 := F8,
    M8 := PySem.W.mg_of X G a8,
    B8 := b8,
    F9 := F9,
    M9 := PySem.W.mg_of X G a9,
    B9 := b9,
    F10 := F10,
    M10 := PySem.W.mg_of X G a10,
    B10 := b10,
    F11 := F11,
    M11 := PySem.W.mg_of X G a11,
    B11 := b11,
    F12 := F12,
    M12 := PySem.W.mg_of X G a12,
    B12 := b12,
    F13 := F13,
    M13 := PySem.W.mg_of X G a13,
    B13 := b13,
    F14 := F14,
    M14 := PySem.W.mg_of X G a14,
    B14 := b14,
    F15 := F15,
    M15 := PySem.W.mg_of X G a15,
    B15 := b15,
    F16 := F16,
    M16 := PySem.W.mg_of X G a16,
    B16 := b16,
    F17 := F17,
    M17 := PySem.W.mg_of X G a17,
    B17 := b17,
    F18 := F18,
    M18 := PySem.W.mg_of X G a18,
    B18 := b18,
    F19 := F19,
    M19 := PySem.W.mg_of X G a19,
    B19 := b19,
    F20 := F20,
    M20 := PySem.W.mg_of X G a20,
    B20 := b20,
    F21 := F21,
    M21 := PySem.W.mg_of X G a21,
    B21 := b21,
    F22 := F22,
    M22 := PySem.W.mg_of X G a22,
    B22 := b22,
    F23 := F23,
    M23 := PySem.W.mg_of X G a23,
    B23 := b23,
    F24 := F24,
    M24 := PySem.W.mg_of X G a24,
    B24 := b24,
    F25 := F25,
    M25 := PySem.W.mg_of X G a25,
    B25 := b25,
    F26 := F26,
    M26 := PySem.W.mg_of X G a26,
    B26 := b26,
    F27 := F27,
    M27 := PySem.W.mg_of X G a27,
    B27 := b27,
    F28 := F28,
    M28 := PySem.W.mg_of X G a28,
    B28 := b28,
    F29 := F29,
    M29 := PySem.W.mg_of X G a29,
    B29 := b29,
    z_dict := PySem.W.mg_none_of X G z0,
    z_int := PySem.W.mg_none_of X G z1,
    z_isinstance := PySem.W.mg_none_of X G z2,
    z_len := PySem.W.mg_none_of X G z3,
    z_list := PySem.W.mg_none_of X G z4,
    z_max := PySem.W.mg_none_of X G z5,
    z_min := PySem.W.mg_none_of X G z6,
    z_range := PySem.W.mg_none_of X G z7,
    z_repr := PySem.W.mg_none_of X G z8,
    z_sorted := PySem.W.mg_none_of X G z9,
    z_tuple := PySem.W.mg_none_of X G z10 }
  exact ⟨PySem.W.fnOf "law" "law" (defArgs xlaw_s) (defBody xlaw_s) (defScope xlaw_s) .none kV29 dc29 pm29 an29 cd29 ct29, fun s v => .of_eq rfl, fun base _ _ => (xlaw_ok (T := (fun _ => (0, ""))) rfl rfl Tx).imp (law_spG rfl HL)⟩
end K05
open PySem PySem.W PyProof.Rows
set_option maxHeartbeats 0 in
theorem PySem.Challenge.cw_movedfolders_k05_what_comes_about_withou_holds : PySem.Challenge.rw_movedfolders_k05_what_comes_about_withou.Holds := by
  w_on; o_law; k_head; (case hw => w_witness2)
  k_fill
  refine DL.walkG (l := PySem.Challenge.rw_movedfolders_k05_what_comes_about_withou) (n := 63) (k := 10) (x := "_law_script") (sp := DL.spLaw) rfl (by decide) rfl ⟨rfl, by decide, by decide⟩ (fun w h Y => PySem.W.kIn_of Y) ?F (fun K H a ns hl hO hS => ⟨a, ns, rfl, hO, hS, hl, fun _ => rfl⟩)
  case F =>
    intro w mg fa h KX G hmg
    refine' K05.all_mk KX G hmg K05.HLAW ?a0 ?l0 ?c0 ?k0 ?a1 ?l1 ?c1 ?k1 ?a2 ?l2 ?c2 ?k2 ?a3 ?l3 ?c3 ?k3 ?a4 ?l4 ?c4 ?k4 ?a5 ?l5 ?c5 ?k5 ?a6 ?l6 ?c6 ?k6 ?a7 ?l7 ?c7 ?k7 ?a8 ?l8 ?c8 ?k8 ?a9 ?l9 ?c9 ?k9 ?a10 ?l10 ?c10 ?k10 ?a11 ?l11 ?c11 ?k11 ?a12 ?l12 ?c12 ?k12 ?a13 ?l13 ?c13 ?k13 ?a14 ?l14 ?c14 ?k14 ?a15 ?l15 ?c15 ?k15 ?a16 ?l16 ?c16 ?k16 ?a17 ?l17 ?c17 ?k17 ?a18 ?l18 ?c18 ?k18 ?a19 ?l19 ?c19 ?k19 ?a20 ?l20 ?c20 ?k20 ?a21 ?l21 ?c21 ?k21 ?a22 ?l22 ?c22 ?k22 ?a23 ?l23 ?c23 ?k23 ?a24 ?l24 ?c24 ?k24 ?a25 ?l25 ?c25 ?k25 ?a26 ?l26 ?c26 ?k26 ?a27 ?l27 ?c27 ?k27 ?a28 ?l28 ?c28 ?k28 ?a29 ?l29 ?c29 ?k29 ?z0 ?z1 ?z2 ?z3 ?z4 ?z5 ?z6 ?z7 ?z8 ?z9 ?z10
    (case a0 => k_is); (case l0 => k_is); (case c0 => k_is); (case k0 => k_is); (case a1 => k_is); (case l1 => k_is); (case c1 => k_is); (case k1 => k_is); (case a2 => k_is); (case l2 => k_is); (case c2 => k_is); (case k2 => k_is); (case a3 => k_is); (case l3 => k_is); (case c3 => k_is); (case k3 => k_is); (case a4 => k_is); (case l4 => k_is); (case c4 => k_is); (case k4 => k_is); (case a5 => k_is); (case l5 => k_is); (case c5 => k_is); (case k5 => k_is); (case a6 => k_is); (case l6 => k_is); (case c6 => k_is); (case k6 => k_is); (case a7 => k_is); (case l7 => k_is); (case c7 => k_is); (case k7 => k_is); (case a8 => k_is); (case l8 => k_is); (case c8 => k_is); (case k8 => k_is); (case a9 => k_is); (case l9 => k_is); (case c9 => k_is); (case k9 => k_is); (case a10 => k_is); (case l10 => k_is); (case c10 => k_is); (case k10 => k_is); (case a11 => k_is); (case l11 => k_is); (case c11 => k_is); (case k11 => k_is); (case a12 => k_is); (case l12 => k_is); (case c12 => k_is); (case k12 => k_is); (case a13 => k_is); (case l13 => k_is); (case c13 => k_is); (case k13 => k_is); (case a14 => k_is); (case l14 => k_is); (case c14 => k_is); (case k14 => k_is); (case a15 => k_is); (case l15 => k_is); (case c15 => k_is); (case k15 => k_is); (case a16 => k_is); (case l16 => k_is); (case c16 => k_is); (case k16 => k_is); (case a17 => k_is); (case l17 => k_is); (case c17 => k_is); (case k17 => k_is); (case a18 => k_is); (case l18 => k_is); (case c18 => k_is); (case k18 => k_is); (case a19 => k_is); (case l19 => k_is); (case c19 => k_is); (case k19 => k_is); (case a20 => k_is); (case l20 => k_is); (case c20 => k_is); (case k20 => k_is); (case a21 => k_is); (case l21 => k_is); (case c21 => k_is); (case k21 => k_is); (case a22 => k_is); (case l22 => k_is); (case c22 => k_is); (case k22 => k_is); (case a23 => k_is); (case l23 => k_is); (case c23 => k_is); (case k23 => k_is); (case a24 => k_is); (case l24 => k_is); (case c24 => k_is); (case k24 => k_is); (case a25 => k_is); (case l25 => k_is); (case c25 => k_is); (case k25 => k_is); (case a26 => k_is); (case l26 => k_is); (case c26 => k_is); (case k26 => k_is); (case a27 => k_is); (case l27 => k_is); (case c27 => k_is); (case k27 => k_is); (case a28 => k_is); (case l28 => k_is); (case c28 => k_is); (case k28 => k_is); (case a29 => k_is); (case l29 => k_is); (case c29 => k_is); (case k29 => k_is); (case z0 => k_is); (case z1 => k_is); (case z2 => k_is); (case z3 => k_is); (case z4 => k_is); (case z5 => k_is); (case z6 => k_is); (case z7 => k_is); (case z8 => k_is); (case z9 => k_is); (case z10 => k_is)
