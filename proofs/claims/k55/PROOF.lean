import PyProof.Rows.All
import Wide.All
import OpenK.AllK
import Wide.FinOn
import HandS.ForMost
import HandS.ForExc
import HandS.Walk
import HandS.Deep
import HandS.Zip
import HandS.IsInst
import HandS.Wide
import HandS.TupMul
import HandS.TupAny
import HandS.TupLe
import HandS.Conv
import HandS.ExcField
import KE.KeyNested
import HandS.Style
import KE.GoesEnum
import KE.GoesEnumKw
import PyProof.WalksMore
import KE.KDictKeyed
import HandS.Dict
import HandS.Iter
import KE.KDictDisplayH
import KE.LtSeq
import KE.LtData
import PyProof.ConsumeWalk
import KE.SortData
import KE.KDictSum
import KE.KDictCopyH
import HandS.Rev
import HandS.RevRange
import HandS.DictComp
import HandS.Flow
import KE.KSortTup
import HandS.Flt
import KE.KDictPairs
import PyProof.EqAt
import PyProof.EqKinds
import PyProof.TupleCall
import Open.SpecLaws
import KE.OsGo
import HandS.ForSpec
import KE.KExcInit
import PyProof.ExcBaseAll.OverflowError
import PySem.Challenge.RW_movedfolders_k55_unfolded_at_the_bound
set_option Elab.async false
set_option linter.all false
set_option maxRecDepth 100000
set_option maxHeartbeats 4000000
namespace DL
open PySem PySem.Spec PyProof.Rows L2

abbrev D := PyData
/-! equality and shape of data, told so that the kernel runs them quickly -/
def natsEq : List Nat → List Nat → Bool
  | [], [] => true
  | a :: r, b :: t => match Nat.beq a b with
    | true => natsEq r t
    | false => false
  | _, _ => false
theorem natsEq_eq : ∀ a b : List Nat, natsEq a b = decide (a = b)
  | [], [] => rfl
  | [], _ :: _ => rfl
  | _ :: _, [] => rfl
  | a :: r, b :: t => by
    unfold natsEq
    cases e : Nat.beq a b with
    | true =>
      have q : a = b := Nat.eq_of_beq_eq_true e
      subst q
      show natsEq r t = _
      rw [natsEq_eq r t]
      simp
    | false =>
      have q : a ≠ b := Nat.ne_of_beq_eq_false e
      simp [q]
def strEq : Str → Str → Bool
  | ⟨⟨a⟩⟩, ⟨⟨b⟩⟩ => natsEq a b
theorem strEq_eq (a b : Str) : strEq a b = (a == b) := by
  obtain ⟨⟨a⟩⟩ := a
  obtain ⟨⟨b⟩⟩ := b
  show natsEq a b = _
  rw [natsEq_eq]
  by_cases h : a = b
  · subst h
    simp
  · have q : (⟨⟨a⟩⟩ : Str) ≠ ⟨⟨b⟩⟩ := fun z => h (by injection z with z; injection z)
    have w : ((⟨⟨a⟩⟩ : Str) == ⟨⟨b⟩⟩) = false := by
      cases e : ((⟨⟨a⟩⟩ : Str) == ⟨⟨b⟩⟩) with
      | false => rfl
      | true => exact absurd (eq_of_beq e) q
    rw [w]
    simp [h]
def intEq : Int → Int → Bool
  | .ofNat a, .ofNat b => Nat.beq a b
  | .negSucc a, .negSucc b => Nat.beq a b
  | _, _ => false
theorem intEq_eq (a b : Int) : intEq a b = (a == b) := by
  cases a with
  | ofNat a =>
    cases b with
    | ofNat b =>
      show Nat.beq a b = _
      cases e : Nat.beq a b with
      | true => rw [Nat.eq_of_beq_eq_true e]; simp
      | false => have := Nat.ne_of_beq_eq_false e; simp; omega
    | negSucc b => rfl
  | negSucc a =>
    cases b with
    | ofNat b => rfl
    | negSucc b =>
      show Nat.beq a b = _
      cases e : Nat.beq a b with
      | true => rw [Nat.eq_of_beq_eq_true e]; simp
      | false => have := Nat.ne_of_beq_eq_false e; simp; omega
def eqL (f : D → D → Bool) : List D → List D → Bool
  | [], [] => true
  | x :: r, y :: t => match f x y with
    | true => eqL f r t
    | false => false
  | _, _ => false
theorem eqL_eq {f : D → D → Bool} (h : ∀ x y, f x y = PyData.eqv x y) : ∀ a b : List D, eqL f a b = PyData.eqvAll a b
  | [], [] => rfl
  | [], _ :: _ => rfl
  | _ :: _, [] => rfl
  | a :: r, b :: t => by
    unfold eqL
    rw [h a b]
    simp only [PyData.eqvAll]
    cases PyData.eqv a b with
    | true => exact (eqL_eq h r t).trans (Bool.true_and _).symm
    | false => rfl
def eqF : Nat → D → D → Bool
  | 0, x, y => PyData.eqv x y
  | n + 1, x, y => match x with
    | .tuple xs => (match y with
      | .tuple ys => eqL (eqF n) xs ys
      | y => PyData.eqv (.tuple xs) y)
    | .int a => (match y with
      | .int b => intEq a b
      | y => PyData.eqv (.int a) y)
    | .str a => (match y with
      | .str b => strEq a b
      | y => PyData.eqv (.str a) y)
    | x => PyData.eqv x y
theorem eqF_eq : ∀ (n : Nat) (x y : D), eqF n x y = PyData.eqv x y
  | 0, _, _ => rfl
  | n + 1, .tuple xs, y => by
    cases y with
    | tuple ys =>
      show eqL (eqF n) xs ys = _
      rw [eqL_eq (eqF_eq n)]
      simp only [PyData.eqv]
    | _ => rfl
  | n + 1, .int a, y => by
    cases y with
    | int b =>
      show intEq a b = _
      rw [intEq_eq]
      simp only [PyData.eqv]
    | _ => rfl
  | n + 1, .str a, y => by
    cases y with
    | str b =>
      show strEq a b = _
      rw [strEq_eq]
      simp only [PyData.eqv]
    | _ => rfl
  | n + 1, .none, _ => rfl
  | n + 1, .bool _, _ => rfl
  | n + 1, .list _, _ => rfl
  | n + 1, .dict _, _ => rfl
/-- a value of the layer: data, the number of a mutable cell, the script -/
inductive W where
  | d (x : D) | c (n : Nat) | sc (ns : List Int) | fd (kvs : List (D × D)) | rg (lo hi : Int)
/-- a mutable object: given up, a list -/
inductive Cell where
  | dead | lst (xs : List D) | dct (kvs : List (D × D)) | dcr (kvs : List (D × Nat))
abbrev CS := List Cell
/-- an exception: its class's number, its one field -/
structure Exn where
  cls : Nat
  arg : D
inductive R (a : Type) where
  | ok (x : a) (s : CS) | exc (e : Exn) (s : CS) | bad
abbrev En := List (Option W)
abbrev fE := En → CS → R W
def R.bind {a b : Type} (r : R a) (k : a → CS → R b) : R b := match r with
  | .ok x s => k x s
  | .exc e s => .exc e s
  | .bad => .bad

/-- the written part, by which the script may be read; the world, by which texts are hashed -/
class KFrag where
  K : PySem.W.Frag
  w : World
/-- a frame over the written part -/
class HK [KFrag] (X : Cx) : Prop where
  eq : X.K = KFrag.K
section
variable [KFrag]
/-! ### lists and tuples that no one changes -/
/-- a tuple of the written part -/
def KTp (a : Addr) (xs : List V) : Prop := ∃ (o : Obj) (its : Array Value) (n : Nat), KFrag.K.lookup a = some o ∧ o.cls = .type "tuple" ∧ o.data = .seq its n ∧ its.size ≤ sizeLine ∧ Vals xs its.toList
def FL (H : Hp) (A : Addr → Prop) (a : Addr) (xs : List V) : Prop := H a = some (.lst xs) ∧ ¬ A a
def FT (H : Hp) (A : Addr → Prop) (a : Addr) (xs : List V) : Prop := (H a = some (.tup xs) ∧ ¬ A a) ∨ KTp a xs
section
variable {K : PySem.W.Frag} {H H' : Hp} {A A' : Addr → Prop} {a : Addr} {xs : List V}
theorem FL.sq (h : FL H A a xs) : SqL K H a xs := .of h.1
theorem FT.sq {X : Cx} [e : HK X] (h : FT H A a xs) : SqT X.K H a xs := h.elim (fun h => .of h.1) fun h => .inr (by rw [e.eq]; exact h)
theorem FT.kp {H H' : Hp} {A A' : Addr → Prop} (k : ∀ b o, H b = some o → ¬ A b → H' b = some o) (k2 : ∀ b o, H b = some o → ¬ A b → ¬ A' b) (h : FT H A a xs) : FT H' A' a xs := h.imp (fun h => ⟨k _ _ h.1 h.2, k2 _ _ h.1 h.2⟩) id
end
mutual
inductive Fz (H : Hp) (A : Addr → Prop) : V → D → Prop
  | non : Fz H A .non .none
  | bl (b : Bool) : Fz H A (.bl b) (.bool b)
  | int (i : Int) : Fz H A (.int i) (.int i)
  | str (x : Str) : Fz H A (.str x) (.str x)
  | lst {a : Addr} {xs : List V} {ds : List D} : FL H A a xs → Fzs H A xs ds → Fz H A (.ref a) (.list ds)
  | tup {a : Addr} {xs : List V} {ds : List D} : FT H A a xs → Fzs H A xs ds → Fz H A (.ref a) (.tuple ds)
inductive Fzs (H : Hp) (A : Addr → Prop) : List V → List D → Prop
  | nil : Fzs H A [] []
  | cons {v : V} {vs : List V} {d : D} {ds : List D} : Fz H A v d → Fzs H A vs ds → Fzs H A (v :: vs) (d :: ds)
end
section
variable {K : PySem.W.Frag} {H H' : Hp} {A A' : Addr → Prop}
mutual
theorem Fz.dp {X : Cx} [HK X] : ∀ {v : V} {d : D}, Fz H A v d → Dp X.K H v d
  | _, _, .non => .non
  | _, _, .bl b => .bl b
  | _, _, .int i => .int i
  | _, _, .str x => .str x
  | _, _, .lst h t => .lst h.sq (Fzs.dp t)
  | _, _, .tup h t => .tup h.sq (Fzs.dp t)
theorem Fzs.dp {X : Cx} [HK X] : ∀ {v : List V} {d : List D}, Fzs H A v d → DpAll X.K H v d
  | _, _, .nil => .nil
  | _, _, .cons h t => .cons (Fz.dp h) (Fzs.dp t)
end
/-- what keeps the objects that are no cells, and makes cells of none of them -/
structure Kp (H H' : Hp) (A A' : Addr → Prop) : Prop where
  keep : ∀ a o, H a = some o → ¬ A a → H' a = some o
  new : ∀ a o, H a = some o → ¬ A a → ¬ A' a
mutual
theorem Fz.kp (k : Kp H H' A A') : ∀ {v : V} {d : D}, Fz H A v d → Fz H' A' v d
  | _, _, .non => .non
  | _, _, .bl b => .bl b
  | _, _, .int i => .int i
  | _, _, .str x => .str x
  | _, _, .lst h t => .lst ⟨k.keep _ _ h.1 h.2, k.new _ _ h.1 h.2⟩ (Fzs.kp k t)
  | _, _, .tup h t => .tup (h.kp k.keep k.new) (Fzs.kp k t)
theorem Fzs.kp (k : Kp H H' A A') : ∀ {v : List V} {d : List D}, Fzs H A v d → Fzs H' A' v d
  | _, _, .nil => .nil
  | _, _, .cons h t => .cons (Fz.kp k h) (Fzs.kp k t)
end
theorem Fz.mono (k : ∀ a, A' a → A a) {v : V} {d : D} (h : Fz H A v d) : Fz H A' v d := h.kp ⟨fun _ _ e _ => e, fun a _ _ n z => n (k a z)⟩
theorem Fzs.mono (k : ∀ a, A' a → A a) {v : List V} {d : List D} (h : Fzs H A v d) : Fzs H A' v d := h.kp ⟨fun _ _ e _ => e, fun a _ _ n z => n (k a z)⟩
theorem Fz.same (k : Same H H') {v : V} {d : D} (h : Fz H A v d) : Fz H' A v d := h.kp ⟨fun a o e _ => k a o e, fun _ _ _ n => n⟩
theorem Fzs.same (k : Same H H') {v : List V} {d : List D} (h : Fzs H A v d) : Fzs H' A v d := h.kp ⟨fun a o e _ => k a o e, fun _ _ _ n => n⟩
theorem Fzs.len : ∀ {v : List V} {d : List D}, Fzs H A v d → v.length = d.length
  | _, _, .nil => rfl
  | _, _, .cons _ t => by rw [List.length_cons, List.length_cons, Fzs.len t]
theorem Fzs.get : ∀ {v : List V} {d : List D} {i : Nat} {x : D}, Fzs H A v d → d[i]? = some x → ∃ y, v[i]? = some y ∧ Fz H A y x
  | _, _, _, _, .nil, e => by simp at e
  | _, _, 0, _, .cons h _, e => by simp at e; subst e; exact ⟨_, rfl, h⟩
  | _, _, i + 1, x, .cons _ t, e => by
    obtain ⟨y, h1, h2⟩ := Fzs.get (i := i) (x := x) t (by simpa using e)
    exact ⟨y, by simpa using h1, h2⟩
theorem Fzs.getV : ∀ {v : List V} {d : List D} {i : Nat} {y : V}, Fzs H A v d → v[i]? = some y → ∃ x, d[i]? = some x ∧ Fz H A y x
  | _, _, _, _, .nil, e => by simp at e
  | _, _, 0, _, .cons h _, e => by simp at e; subst e; exact ⟨_, rfl, h⟩
  | _, _, i + 1, x, .cons _ t, e => by
    obtain ⟨y, h1, h2⟩ := Fzs.getV (i := i) (y := x) t (by simpa using e)
    exact ⟨y, by simpa using h1, h2⟩
theorem Fzs.app : ∀ {v w : List V} {d e : List D}, Fzs H A v d → Fzs H A w e → Fzs H A (v ++ w) (d ++ e)
  | _, _, _, _, .nil, h => h
  | _, _, _, _, .cons h t, s => .cons h (Fzs.app t s)
theorem Fzs.take : ∀ {v : List V} {d : List D} (n : Nat), Fzs H A v d → Fzs H A (v.take n) (d.take n)
  | _, _, 0, _ => .nil
  | _, _, _ + 1, .nil => .nil
  | _, _, n + 1, .cons h t => .cons h (Fzs.take n t)
theorem Fzs.drop : ∀ {v : List V} {d : List D} (n : Nat), Fzs H A v d → Fzs H A (v.drop n) (d.drop n)
  | _, _, 0, h => h
  | _, _, _ + 1, .nil => .nil
  | _, _, n + 1, .cons _ t => Fzs.drop n t
end


/-! ### dicts whose keys are tuples -/
mutual
/-- a key, up to == -/
def nkey : D → Option NestedKey
  | .none => some .none
  | .bool b => some (.num (if b = true then 1 else 0))
  | .int i => some (.num i)
  | .str x => some (.text x)
  | .tuple xs => (nkeys xs).map .tup
  | _ => none
def nkeys : List D → Option (List NestedKey)
  | [] => some []
  | x :: xs => match nkey x, nkeys xs with
    | some k, some ks => some (k :: ks)
    | _, _ => none
end
/-- the dict at a, its entries by keys and values -/
def DObj (w : World) (a : Addr) (es : List (NestedKey × Addr × V)) : HO := .ext fun h => (a == sysModules) = false ∧ es.length ≤ sizeLine ∧ ∃ xs : List (NestedKey × Addr × Value),
  Paired (fun (e : NestedKey × Addr × V) (x : NestedKey × Addr × Value) => e.1 = x.1 ∧ e.2.1 = x.2.1 ∧ RelV e.2.2 x.2.2) es xs ∧
  ∃ o eps ep, h.get? a = some o ∧ o.ExactDict ∧ o.data = .dict eps ep ∧ eps.toList = xs.map (fun x => (⟨x.1.hash w, .ref x.2.1, x.2.2⟩ : DictEntry)) ∧ (xs.map (·.1)).Nodup
inductive KPs (H : Hp) (A : Addr → Prop) : List (NestedKey × Addr × V) → List (D × D) → Prop
  | nil : KPs H A [] []
  | cons {k : NestedKey} {a : Addr} {v : V} {es : List (NestedKey × Addr × V)} {x y : D} {ds : List (D × D)} : nkey x = some k → k.depth ≤ 8 → Fz H A (.ref a) x → Fz H A v y → KPs H A es ds → KPs H A ((k, a, v) :: es) ((x, y) :: ds)
theorem KPs.kp {H H' : Hp} {A A' : Addr → Prop} (k : Kp H H' A A') : ∀ {es : List (NestedKey × Addr × V)} {ds : List (D × D)}, KPs H A es ds → KPs H' A' es ds
  | _, _, .nil => .nil
  | _, _, .cons a d b c t => .cons a d (b.kp k) (c.kp k) (KPs.kp k t)
/-! dicts whose keys are whole numbers; a mark stands ahead of what they hold -/
inductive IKs (H : Hp) (A : Addr → Prop) : List (Key × V) → List (D × D) → Prop
  | nil : IKs H A [] []
  | cons {i : Int} {v : V} {ks : List (Key × V)} {y : D} {ds : List (D × D)} : Fz H A v y → IKs H A ks ds → IKs H A ((.inl i, v) :: ks) ((.int i, y) :: ds)
theorem IKs.kp {H H' : Hp} {A A' : Addr → Prop} (k : Kp H H' A A') : ∀ {ks : List (Key × V)} {ds : List (D × D)}, IKs H A ks ds → IKs H' A' ks ds
  | _, _, .nil => .nil
  | _, _, .cons c t => .cons (c.kp k) (IKs.kp k t)
def mark : D × D := (.none, .none)
def unm : List (D × D) → Bool
  | (.none, _) :: _ => false
  | _ => true
theorem unm_mark {r : List (D × D)} : ¬ unm (mark :: r) = true := by simp [unm, mark]
/-! ### the cells -/
def lv (μ : List Addr) (s : CS) (a : Addr) : Prop := ∃ (n : Nat) (c : Cell), μ[n]? = some a ∧ s[n]? = some c ∧ c ≠ Cell.dead
def Av (B : Addr → Prop) (μ : List Addr) (s : CS) (a : Addr) : Prop := B a ∨ lv μ s a
/-- a dict whose values are cells -/
inductive KRs (μ : List Addr) (H : Hp) (A : Addr → Prop) : List (NestedKey × Addr × V) → List (D × Nat) → Prop
  | nil : KRs μ H A [] []
  | cons {k : NestedKey} {a b : Addr} {es : List (NestedKey × Addr × V)} {x : D} {n : Nat} {ds : List (D × Nat)} : nkey x = some k → k.depth ≤ 8 → Fz H A (.ref a) x → μ[n]? = some b → KRs μ H A es ds → KRs μ H A ((k, a, .ref b) :: es) ((x, n) :: ds)
theorem KRs.kp {μ : List Addr} {H H' : Hp} {A A' : Addr → Prop} (k : Kp H H' A A') : ∀ {es : List (NestedKey × Addr × V)} {ds : List (D × Nat)}, KRs μ H A es ds → KRs μ H' A' es ds
  | _, _, .nil => .nil
  | _, _, .cons a d b c t => .cons a d (b.kp k) c (KRs.kp k t)
theorem KRs.mu {μ μ' : List Addr} {H : Hp} {A : Addr → Prop} (k : ∀ (n : Nat) (b : Addr), μ[n]? = some b → μ'[n]? = some b) : ∀ {es : List (NestedKey × Addr × V)} {ds : List (D × Nat)}, KRs μ H A es ds → KRs μ' H A es ds
  | _, _, .nil => .nil
  | _, _, .cons a d b c t => .cons a d b (k _ _ c) (KRs.mu k t)
/-- .. whose keys are whole numbers; a mark stands ahead -/
inductive IRs (μ : List Addr) : List (Key × V) → List (D × Nat) → Prop
  | nil : IRs μ [] []
  | cons {i : Int} {b : Addr} {n : Nat} {ks : List (Key × V)} {ds : List (D × Nat)} : μ[n]? = some b → IRs μ ks ds → IRs μ ((.inl i, .ref b) :: ks) ((.int i, n) :: ds)
theorem IRs.mu {μ μ' : List Addr} (k : ∀ (n : Nat) (b : Addr), μ[n]? = some b → μ'[n]? = some b) : ∀ {es : List (Key × V)} {ds : List (D × Nat)}, IRs μ es ds → IRs μ' es ds
  | _, _, .nil => .nil
  | _, _, .cons c t => .cons (k _ _ c) (IRs.mu k t)
def markR : D × Nat := (.none, 0)
def CellOk (μ : List Addr) (H : Hp) (A : Addr → Prop) (a : Addr) : Cell → Prop
  | .dead => True
  | .lst ds => ∃ xs, H a = some (.lst xs) ∧ Fzs H A xs ds
  | .dct ds => (∃ es, H a = some (DObj KFrag.w a es) ∧ KPs H A es ds) ∨ ∃ ks r, ds = mark :: r ∧ H a = some (.dK ks) ∧ IKs H A ks r
  | .dcr ds => (∃ es, H a = some (DObj KFrag.w a es) ∧ KRs μ H A es ds) ∨ ∃ ks r, ds = markR :: r ∧ H a = some (.dK ks) ∧ IRs μ ks r
theorem CellOk.kp {μ : List Addr} {H H' : Hp} {A A' : Addr → Prop} {a : Addr} {c : Cell} (k : Kp H H' A A') (e : ∀ o, H a = some o → H' a = some o) (h : CellOk μ H A a c) : CellOk μ H' A' a c := by
  cases c with
  | dead => trivial
  | lst ds => obtain ⟨xs, z, f⟩ := h; exact ⟨xs, e _ z, f.kp k⟩
  | dct ds =>
    rcases h with ⟨xs, z, f⟩ | ⟨ks, r, q, z, f⟩
    · exact .inl ⟨xs, e _ z, f.kp k⟩
    · exact .inr ⟨ks, r, q, e _ z, f.kp k⟩
  | dcr ds =>
    rcases h with ⟨es, z, f⟩ | ⟨ks, r, q, z, f⟩
    · exact .inl ⟨es, e _ z, f.kp k⟩
    · exact .inr ⟨ks, r, q, e _ z, f⟩
theorem CellOk.mu {μ μ' : List Addr} {H : Hp} {A : Addr → Prop} {a : Addr} {c : Cell} (k : ∀ (n : Nat) (b : Addr), μ[n]? = some b → μ'[n]? = some b) (h : CellOk μ H A a c) : CellOk μ' H A a c := by
  cases c with
  | dead => trivial
  | lst ds => exact h
  | dct ds => exact h
  | dcr ds =>
    rcases h with ⟨es, z, f⟩ | ⟨ks, r, q, z, f⟩
    · exact .inl ⟨es, z, f.mu k⟩
    · exact .inr ⟨ks, r, q, z, f.mu k⟩
structure SR (B : Addr → Prop) (μ : List Addr) (s : CS) (H : Hp) : Prop where
  len : μ.length = s.length
  inj : ∀ (n m : Nat) (a : Addr), μ[n]? = some a → μ[m]? = some a → n = m
  th : ∀ (n : Nat) (a : Addr), μ[n]? = some a → H a ≠ none
  nb : ∀ (n : Nat) (a : Addr), μ[n]? = some a → ¬ B a
  bt : ∀ a, B a → H a ≠ none
  cell : ∀ (n : Nat) (a : Addr) (c : Cell), μ[n]? = some a → s[n]? = some c → CellOk μ H (Av B μ s) a c
/-- from one state to a later one -/
structure Stp (μ : List Addr) (s : CS) (H : Hp) (μ' : List Addr) (s' : CS) (H' : Hp) : Prop where
  pre : ∃ t, μ' = μ ++ t
  keep : ∀ a o, H a = some o → ¬ lv μ s a → H' a = some o
  th : ∀ a, H a ≠ none → H' a ≠ none
  new : ∀ a, lv μ' s' a → lv μ s a ∨ H a = none
section
variable {K : PySem.W.Frag} {B : Addr → Prop} {μ μ' μ'' : List Addr} {s s' s'' : CS} {H H' H'' : Hp}
theorem Stp.refl : Stp μ s H μ s H := ⟨⟨[], by simp⟩, fun _ _ e _ => e, fun _ e => e, fun _ e => .inl e⟩
theorem Stp.trans (a : Stp μ s H μ' s' H') (b : Stp μ' s' H' μ'' s'' H'') : Stp μ s H μ'' s'' H'' where
  pre := by
    obtain ⟨t, rfl⟩ := a.pre
    obtain ⟨u, rfl⟩ := b.pre
    exact ⟨t ++ u, by simp⟩
  keep := fun x o e n => b.keep x o (a.keep x o e n) fun z => (a.new x z).elim n fun q => by rw [e] at q; cases q
  th := fun x e => b.th x (a.th x e)
  new := fun x z => (b.new x z).elim (a.new x) fun q => .inr (by
    cases h : H x with
    | none => rfl
    | some o => exact absurd q (a.th x (by rw [h]; simp)))
theorem Stp.kp (a : Stp μ s H μ' s' H') : Kp H H' (Av B μ s) (Av B μ' s') :=
  ⟨fun x o e n => a.keep x o e fun z => n (.inr z), fun x o e n z => z.elim (fun b => n (.inl b)) fun l => (a.new x l).elim (fun q => n (.inr q)) fun q => by rw [e] at q; cases q⟩
/-- the heap grows, the cells stay -/
theorem SR.same (r : SR B μ s H) (k : Same H H') : SR B μ s H' where
  len := r.len
  inj := r.inj
  th := fun n a e => by
    cases h : H a with
    | none => exact absurd h (r.th n a e)
    | some o => rw [k _ _ h]; simp
  nb := r.nb
  bt := fun a b => by
    cases h : H a with
    | none => exact absurd h (r.bt a b)
    | some o => rw [k _ _ h]; simp
  cell := fun n a c e1 e2 => by
    exact (r.cell n a c e1 e2).kp ⟨fun b o e _ => k b o e, fun _ _ _ n => n⟩ fun o e => k _ _ e
theorem Stp.same (k : Same H H') : Stp μ s H μ s H' :=
  ⟨⟨[], by simp⟩, fun a o e _ => k a o e, fun a e => by
    cases h : H a with
    | none => exact absurd h e
    | some o => rw [k _ _ h]; simp, fun _ e => .inl e⟩
end

/-! ### what stands for what -/
/-- a dict, a range, that no one changes -/
def FD (H : Hp) (A : Addr → Prop) (v : V) (ds : List (D × D)) : Prop := (∃ a o es, v = .ref a ∧ H a = some (.frz o (DObj KFrag.w a es)) ∧ ¬ A a ∧ KPs H A es ds) ∨ ∃ a o ks r, ds = mark :: r ∧ v = .ref a ∧ H a = some (.frz o (.dK ks)) ∧ ¬ A a ∧ IKs H A ks r
theorem FD.un {H : Hp} {A : Addr → Prop} {v : V} {ds : List (D × D)} (h : FD H A v ds) (u : unm ds = true) : ∃ a o es, v = .ref a ∧ H a = some (.frz o (DObj KFrag.w a es)) ∧ ¬ A a ∧ KPs H A es ds :=
  h.elim (fun h => h) fun ⟨_, _, _, _, e, _⟩ => absurd u (by rw [e]; exact unm_mark)
theorem FD.mk {H : Hp} {A : Addr → Prop} {v : V} {r : List (D × D)} (h : FD H A v (mark :: r)) : ∃ a o ks, v = .ref a ∧ H a = some (.frz o (.dK ks)) ∧ ¬ A a ∧ IKs H A ks r := by
  rcases h with ⟨_, _, _, _, _, _, k⟩ | ⟨a, o, ks, r', e, q⟩
  · cases k with
    | cons e1 _ f _ _ => cases f
  · cases e
    exact ⟨a, o, ks, q⟩
def FR (H : Hp) (A : Addr → Prop) (v : V) (lo hi : Int) : Prop := ∃ a, v = .ref a ∧ H a = some (.rng lo hi) ∧ ¬ A a
theorem FD.kp {H H' : Hp} {A A' : Addr → Prop} {v : V} {ds : List (D × D)} (k : Kp H H' A A') (h : FD H A v ds) : FD H' A' v ds :=
  h.elim (fun ⟨a, o, es, e, h1, h2, h3⟩ => .inl ⟨a, o, es, e, k.keep _ _ h1 h2, k.new _ _ h1 h2, h3.kp k⟩) fun ⟨a, o, ks, r, q, e, h1, h2, h3⟩ => .inr ⟨a, o, ks, r, q, e, k.keep _ _ h1 h2, k.new _ _ h1 h2, h3.kp k⟩
theorem FR.kp {H H' : Hp} {A A' : Addr → Prop} {v : V} {lo hi : Int} (k : Kp H H' A A') (h : FR H A v lo hi) : FR H' A' v lo hi :=
  let ⟨a, e, h1, h2⟩ := h; ⟨a, e, k.keep _ _ h1 h2, k.new _ _ h1 h2⟩
def KSc (a : Addr) (ns : List Int) : Prop := ∃ (o : Obj) (its : Array Value) (n : Nat), KFrag.K.lookup a = some o ∧ o.cls = .type "list" ∧ o.dict = none ∧ o.data = .seq its n ∧ its.size ≤ sizeLine ∧ Vals (ns.map V.int) its.toList
/-- b stands for a -/
class Rp (a : Type) (b : outParam Type) where
  rel : (Addr → Prop) → List Addr → CS → Hp → b → a → Prop
  stp : ∀ {B : Addr → Prop} {μ μ' : List Addr} {s s' : CS} {H H' : Hp} {v : b} {w : a}, Stp μ s H μ' s' H' → rel B μ s H v w → rel B μ' s' H' v w
def RW (B : Addr → Prop) (μ : List Addr) (s : CS) (H : Hp) (v : V) : W → Prop
  | .d x => Fz H (Av B μ s) v x
  | .c n => ∃ a, v = .ref a ∧ μ[n]? = some a
  | .sc ns => ∃ a, v = .ref a ∧ ((∃ o, H a = some (.frz o (.lst (ns.map V.int))) ∧ ¬ lv μ s a) ∨ KSc a ns)
  | .fd ds => FD H (Av B μ s) v ds
  | .rg lo hi => FR H (Av B μ s) v lo hi
theorem RW.stp {B : Addr → Prop} {μ μ' : List Addr} {s s' : CS} {H H' : Hp} (a : Stp μ s H μ' s' H') {v : V} {w : W} (h : RW B μ s H v w) : RW B μ' s' H' v w := by
  cases w with
  | d x => exact Fz.kp a.kp h
  | c n =>
    obtain ⟨b, e, q⟩ := h
    obtain ⟨t, rfl⟩ := a.pre
    refine ⟨b, e, ?_⟩
    rw [List.getElem?_append_left (List.getElem?_eq_some_iff.mp q).1]
    exact q
  | sc ns =>
    obtain ⟨b, e, h⟩ := h
    rcases h with ⟨o, q, n⟩ | h
    · exact ⟨b, e, .inl ⟨o, a.keep _ _ q n, fun z => (a.new b z).elim n fun y => by rw [q] at y; cases y⟩⟩
    · exact ⟨b, e, .inr h⟩
  | fd ds => exact FD.kp a.kp h
  | rg lo hi => exact FR.kp a.kp h
instance : Rp W V := ⟨RW, fun a h => RW.stp a h⟩
inductive RWs (B : Addr → Prop) (μ : List Addr) (s : CS) (H : Hp) : List V → List W → Prop
  | nil : RWs B μ s H [] []
  | cons {v : V} {w : W} {vs : List V} {ws : List W} : RW B μ s H v w → RWs B μ s H vs ws → RWs B μ s H (v :: vs) (w :: ws)
theorem RWs.stp {B : Addr → Prop} {μ μ' : List Addr} {s s' : CS} {H H' : Hp} (a : Stp μ s H μ' s' H') : ∀ {v : List V} {w : List W}, RWs B μ s H v w → RWs B μ' s' H' v w
  | _, _, .nil => .nil
  | _, _, .cons h t => .cons (h.stp a) (RWs.stp a t)
instance : Rp (List W) (List V) := ⟨RWs, fun a h => RWs.stp a h⟩
instance : Rp Bool Bool := ⟨fun _ _ _ _ b a => b = a, fun _ h => h⟩
instance : Rp (Option Int) (Option Int) := ⟨fun _ _ _ _ b a => b = a, fun _ h => h⟩
structure ER (B : Addr → Prop) (μ : List Addr) (s : CS) (H : Hp) (σ : L2.St) (ρ : En) : Prop where
  len : σ.length = ρ.length
  at_ : ∀ (i : Nat) (w : W), ρ[i]? = some (some w) → ∃ v, σ[i]? = some (some v) ∧ RW B μ s H v w
section
variable {B : Addr → Prop} {μ μ' : List Addr} {s s' : CS} {H H' : Hp} {σ : L2.St} {ρ : En}
theorem ER.stp (a : Stp μ s H μ' s' H') (h : ER B μ s H σ ρ) : ER B μ' s' H' σ ρ :=
  ⟨h.len, fun i w e => let ⟨v, e1, e2⟩ := h.at_ i w e; ⟨v, e1, e2.stp a⟩⟩
theorem ER.set (h : ER B μ s H σ ρ) {v : V} {w : W} (r : RW B μ s H v w) (i : Nat) : ER B μ s H (σ.set i (some v)) (ρ.set i (some w)) := by
  refine ⟨by rw [List.length_set, List.length_set]; exact h.len, fun j u e => ?_⟩
  by_cases hij : i = j
  · subst hij
    have hl : i < ρ.length := by
      have := (List.getElem?_eq_some_iff.mp e).1
      rwa [List.length_set] at this
    rw [List.getElem?_set_self hl] at e
    have hl' : i < σ.length := by rw [h.len]; exact hl
    cases e
    exact ⟨v, by rw [List.getElem?_set_self hl'], r⟩
  · rw [List.getElem?_set_ne hij] at e
    rw [List.getElem?_set_ne hij]
    exact h.at_ j u e
end

/-! ### what is wanted -/
abbrev TX := Nat → Addr × Str
abbrev WXc := Value → Option Addr → L2.St → Hp → Prop
def ExV (T : TX) (A : Addr → Prop) (H : Hp) (e : Exn) (c : Value) (d : Option Addr) : Prop :=
  c = .ref (T e.cls).1 ∧ ∃ dd v, d = some dd ∧ H dd = some (.xd [((T e.cls).2, v)]) ∧ Fz H A v e.arg
section
variable {a b : Type} [Rp a b]
def Fin (T : TX) (Wx : WXc) (B : Addr → Prop) (μ : List Addr) (s : CS) (H : Hp) (σ : L2.St) (Q : b → Hp → Prop) : R a → Prop
  | .ok w s' => ∀ v μ' H', Stp μ s H μ' s' H' → SR B μ' s' H' → Rp.rel B μ' s' H' v w → Q v H'
  | .exc e s' => ∀ μ' H' c d, Stp μ s H μ' s' H' → SR B μ' s' H' → ExV T (Av B μ' s') H' e c d → Wx c d σ H'
  | .bad => False
def tD (T : TX) (Wx : WXc) (f : En → CS → R a) : L2.St → Hp → (b → Hp → Prop) → Prop := fun σ H Q => ∃ B μ s ρ, SR B μ s H ∧ ER B μ s H σ ρ ∧ Fin T Wx B μ s H σ Q (f ρ s)
end
section
variable {a b c d : Type} [Rp a b] [Rp c d] {T : TX} {Wx : WXc} {B : Addr → Prop} {μ μ' : List Addr} {s s' : CS} {H H' : Hp} {σ : L2.St} {ρ : En} {Q : b → Hp → Prop} {Qc : d → Hp → Prop}
theorem Fin.stp (st : Stp μ s H μ' s' H') {r : R a} (h : Fin T Wx B μ s H σ Q r) : Fin T Wx B μ' s' H' σ Q r := by
  cases r with
  | ok w t => exact fun v m h1 b c d => h v m h1 (st.trans b) c d
  | exc e t => exact fun m h1 c d b x y => h m h1 c d (st.trans b) x y
  | bad => exact h
theorem tD_bind {f : En → CS → R a} {g : a → CS → R c} {k : b → Hp → Prop} (r : SR B μ s H) (e : ER B μ s H σ ρ) (q : Fin T Wx B μ s H σ Qc ((f ρ s).bind g))
    (h : ∀ w s1 v μ1 H1, Stp μ s H μ1 s1 H1 → SR B μ1 s1 H1 → ER B μ1 s1 H1 σ ρ → Rp.rel B μ1 s1 H1 v w → Fin T Wx B μ1 s1 H1 σ Qc (g w s1) → k v H1) : tD T Wx f σ H k := by
  refine ⟨B, μ, s, ρ, r, e, ?_⟩
  cases z : f ρ s with
  | ok w s1 =>
    rw [z] at q
    intro v μ1 H1 a b c
    exact h w s1 v μ1 H1 a b (e.stp a) c (Fin.stp a q)
  | exc x s1 =>
    rw [z] at q
    exact q
  | bad =>
    rw [z] at q
    exact q
/-- a value that is at hand, the cells as they are, the heap grown -/
theorem Fin.use {w : a} {v : b} (q : Fin T Wx B μ s H σ Q (.ok w s)) (k : Same H H') (r : SR B μ s H) (h : Rp.rel B μ s H' v w) : Q v H' := q v μ H' (Stp.same k) (r.same k) h
theorem Fin.here {w : a} {v : b} (q : Fin T Wx B μ s H σ Q (.ok w s)) (r : SR B μ s H) (h : Rp.rel B μ s H v w) : Q v H := q v μ H Stp.refl r h
end
end
end DL
namespace DL
open PySem PySem.Spec PyProof.Rows L2
section
variable [KFrag]

/-! ### expressions -/
theorem PE_imp {X : Cx} {e : Expr} {t t' : TE} (h : PE X e t) (k : ∀ σ H Q, t' σ H Q → t σ H Q) : PE X e t' := ⟨fun pins s σ H Q I z => h.run pins s σ H Q I (k _ _ _ z)⟩
theorem PT_imp {X : Cx} {e : Expr} {t t' : TT} (h : PT X e t) (k : ∀ σ H Q, t' σ H Q → t σ H Q) : PT X e t' := ⟨fun pins s σ H Q I z => h.run pins s σ H Q I (k _ _ _ z)⟩
theorem PW_imp {X : Cx} {e : Expr} {t t' : TT} (h : PW X e t) (k : ∀ σ H Q, t' σ H Q → t σ H Q) : PW X e t' := ⟨fun w pins s σ H Q I z => h.run w pins s σ H Q I (k _ _ _ z)⟩
theorem PA_imp {X : Cx} {e : List Expr} {t t' : TA} (h : PA X e t) (k : ∀ σ H Q, t' σ H Q → t σ H Q) : PA X e t' := ⟨fun pos pins s σ H Q I z => h.run pos pins s σ H Q I (k _ _ _ z)⟩
theorem PS_imp {X : Cx} {e : Stmt} {t t' : TS} (h : PS X e t) (k : ∀ D σ H, t' D σ H → t D σ H) : PS X e t' := ⟨fun pins s σ H D I z => h.run pins s σ H D I (k _ _ _ z)⟩
theorem PSs_imp {X : Cx} {e : List Stmt} {t t' : TS} (h : PSs X e t) (k : ∀ D σ H, t' D σ H → t D σ H) : PSs X e t' := ⟨fun pins s σ H D I z => h.run pins s σ H D I (k _ _ _ z)⟩

abbrev DE (X : Cx) (T : TX) (Wx : WXc) (e : Expr) (f : En → CS → R W) : Prop := PE X e (tD T Wx f)
abbrev DA (X : Cx) (T : TX) (Wx : WXc) (e : List Expr) (f : En → CS → R (List W)) : Prop := PA X e (tD T Wx f)
abbrev DT (X : Cx) (T : TX) (Wx : WXc) (e : Expr) (f : En → CS → R Bool) : Prop := PT X e (tD T Wx f)
abbrev DW (X : Cx) (T : TX) (Wx : WXc) (e : Expr) (f : En → CS → R Bool) : Prop := PW X e (tD T Wx f)

section
variable {X : Cx} [HK X] {T : TX} {Wx : WXc}

def fVar (i : Nat) (ρ : En) (s : CS) : R W := match ρ[i]? with
  | some (some w) => .ok w s
  | _ => .bad
def fC (x : D) (_ : En) (s : CS) : R W := .ok (.d x) s
theorem de_var {i : Nat} {e : Expr} (h : PE X e (tVar i)) : DE X T Wx e (fVar i) := PE_imp h fun σ H Q ⟨B, μ, s, ρ, r, e, q⟩ => by
  unfold fVar at q
  cases z : ρ[i]? with
  | none => rw [z] at q; exact q.elim
  | some o =>
    cases o with
    | none => rw [z] at q; exact q.elim
    | some w =>
      rw [z] at q
      obtain ⟨v, h1, h2⟩ := e.at_ i w z
      exact ⟨v, h1, Fin.here q r h2⟩
theorem de_const {e : Expr} {v : V} {x : D} (h : PE X e (tC v)) (k : ∀ (H : Hp) A, Fz H A v x) : DE X T Wx e (fC x) := PE_imp h fun σ H Q ⟨B, μ, s, ρ, r, _, q⟩ =>
  Fin.here (a := W) (w := .d x) q r (k _ _)
theorem de_int {i j pos} : DE X T Wx (.Constant (.int i) j pos) (fC (.int i)) := de_const pe_int fun _ _ => .int i
theorem de_bool {i j pos} : DE X T Wx (.Constant (.bool i) j pos) (fC (.bool i)) := de_const pe_bl fun _ _ => .bl i
theorem de_none {j pos} : DE X T Wx (.Constant .none j pos) (fC .none) := de_const pe_non fun _ _ => .non
theorem de_str {x j pos} : DE X T Wx (.Constant (.str x) j pos) (fC (.str x)) := de_const pe_str fun _ _ => .str x
/-- a module's int -/
theorem de_gint {x : Str} {i : Int} {t : Tok} {pos : Pos} (hg : Gl X x) (hm : X.mg x = some (.int i t)) (hd : (x == ("__debug__" : Str)) = false := by decide) : DE X T Wx (.Name x pos) (fC (.int i)) :=
  de_const (v := .int i) (pe_glob hg hm (show ∃ t', Value.int i t = Value.int i t' from ⟨t, rfl⟩) hd) fun _ _ => .int i

/-! arguments -/
def fNil (_ : En) (s : CS) : R (List W) := .ok [] s
def fCons (f : En → CS → R W) (g : En → CS → R (List W)) (ρ : En) (s : CS) : R (List W) := (f ρ s).bind fun w s => (g ρ s).bind fun ws s => .ok (w :: ws) s
theorem da_nil : DA X T Wx [] fNil := PA_imp pa_nil fun σ H Q ⟨B, μ, s, ρ, r, _, q⟩ => Fin.here (a := List W) (w := []) q r RWs.nil
theorem da_cons {e : Expr} {es : List Expr} {f : En → CS → R W} {g : En → CS → R (List W)} (h : DE X T Wx e f) (k : DA X T Wx es g) (hs : starEach (e :: es) X.env = (false, eval e X.env) :: starEach es X.env := by rfl) : DA X T Wx (e :: es) (fCons f g) :=
  PA_imp (pa_cons h k hs) fun σ H Q ⟨B, μ, s, ρ, r, e, q⟩ =>
    tD_bind r e q fun w s1 v μ1 H1 st1 r1 e1 rel1 q1 => tD_bind r1 e1 q1 fun ws s2 vs μ2 H2 st2 r2 e2 rel2 q2 =>
      Fin.here (a := List W) q2 r2 (RWs.cons (Rp.stp (a := W) (b := V) st2 rel1) rel2)

/-! values by values -/
def allD : List W → Option (List D)
  | [] => some []
  | .d x :: r => (allD r).map (x :: ·)
  | _ :: _ => none
def lift1 (g : D → Option D) (w : W) (s : CS) : R W := match w with
  | .d x => match g x with
    | some z => .ok (.d z) s
    | none => .bad
  | _ => .bad
def lift2 (g : D → D → Option D) (w u : W) (s : CS) : R W := match w, u with
  | .d x, .d y => match g x y with
    | some z => .ok (.d z) s
    | none => .bad
  | _, _ => .bad
def liftN (g : List D → Option D) (ws : List W) (s : CS) : R W := match allD ws with
  | some xs => match g xs with
    | some z => .ok (.d z) s
    | none => .bad
  | none => .bad
def Bt (H : Hp) (A : Addr → Prop) : Prop := ∀ a, A a → H a ≠ none
theorem SR.bt' {B : Addr → Prop} {μ : List Addr} {s : CS} {H : Hp} (r : SR B μ s H) : Bt H (Av B μ s) := fun a h => h.elim (r.bt a) fun ⟨n, _, e, _⟩ => r.th n a e
/-- an operation of two values, as a function of data -/
def rD (g : D → D → Option D) : R2 := fun x y H Q => ∃ A dx dy z, Bt H A ∧ Fz H A x dx ∧ Fz H A y dy ∧ g dx dy = some z ∧ ∀ v H', Same H H' → Fz H' A v z → Q v H'
def rD1 (g : D → Option D) : V → Hp → VK → Prop := fun x H Q => ∃ A dx z, Bt H A ∧ Fz H A x dx ∧ g dx = some z ∧ ∀ v H', Same H H' → Fz H' A v z → Q v H'
def rDs (g : List D → Option D) : List V → Hp → VK → Prop := fun xs H Q => ∃ A ds z, Bt H A ∧ Fzs H A xs ds ∧ g ds = some z ∧ ∀ v H', Same H H' → Fz H' A v z → Q v H'
def f2 (g : D → D → Option D) (fa fb : En → CS → R W) (ρ : En) (s : CS) : R W := (fa ρ s).bind fun x s => (fb ρ s).bind fun y s => lift2 g x y s
def f1 (g : D → Option D) (fa : En → CS → R W) (ρ : En) (s : CS) : R W := (fa ρ s).bind fun x s => lift1 g x s
def fN (g : List D → Option D) (fs : En → CS → R (List W)) (ρ : En) (s : CS) : R W := (fs ρ s).bind fun xs s => liftN g xs s
section
variable {B : Addr → Prop} {μ : List Addr} {s : CS} {H : Hp} {σ : L2.St} {Q : VK}
theorem lift2_use {g : D → D → Option D} {w u : W} {x y : V} (r : SR B μ s H) (hw : RW B μ s H x w) (hu : RW B μ s H y u) (q : Fin T Wx B μ s H σ Q (lift2 g w u s)) : rD g x y H Q := by
  cases w with
  | c n => exact q.elim
  | sc n => exact q.elim
  | fd n => exact q.elim
  | rg n m => exact q.elim
  | d dx =>
    cases u with
    | c n => exact q.elim
    | sc n => exact q.elim
    | fd n => exact q.elim
    | rg n m => exact q.elim
    | d dy =>
      unfold lift2 at q
      cases e : g dx dy with
      | none => simp only [e] at q; exact q.elim
      | some z =>
        simp only [e] at q
        exact ⟨Av B μ s, dx, dy, z, r.bt', hw, hu, e, fun v H' k f => Fin.use (a := W) (w := .d z) q k r f⟩
theorem lift1_use {g : D → Option D} {w : W} {x : V} (r : SR B μ s H) (hw : RW B μ s H x w) (q : Fin T Wx B μ s H σ Q (lift1 g w s)) : rD1 g x H Q := by
  cases w with
  | c n => exact q.elim
  | sc n => exact q.elim
  | fd n => exact q.elim
  | rg n m => exact q.elim
  | d dx =>
    unfold lift1 at q
    cases e : g dx with
    | none => simp only [e] at q; exact q.elim
    | some z =>
      simp only [e] at q
      exact ⟨Av B μ s, dx, z, r.bt', hw, e, fun v H' k f => Fin.use (a := W) (w := .d z) q k r f⟩
theorem allD_fz : ∀ {ws : List W} {xs : List V} {ds : List D}, allD ws = some ds → RWs B μ s H xs ws → Fzs H (Av B μ s) xs ds
  | _, _, _, e, .nil => by cases e; exact .nil
  | w :: ws, _, ds, e, .cons h t => by
    cases w with
    | c n => cases e
    | sc n => cases e
    | fd n => cases e
    | rg n m => cases e
    | d x =>
      unfold allD at e
      cases z : allD ws with
      | none => rw [z] at e; cases e
      | some l =>
        rw [z] at e
        cases e
        exact .cons h (allD_fz z t)
theorem liftN_use {g : List D → Option D} {ws : List W} {xs : List V} (r : SR B μ s H) (hw : RWs B μ s H xs ws) (q : Fin T Wx B μ s H σ Q (liftN g ws s)) : rDs g xs H Q := by
  unfold liftN at q
  cases e : allD ws with
  | none => simp only [e] at q; exact q.elim
  | some ds =>
    simp only [e] at q
    cases e2 : g ds with
    | none => simp only [e2] at q; exact q.elim
    | some z =>
      simp only [e2] at q
      exact ⟨Av B μ s, ds, z, r.bt', allD_fz e hw, e2, fun v H' k f => Fin.use (a := W) (w := .d z) q k r f⟩
end
abbrev DOp (X : Cx) (f : Value → Value → Sem Value) (g : D → D → Option D) : Prop := OpR X f (rD g)
section
variable {a b c : Expr} {fa fb fc : En → CS → R W} {pos : Pos} {g g' : D → D → Option D}
/-- the reading of a two-place operation -/
theorem t2_use {fa fb : En → CS → R W} {σ : L2.St} {H : Hp} {Q : VK} (h : tD T Wx (f2 g fa fb) σ H Q) : tOp (rD g) (tD T Wx fa) (tD T Wx fb) σ H Q := by
  obtain ⟨B, μ, s, ρ, r, e, q⟩ := h
  exact tD_bind r e q fun w s1 v μ1 H1 st1 r1 e1 rel1 q1 => tD_bind r1 e1 q1 fun u s2 x μ2 H2 st2 r2 e2 rel2 q2 => lift2_use r2 (Rp.stp (a := W) (b := V) st2 rel1) rel2 q2
theorem de_op {op : Operator} (ho : DOp X (binaryOp op) g) (ha : DE X T Wx a fa) (hb : DE X T Wx b fb) : DE X T Wx (.BinOp a op b pos) (f2 g fa fb) := PE_imp (pe_op ho ha hb) fun _ _ _ => t2_use
theorem de_cmp {op : CmpOp} (ho : DOp X (compareOp op) g) (ha : DE X T Wx a fa) (hb : DE X T Wx b fb) (hm : behindInMarks op b = false := by first | exact nomark _ | rfl) : DE X T Wx (.Compare a [op] [b] pos) (f2 g fa fb) :=
  PE_imp (pe_cmpR ho ha hb hm) fun _ _ _ => t2_use
theorem de_ix (ho : IxR X (rD g)) (ha : DE X T Wx a fa) (hb : DE X T Wx b fb) (hs : PlainIx b := by exact fun _ _ => rfl) : DE X T Wx (.Subscript a b pos) (f2 g fa fb) := PE_imp (pe_ix ho ha hb hs) fun _ _ _ => t2_use
/-- a value whose truth is asked: bools alone -/
def toB : W → CS → R Bool
  | .d (.bool b), s => .ok b s
  | _, _ => .bad
def fB (f : En → CS → R W) (ρ : En) (s : CS) : R Bool := (f ρ s).bind toB
theorem tB_use {f : En → CS → R W} {σ : L2.St} {H : Hp} {Q : Bool → Hp → Prop} (h : tD T Wx (fB f) σ H Q) : tB (tD T Wx f) σ H Q := by
  obtain ⟨B, μ, s, ρ, r, e, q⟩ := h
  refine tD_bind r e q fun w s1 v μ1 H1 st1 r1 e1 rel1 q1 => ?_
  cases w with
  | c n => exact q1.elim
  | sc n => exact q1.elim
  | fd n => exact q1.elim
  | rg n m => exact q1.elim
  | d x =>
    have rel1 : Fz H1 (Av B μ1 s1) v x := rel1
    cases x with
    | bool b =>
      cases rel1
      exact ⟨b, rfl, Fin.here (a := Bool) q1 r1 rfl⟩
    | _ => exact q1.elim
theorem dt_cmp {op : CmpOp} (ho : DOp X (compareOp op) g) (ha : DE X T Wx a fa) (hb : DE X T Wx b fb) (hm : behindInMarks op b = false := by first | exact nomark _ | rfl) : DT X T Wx (.Compare a [op] [b] pos) (fB (f2 g fa fb)) :=
  PT_imp (pt_cmp ⟨fun pins s σ H Q I h => binT ha hb I (t2_use h) fun v u s2 x y H2 I2 rx ry q => ho pins s2 σ H2 x y v u Q I2 rx ry q⟩ hm) fun _ _ _ => tB_use
theorem dt_val {e : Expr} {f : En → CS → R W} (h : DE X T Wx e f) (he : ∀ whole, isTrue e X.env whole = (do let v ← whole; standAt e.pos; holding [v] (truthy v)) := by intro _; rfl) : DT X T Wx e (fB f) :=
  PT_imp (pt_val h he) fun _ _ _ => tB_use
/-! and, or, not -/
def fNot (f : En → CS → R Bool) (ρ : En) (s : CS) : R Bool := (f ρ s).bind fun b s => .ok (!b) s
def fAnd (f g : En → CS → R Bool) (ρ : En) (s : CS) : R Bool := (f ρ s).bind fun b s => if b = true then g ρ s else .ok false s
def fOr (f g : En → CS → R Bool) (ρ : En) (s : CS) : R Bool := (f ρ s).bind fun b s => if b = true then .ok true s else g ρ s
theorem dt_not {f : En → CS → R Bool} (h : DT X T Wx a f) : DT X T Wx (.UnaryOp .Not a pos) (fNot f) := PT_imp (pt_not h) fun σ H Q ⟨B, μ, s, ρ, r, e, q⟩ =>
  tD_bind r e q fun w s1 v μ1 H1 st1 r1 e1 rel1 q1 => by
    cases rel1
    exact Fin.here (a := Bool) q1 r1 rfl
theorem dw_and1 {f : En → CS → R Bool} (h : DT X T Wx a f) : DW X T Wx (.BoolOp .And [a] pos) f := pw_and1 h
theorem dw_or1 {f : En → CS → R Bool} (h : DT X T Wx a f) : DW X T Wx (.BoolOp .Or [a] pos) f := pw_or1 h
theorem dw_and {rest : List Expr} {f g : En → CS → R Bool} (h : DT X T Wx a f) (k : DW X T Wx (.BoolOp .And (b :: rest) pos) g) : DW X T Wx (.BoolOp .And (a :: b :: rest) pos) (fAnd f g) := PW_imp (pw_and h k) fun σ H Q ⟨B, μ, s, ρ, r, e, q⟩ =>
  tD_bind r e q fun w s1 v μ1 H1 st1 r1 e1 rel1 q1 => by
    cases rel1
    cases w with
    | true => exact ⟨B, μ1, s1, ρ, r1, e1, q1⟩
    | false => exact Fin.here (a := Bool) q1 r1 rfl
theorem dw_or {rest : List Expr} {f g : En → CS → R Bool} (h : DT X T Wx a f) (k : DW X T Wx (.BoolOp .Or (b :: rest) pos) g) : DW X T Wx (.BoolOp .Or (a :: b :: rest) pos) (fOr f g) := PW_imp (pw_or h k) fun σ H Q ⟨B, μ, s, ρ, r, e, q⟩ =>
  tD_bind r e q fun w s1 v μ1 H1 st1 r1 e1 rel1 q1 => by
    cases rel1
    cases w with
    | false => exact ⟨B, μ1, s1, ρ, r1, e1, q1⟩
    | true => exact Fin.here (a := Bool) q1 r1 rfl
theorem dt_w {e : Expr} {f : En → CS → R Bool} (h : DW X T Wx e f) : DT X T Wx e f := h.pt
/-! .. as values: bools alone -/
def fAndV (f g : En → CS → R W) (ρ : En) (s : CS) : R W := (fB f ρ s).bind fun b s => if b = true then g ρ s else .ok (.d (.bool false)) s
def fOrV (f g : En → CS → R W) (ρ : En) (s : CS) : R W := (fB f ρ s).bind fun b s => if b = true then .ok (.d (.bool true)) s else g ρ s
def fNotV (f : En → CS → R W) (ρ : En) (s : CS) : R W := (fB f ρ s).bind fun b s => .ok (.d (.bool (!b))) s
theorem de_one {op} {f : En → CS → R W} (h : DE X T Wx a f) : DE X T Wx (.BoolOp op [a] pos) f := pe_one h
theorem tBV {f : En → CS → R W} {k : Bool → CS → R W} {σ : L2.St} {H : Hp} {Q : VK} {B : Addr → Prop} {μ : List Addr} {s : CS} {ρ : En} {kk : V → Hp → Prop} (r : SR B μ s H) (e : ER B μ s H σ ρ) (q : Fin T Wx B μ s H σ Q ((fB f ρ s).bind k))
    (h : ∀ b s1 μ1 H1, SR B μ1 s1 H1 → ER B μ1 s1 H1 σ ρ → Fin T Wx B μ1 s1 H1 σ Q (k b s1) → kk (.bl b) H1) : tD T Wx f σ H kk := by
  have q' : Fin T Wx B μ s H σ Q ((f ρ s).bind fun w s => (toB w s).bind k) := by
    unfold fB at q
    cases z : f ρ s with
    | ok w s1 => rw [z] at q; exact q
    | exc x s1 => rw [z] at q; exact q
    | bad => rw [z] at q; exact q
  refine tD_bind r e q' fun w s1 v μ1 H1 st1 r1 e1 rel1 q1 => ?_
  cases w with
  | c n => exact q1.elim
  | sc n => exact q1.elim
  | fd n => exact q1.elim
  | rg n m => exact q1.elim
  | d x =>
    have rel1 : Fz H1 (Av B μ1 s1) v x := rel1
    cases x with
    | bool b =>
      cases rel1
      exact h b s1 μ1 H1 r1 e1 q1
    | _ => exact q1.elim
theorem de_and {rest : List Expr} {f g : En → CS → R W} (h : DE X T Wx a f) (k : DE X T Wx (.BoolOp .And (b :: rest) pos) g) : DE X T Wx (.BoolOp .And (a :: b :: rest) pos) (fAndV f g) := PE_imp (pe_and h k) fun σ H Q ⟨B, μ, s, ρ, r, e, q⟩ =>
  tBV r e q fun b s1 μ1 H1 r1 e1 q1 => ⟨b, rfl, by
    cases b with
    | true => exact ⟨B, μ1, s1, ρ, r1, e1, q1⟩
    | false => exact Fin.here (a := W) q1 r1 (Fz.bl false)⟩
theorem de_or {rest : List Expr} {f g : En → CS → R W} (h : DE X T Wx a f) (k : DE X T Wx (.BoolOp .Or (b :: rest) pos) g) : DE X T Wx (.BoolOp .Or (a :: b :: rest) pos) (fOrV f g) := PE_imp (pe_or h k) fun σ H Q ⟨B, μ, s, ρ, r, e, q⟩ =>
  tBV r e q fun b s1 μ1 H1 r1 e1 q1 => ⟨b, rfl, by
    cases b with
    | false => exact ⟨B, μ1, s1, ρ, r1, e1, q1⟩
    | true => exact Fin.here (a := W) q1 r1 (Fz.bl true)⟩
theorem de_not {f : En → CS → R W} (h : DE X T Wx a f) : DE X T Wx (.UnaryOp .Not a pos) (fNotV f) := PE_imp (pe_not h) fun σ H Q ⟨B, μ, s, ρ, r, e, q⟩ =>
  tBV r e q fun b s1 μ1 H1 r1 e1 q1 => ⟨b, rfl, Fin.here (a := W) q1 r1 (Fz.bl _)⟩
/-! a if t else b -/
def fIf (t : En → CS → R Bool) (f g : En → CS → R W) (ρ : En) (s : CS) : R W := (t ρ s).bind fun b s => if b = true then f ρ s else g ρ s
theorem de_if {t : En → CS → R Bool} {f g : En → CS → R W} (ht : DT X T Wx c t) (hf : DE X T Wx a f) (hg : DE X T Wx b g) : DE X T Wx (.IfExp c a b pos) (fIf t f g) := PE_imp (pe_ifExp ht hf hg) fun σ H Q ⟨B, μ, s, ρ, r, e, q⟩ =>
  tD_bind r e q fun w s1 v μ1 H1 st1 r1 e1 rel1 q1 => by
    cases rel1
    cases w with
    | true => exact ⟨B, μ1, s1, ρ, r1, e1, q1⟩
    | false => exact ⟨B, μ1, s1, ρ, r1, e1, q1⟩
/-! a chain of two -/
def fChain (g g' : D → D → Option D) (fa fb fc : En → CS → R W) (ρ : En) (s : CS) : R W :=
  (fa ρ s).bind fun x s => (fb ρ s).bind fun y s => (lift2 g x y s).bind fun z s => (toB z s).bind fun k s => if k = true then (fc ρ s).bind fun z s => lift2 g' y z s else .ok (.d (.bool false)) s
theorem Fin.imp {Q Q' : VK} {B : Addr → Prop} {μ : List Addr} {s : CS} {H : Hp} {σ : L2.St} {r : R W} (k : ∀ v H', Q v H' → Q' v H') (q : Fin T Wx B μ s H σ Q r) : Fin T Wx B μ s H σ Q' r := by
  cases r with
  | ok w s1 => exact fun v μ1 H1 st r rel => k _ _ (q v μ1 H1 st r rel)
  | exc x s1 => exact q
  | bad => exact q
theorem Fin_split {f : R W} {k : W → CS → R W} {B : Addr → Prop} {μ : List Addr} {s : CS} {H : Hp} {σ : L2.St} {Q : VK} (q : Fin T Wx B μ s H σ Q (f.bind k)) :
    Fin T Wx B μ s H σ (fun v H1 => ∃ w s1 μ1, Stp μ s H μ1 s1 H1 ∧ SR B μ1 s1 H1 ∧ RW B μ1 s1 H1 v w ∧ Fin T Wx B μ1 s1 H1 σ Q (k w s1)) f := by
  cases f with
  | ok w s1 => exact fun v μ1 H1 st r rel => ⟨w, s1, μ1, st, r, rel, Fin.stp st q⟩
  | exc x s1 => exact q
  | bad => exact q
theorem Fin_splitB {f : R W} {k : W → CS → R Bool} {B : Addr → Prop} {μ : List Addr} {s : CS} {H : Hp} {σ : L2.St} {Q : Bool → Hp → Prop} (q : Fin T Wx B μ s H σ Q (f.bind k)) :
    Fin T Wx B μ s H σ (fun v H1 => ∃ w s1 μ1, Stp μ s H μ1 s1 H1 ∧ SR B μ1 s1 H1 ∧ RW B μ1 s1 H1 v w ∧ Fin T Wx B μ1 s1 H1 σ Q (k w s1)) f := by
  cases f with
  | ok w s1 => exact fun v μ1 H1 st r rel => ⟨w, s1, μ1, st, r, rel, Fin.stp st q⟩
  | exc x s1 => exact q
  | bad => exact q
theorem tChain_use {fa fb fc : En → CS → R W} {σ : L2.St} {H : Hp} {Q : VK} (h : tD T Wx (fChain g g' fa fb fc) σ H Q) : tChain (rD g) (rD g') (tD T Wx fa) (tD T Wx fb) (tD T Wx fc) σ H Q := by
  obtain ⟨B, μ, s, ρ, r, e, q⟩ := h
  refine tD_bind r e q fun w s1 v μ1 H1 st1 r1 e1 rel1 q1 => tD_bind r1 e1 q1 fun u s2 x μ2 H2 st2 r2 e2 rel2 q2 => ?_
  have q3 := Fin_split q2
  refine lift2_use (T := T) (Wx := Wx) (σ := σ) r2 (Rp.stp (a := W) (b := V) st2 rel1) rel2 (Fin.imp (fun vz H3 z => ?_) q3)
  obtain ⟨w4, s4, μ4, st4, r4, rel4, q4⟩ := z
  cases w4 with
  | c n => exact q4.elim
  | sc n => exact q4.elim
  | fd n => exact q4.elim
  | rg n m => exact q4.elim
  | d dz =>
    have rel4 : Fz H3 (Av B μ4 s4) vz dz := rel4
    cases dz with
    | bool k =>
      cases rel4
      refine ⟨k, rfl, ?_⟩
      cases k with
      | false => exact Fin.here (a := W) q4 r4 (Fz.bl false)
      | true =>
        exact tD_bind r4 (e2.stp st4) q4 fun w5 s5 v5 μ5 H5 st5 r5 e5 rel5 q5 => lift2_use r5 (Rp.stp (a := W) (b := V) (st4.trans st5) rel2) rel5 q5
    | _ => exact q4.elim
theorem de_chain {op op' : CmpOp} (ho : DOp X (compareOp op) g) (ho' : DOp X (compareOp op') g') (ha : DE X T Wx a fa) (hb : DE X T Wx b fb) (hc : DE X T Wx c fc) (hm : lastMarks [op, op'] [b, c] = false := by with_unfolding_all rfl) :
    DE X T Wx (.Compare a [op, op'] [b, c] pos) (fChain g g' fa fb fc) := PE_imp (pe_chain ho ho' ha hb hc hm) fun _ _ _ => tChain_use
theorem dt_chain {op op' : CmpOp} (ho : DOp X (compareOp op) g) (ho' : DOp X (compareOp op') g') (ha : DE X T Wx a fa) (hb : DE X T Wx b fb) (hc : DE X T Wx c fc) (hm : lastMarks [op, op'] [b, c] = false := by with_unfolding_all rfl) :
    DT X T Wx (.Compare a [op, op'] [b, c] pos) (fB (fChain g g' fa fb fc)) := PT_imp (pt_chain ho ho' ha hb hc hm) fun σ H Q h => by
  obtain ⟨B, μ, s, ρ, r, e, q⟩ := h
  refine tChain_use ⟨B, μ, s, ρ, r, e, Fin.imp (fun vz H3 z => ?_) (Fin_splitB q)⟩
  obtain ⟨w4, s4, μ4, st4, r4, rel4, q4⟩ := z
  cases w4 with
  | c n => exact q4.elim
  | sc n => exact q4.elim
  | fd n => exact q4.elim
  | rg n m => exact q4.elim
  | d dz =>
    have rel4 : Fz H3 (Av B μ4 s4) vz dz := rel4
    cases dz with
    | bool k =>
      cases rel4
      exact ⟨k, rfl, Fin.here (a := Bool) q4 r4 rfl⟩
    | _ => exact q4.elim
end
end
end
end DL
namespace DL
open PySem PySem.Spec PyProof.Rows L2
section
variable [KFrag]

theorem same_upd {H : Hp} {p : Addr} {o : HO} (h : H p = none) : Same H (upd H p o) := fun b x e => by
  rw [upd_ne (ne_of_none e h)]
  exact e
theorem Fz.newT {H : Hp} {A : Addr → Prop} {p : Addr} {xs : List V} {ds : List D} (bt : Bt H A) (h : H p = none) (f : Fzs H A xs ds) : Fz (upd H p (.tup xs)) A (.ref p) (.tuple ds) :=
  .tup (.inl ⟨upd_same, fun z => bt p z h⟩) (f.same (same_upd h))
theorem Fz.newL {H : Hp} {A : Addr → Prop} {p : Addr} {xs : List V} {ds : List D} (bt : Bt H A) (h : H p = none) (f : Fzs H A xs ds) : Fz (upd H p (.lst xs)) A (.ref p) (.list ds) :=
  .lst ⟨upd_same, fun z => bt p z h⟩ (f.same (same_upd h))

def line : Nat := 16777216
theorem line_eq : sizeLine = line := sizeLine_eq
def tupD (ds : List D) : Option D := if ds.length ≤ line then some (.tuple ds) else none
def lstD (ds : List D) : Option D := if ds.length ≤ line then some (.list ds) else none
section
variable {X : Cx} [HK X] {T : TX} {Wx : WXc} {es : List Expr} {fs : En → CS → R (List W)} {pos : Pos}
theorem de_tup {k} (h : DA X T Wx es fs) : DE X T Wx (.Tuple es k pos) (fN tupD fs) := PE_imp (pe_tup h) fun σ H Q ⟨B, μ, s, ρ, r, e, q⟩ =>
  tD_bind r e q fun w s1 v μ1 H1 st1 r1 e1 rel1 q1 => by
    obtain ⟨A, ds, z, bt, fz, e, q⟩ := liftN_use r1 rel1 q1
    unfold tupD at e
    split at e
    · rename_i hl
      cases e
      exact ⟨by rw [fz.len, line_eq]; exact hl, fun p hp => q _ _ (same_upd hp) (Fz.newT bt hp fz)⟩
    · cases e
theorem de_lst (h : DA X T Wx es fs) : DE X T Wx (.List es pos) (fN lstD fs) := PE_imp (pe_lst h) fun σ H Q ⟨B, μ, s, ρ, r, e, q⟩ =>
  tD_bind r e q fun w s1 v μ1 H1 st1 r1 e1 rel1 q1 => by
    obtain ⟨A, ds, z, bt, fz, e, q⟩ := liftN_use r1 rel1 q1
    unfold lstD at e
    split at e
    · rename_i hl
      cases e
      exact ⟨by rw [fz.len, line_eq]; exact hl, fun p hp => q _ _ (same_upd hp) (Fz.newL bt hp fz)⟩
    · cases e
end

/-! ### arithmetic -/
def addD : D → D → Option D
  | .int i, .int j => some (.int (i + j))
  | .tuple xs, .tuple ys => if xs.length + ys.length ≤ line then some (.tuple (xs ++ ys)) else none
  | .list xs, .list ys => if xs.length + ys.length ≤ line then some (.list (xs ++ ys)) else none
  | _, _ => none
def subD : D → D → Option D
  | .int i, .int j => some (.int (i - j))
  | _, _ => none
def modD : D → D → Option D
  | .int i, .int j => if 0 < j then some (.int (i % j)) else none
  | _, _ => none
def fdivD : D → D → Option D
  | .int i, .int j => if 0 < j ∧ j < 1073741824 then some (.int (i / j)) else none
  | _, _ => none
def negD : D → Option D
  | .int i => some (.int (-i))
  | _ => none
section
variable {X : Cx} [HK X]
theorem dop_add : DOp X (binaryOp .Add) addD := by
  intro pins s σ H x y v u Q I rx ry h
  obtain ⟨A, dx, dy, z, bt, fx, fy, e, q⟩ := h
  cases fx with
  | int i =>
    cases fy with
    | int j => cases e; exact op_add pins s σ H _ _ v u Q I rx ry ⟨i, j, rfl, rfl, q _ _ (Same.refl _) (.int _)⟩
    | _ => cases e
  | @tup a xs ds h1 f1 =>
    cases fy with
    | @tup b ys es h2 f2 =>
      simp only [addD] at e
      split at e
      · rename_i hl
        cases e
        have l1 := f1.len
        have l2 := f2.len
        refine op_catA pins s σ H _ _ v u Q I rx ry ⟨a, b, xs, ys, rfl, rfl, h1.sq, h2.sq, by rw [l1, l2, line_eq]; exact hl, fun e0 => ?_, fun _ e0 => ?_, fun _ _ p hp => q _ _ (same_upd hp) (Fz.newT bt hp (f1.app f2))⟩
        · subst e0
          cases f1
          exact q _ _ (Same.refl _) (.tup h2 f2)
        · subst e0
          cases f2
          rw [List.append_nil] at q
          exact q _ _ (Same.refl _) (.tup h1 f1)
      · cases e
    | _ => cases e
  | @lst a xs ds h1 f1 =>
    cases fy with
    | @lst b ys es h2 f2 =>
      simp only [addD] at e
      split at e
      · rename_i hl
        cases e
        exact op_cat pins s σ H _ _ v u Q I rx ry ⟨a, b, xs, ys, rfl, rfl, h1.1, h2.1, by rw [f1.len, f2.len, line_eq]; exact hl, fun p hp => q _ _ (same_upd hp) (Fz.newL bt hp (f1.app f2))⟩
      · cases e
    | _ => cases e
  | _ => cases fy <;> cases e
theorem dop_sub : DOp X (binaryOp .Sub) subD := by
  intro pins s σ H x y v u Q I rx ry h
  obtain ⟨A, dx, dy, z, bt, fx, fy, e, q⟩ := h
  cases fx with
  | int i =>
    cases fy with
    | int j => cases e; exact op_sub pins s σ H _ _ v u Q I rx ry ⟨i, j, rfl, rfl, q _ _ (Same.refl _) (.int _)⟩
    | _ => cases e
  | _ => cases fy <;> cases e
theorem dop_mod : DOp X (binaryOp .Mod) modD := by
  intro pins s σ H x y v u Q I rx ry h
  obtain ⟨A, dx, dy, z, bt, fx, fy, e, q⟩ := h
  cases fx with
  | int i =>
    cases fy with
    | int j =>
      simp only [modD] at e
      split at e
      · rename_i hl
        cases e
        exact op_mod pins s σ H _ _ v u Q I rx ry ⟨i, j, rfl, rfl, hl, q _ _ (Same.refl _) (.int _)⟩
      · cases e
    | _ => cases e
  | _ => cases fy <;> cases e
theorem dop_fdiv : DOp X (binaryOp .FloorDiv) fdivD := by
  intro pins s σ H x y v u Q I rx ry h
  obtain ⟨A, dx, dy, z, bt, fx, fy, e, q⟩ := h
  cases fx with
  | int i =>
    cases fy with
    | int j =>
      simp only [fdivD] at e
      split at e
      · rename_i hl
        cases e
        exact op_fdiv pins s σ H _ _ v u Q I rx ry ⟨i, j, rfl, rfl, hl, q _ _ (Same.refl _) (.int _)⟩
      · cases e
    | _ => cases e
  | _ => cases fy <;> cases e
theorem de_neg {T : TX} {Wx : WXc} {a : Expr} {f : En → CS → R W} {pos : Pos} (h : DE X T Wx a f) : DE X T Wx (.UnaryOp .USub a pos) (f1 negD f) := PE_imp (pe_un un_neg h) fun σ H Q ⟨B, μ, s, ρ, r, e, q⟩ =>
  tD_bind r e q fun w s1 v μ1 H1 st1 r1 e1 rel1 q1 => by
    obtain ⟨A, dx, z, bt, fx, e, q⟩ := lift1_use r1 rel1 q1
    cases fx with
    | int i => cases e; exact ⟨i, rfl, q _ _ (Same.refl _) (.int _)⟩
    | _ => cases e

/-! ### comparisons -/
def eqD (d e : D) : Option D := if SeqAt.shaped d = true ∧ SeqAt.shaped e = true then some (.bool (eqF 8 d e)) else none
def neD (d e : D) : Option D := if SeqAt.shaped d = true ∧ SeqAt.shaped e = true then some (.bool (!eqF 8 d e)) else none
def cmpD (p : Int → Int → Bool) : D → D → Option D
  | .int i, .int j => some (.bool (p i j))
  | _, _ => none
def ltD : D → D → Option D := cmpD fun i j => decide (i < j)
def leD : D → D → Option D := cmpD fun i j => decide (i ≤ j)
def gtD : D → D → Option D := cmpD fun i j => decide (j < i)
def geD : D → D → Option D := cmpD fun i j => decide (j ≤ i)
theorem dop_eq (hu : X.A.units + 64 < cLine) : DOp X (compareOp .Eq) eqD := by
  intro pins s σ H x y v u Q I rx ry h
  obtain ⟨A, dx, dy, z, bt, fx, fy, e, q⟩ := h
  unfold eqD at e
  rw [eqF_eq] at e
  split at e
  · rename_i hs
    cases e
    exact op_eqD hu pins s σ H _ _ v u Q I rx ry ⟨dx, dy, fx.dp, fy.dp, hs.1, hs.2, q _ _ (Same.refl _) (.bl _)⟩
  · cases e
theorem dop_ne (hu : X.A.units + 64 < cLine) : DOp X (compareOp .NotEq) neD := by
  intro pins s σ H x y v u Q I rx ry h
  obtain ⟨A, dx, dy, z, bt, fx, fy, e, q⟩ := h
  unfold neD at e
  rw [eqF_eq] at e
  split at e
  · rename_i hs
    cases e
    exact op_neD hu pins s σ H _ _ v u Q I rx ry ⟨dx, dy, fx.dp, fy.dp, hs.1, hs.2, q _ _ (Same.refl _) (.bl _)⟩
  · cases e
theorem dop_cmp {op : CmpOp} {p : Int → Int → Bool} (h : OpR X (compareOp op) (rI0 fun i j => .bl (p i j))) : DOp X (compareOp op) (cmpD p) := by
  intro pins s σ H x y v u Q I rx ry h
  obtain ⟨A, dx, dy, z, bt, fx, fy, e, q⟩ := h
  cases fx with
  | int i =>
    cases fy with
    | int j => cases e; exact h pins s σ H _ _ v u Q I rx ry ⟨i, j, rfl, rfl, q _ _ (Same.refl _) (.bl _)⟩
    | _ => cases e
  | _ => cases fy <;> cases e
theorem dop_lt : DOp X (compareOp .Lt) ltD := dop_cmp op_lt
theorem dop_le : DOp X (compareOp .LtE) leD := dop_cmp op_le
theorem dop_gt : DOp X (compareOp .Gt) gtD := dop_cmp op_gt
theorem dop_ge : DOp X (compareOp .GtE) geD := dop_cmp op_ge

/-! ### items -/
def ixD : D → D → Option D
  | .tuple xs, .int i => atI xs i
  | .list xs, .int i => atI xs i
  | _, _ => none
theorem Fzs_atI {H : Hp} {A : Addr → Prop} {xs : List V} {ds : List D} {i : Int} {d : D} (f : Fzs H A xs ds) (e : atI ds i = some d) : ∃ v, atI xs i = some v ∧ Fz H A v d := by
  unfold atI at e ⊢
  rw [f.len]
  cases z : ixN ds.length i with
  | none => rw [z] at e; cases e
  | some j =>
    rw [z] at e
    exact f.get e
theorem dix : IxR X (rD ixD) := by
  intro value slice pins s σ H x y v u Q I rx ry h hs
  obtain ⟨A, dx, dy, z, bt, fx, fy, e, q⟩ := h
  cases fx with
  | @tup a xs ds h1 f1 =>
    cases fy with
    | int j =>
      obtain ⟨v', h3, h4⟩ := Fzs_atI f1 e
      exact ix_tup value slice pins s σ H _ _ v u Q I rx ry ⟨a, xs, j, v', rfl, rfl, h1.sq, h3, q _ _ (Same.refl _) h4⟩ hs
    | _ => cases e
  | @lst a xs ds h1 f1 =>
    cases fy with
    | int j =>
      obtain ⟨v', h3, h4⟩ := Fzs_atI f1 e
      exact ix_list value slice pins s σ H _ _ v u Q I rx ry ⟨a, xs, j, v', rfl, rfl, h1.sq, h3, q _ _ (Same.refl _) h4⟩ hs
    | _ => cases e
  | _ => cases fy <;> cases e
end

/-! ### slices -/
def cutD (xs : List D) (lo hi : Option Int) : List D := (xs.drop (HT.sIx xs.length 0 lo)).take (HT.sIx xs.length xs.length hi - HT.sIx xs.length 0 lo)
def slD (x : D) (lo hi : Option Int) : Option D := match x with
  | .tuple xs => some (.tuple (cutD xs lo hi))
  | .list xs => some (.list (cutD xs lo hi))
  | _ => none
abbrev fO := En → CS → R (Option Int)
def fO0 (_ : En) (s : CS) : R (Option Int) := .ok none s
def toO : W → CS → R (Option Int)
  | .d (.int i), s => .ok (some i) s
  | _, _ => .bad
def fO1 (f : En → CS → R W) (ρ : En) (s : CS) : R (Option Int) := (f ρ s).bind toO
def liftS (w : W) (lo hi : Option Int) (s : CS) : R W := match w with
  | .d x => match slD x lo hi with
    | some z => .ok (.d z) s
    | none => .bad
  | .sc ns => .ok (.d (.list (cutD (ns.map .int) lo hi))) s
  | _ => .bad
def fSl (f : En → CS → R W) (lo hi : fO) (ρ : En) (s : CS) : R W := (f ρ s).bind fun x s => (lo ρ s).bind fun l s => (hi ρ s).bind fun h s => liftS x l h s
theorem Fzs.ints {H : Hp} {A : Addr → Prop} : ∀ (ns : List Int), Fzs H A (ns.map V.int) (ns.map .int)
  | [] => .nil
  | n :: r => .cons (.int n) (Fzs.ints r)
theorem Fzs.cut {H : Hp} {A : Addr → Prop} {xs : List V} {ds : List D} (f : Fzs H A xs ds) (lo hi : Option Int) : Fzs H A (cutV xs lo hi) (cutD ds lo hi) := by
  unfold cutV cutD
  rw [f.len]
  exact (f.drop _).take _
theorem cutD_all {ds : List D} {lo hi : Option Int} (h1 : HT.sIx ds.length 0 lo = 0) (h2 : HT.sIx ds.length ds.length hi = ds.length) : cutD ds lo hi = ds := by
  unfold cutD
  rw [h1, h2, List.drop_zero, Nat.sub_zero, List.take_length]
section
variable {X : Cx} [HK X] {T : TX} {Wx : WXc} {e : Expr} {f : En → CS → R W} {lo hi : Option Expr} {gl gh : fO} {pos p2 : Pos}
abbrev DO (X : Cx) (T : TX) (Wx : WXc) (e : Option Expr) (f : fO) : Prop := PO X e (tD T Wx f)
theorem do_none : DO X T Wx none fO0 := ⟨fun pins s σ H Q I h => by
  obtain ⟨B, μ, t, ρ, r, e, q⟩ := h
  exact (po_none (X := X)).run pins s σ H Q I (Fin.here (a := Option Int) (w := none) q r rfl)⟩
theorem do_some (h : DE X T Wx e f) : DO X T Wx (some e) (fO1 f) := ⟨fun pins s σ H Q I z => by
  refine (po_some h).run pins s σ H Q I ?_
  obtain ⟨B, μ, t, ρ, r, e, q⟩ := z
  refine tD_bind r e q fun w s1 v μ1 H1 st1 r1 e1 rel1 q1 => ?_
  cases w with
  | c n => exact q1.elim
  | sc n => exact q1.elim
  | fd n => exact q1.elim
  | rg n m => exact q1.elim
  | d x =>
    have rel1 : Fz H1 (Av B μ1 s1) v x := rel1
    cases x with
    | int i =>
      cases rel1
      exact ⟨i, rfl, Fin.here (a := Option Int) q1 r1 rfl⟩
    | _ => exact q1.elim⟩
theorem de_slice (hK : X.K = KFrag.K) (h : DE X T Wx e f) (hl : DO X T Wx lo gl) (hu : DO X T Wx hi gh) : DE X T Wx (.Subscript e (.Slice lo hi none p2) pos) (fSl f gl gh) :=
  PE_imp (pe_slice (sl_tupA.or sl_list) h hl hu) fun σ H Q ⟨B, μ, s, ρ, r, e, q⟩ =>
  tD_bind r e q fun w s1 v μ1 H1 st1 r1 e1 rel1 q1 => tD_bind r1 e1 q1 fun l s2 vl μ2 H2 st2 r2 e2 rel2 q2 => tD_bind r2 e2 q2 fun u s3 vu μ3 H3 st3 r3 e3 rel3 q3 => by
    cases rel2
    cases rel3
    have rel := RW.stp (st2.trans st3) rel1
    cases w with
    | c n => exact q3.elim
    | fd n => exact q3.elim
    | rg n m => exact q3.elim
    | sc ns =>
      obtain ⟨a, ev, hs⟩ := rel
      subst ev
      have hs : SqL X.K H3 a (ns.map V.int) := hs.elim (fun ⟨o, ea, _⟩ => .inl (.inr ⟨o, ea⟩)) fun h => .inr (by rw [hK]; exact h)
      refine .inr ⟨a, ns.map V.int, rfl, hs, fun p hp => ?_⟩
      exact Fin.use (a := W) q3 (same_upd hp) r3 (Fz.newL r3.bt' hp ((Fzs.ints ns).cut _ _))
    | d x =>
      have rel : Fz H3 (Av B μ3 s3) v x := rel
      cases rel with
      | @tup a xs ds h1 f1 =>
        refine .inl ⟨a, xs, rfl, h1.sq, fun z => ?_, fun _ p hp => ?_⟩
        · have e : cutD ds l u = ds := cutD_all (by rw [← f1.len]; exact z.1) (by rw [← f1.len]; exact z.2)
          refine Fin.here (a := W) q3 r3 ?_
          show Fz H3 _ _ (.tuple (cutD ds l u))
          rw [e]
          exact .tup h1 f1
        · exact Fin.use (a := W) q3 (same_upd hp) r3 (Fz.newT r3.bt' hp (f1.cut _ _))
      | @lst a xs ds h1 f1 =>
        exact .inr ⟨a, xs, rfl, h1.sq, fun p hp => Fin.use (a := W) q3 (same_upd hp) r3 (Fz.newL r3.bt' hp (f1.cut _ _))⟩
      | _ => exact q3.elim

/-! ### calls of built-ins -/
variable {es : List Expr} {fs : En → CS → R (List W)} {x : Str} {p : Pos}
abbrev DCall (X : Cx) (f : Value) (g : List D → Option D) : Prop := CallR X f (rDs g)
theorem tN_use {g : List D → Option D} {σ : L2.St} {H : Hp} {Q : VK} (h : tD T Wx (fN g fs) σ H Q) : tCB (rDs g) (tD T Wx fs) σ H Q := by
  obtain ⟨B, μ, s, ρ, r, e, q⟩ := h
  exact tD_bind r e q fun w s1 v μ1 H1 st1 r1 e1 rel1 q1 => liftN_use r1 rel1 q1
theorem de_callB {id : String} {g : List D → Option D} (hc : DCall X (.builtin id) g) (hg : Gl X x) (hm : X.mg x = none) (hv : bootBuiltins x = some (.builtin id)) (ha : DA X T Wx (e :: es) fs) (hn : x ≠ "__name__" := by decide) (hdb : (x == ("__debug__" : Str)) = false := by decide)
    (he : starEach (e :: es) X.env = (false, eval e X.env) :: starEach es X.env := by rfl) (hpl : (backTo pos (starEach es X.env)).any (·.1) = false := by rfl) : DE X T Wx (.Call (.Name x p) (e :: es) [] pos) (fN g fs) :=
  PE_imp (pe_callB hc hg hm hv ha hn hdb he hpl) fun _ _ _ => tN_use
theorem de_callTy {id : String} {g : List D → Option D} (hc : DCall X (.type id) g) (hg : Gl X x) (hm : X.mg x = none) (hv : bootBuiltins x = some (.type id)) (ha : DA X T Wx (e :: es) fs) (hn : x ≠ "__name__" := by decide) (hdb : (x == ("__debug__" : Str)) = false := by decide)
    (he : starEach (e :: es) X.env = (false, eval e X.env) :: starEach es X.env := by rfl) (hpl : (backTo pos (starEach es X.env)).any (·.1) = false := by rfl) : DE X T Wx (.Call (.Name x p) (e :: es) [] pos) (fN g fs) :=
  PE_imp (pe_callTy hc hg hm hv ha hn hdb he hpl) fun _ _ _ => tN_use

def lenD : List D → Option D
  | [.tuple xs] => some (.int xs.length)
  | [.list xs] => some (.int xs.length)
  | _ => none
def max2D : List D → Option D
  | [.int i, .int j] => some (.int (if j > i then j else i))
  | _ => none
def min2D : List D → Option D
  | [.int i, .int j] => some (.int (if j < i then j else i))
  | _ => none
def absD : List D → Option D
  | [.int i] => some (.int (if i < 0 then -i else i))
  | _ => none
def intD : List D → Option D
  | [.int i] => some (.int i)
  | [.bool k] => some (.int (if k then 1 else 0))
  | _ => none
def tupleD : List D → Option D
  | [.list xs] => some (.tuple xs)
  | [.tuple xs] => some (.tuple xs)
  | _ => none
def listD : List D → Option D
  | [.list xs] => some (.list xs)
  | [.tuple xs] => some (.list xs)
  | _ => none
def boolsD : List D → Option (List Bool)
  | [] => some []
  | .bool b :: r => (boolsD r).map (b :: ·)
  | _ :: _ => none
def allBD : List D → Option D
  | [.list xs] => (boolsD xs).map fun bs => .bool (bs.all id)
  | _ => none
theorem bools_fz {H : Hp} {A : Addr → Prop} : ∀ {xs : List V} {ds : List D} {bs : List Bool}, Fzs H A xs ds → boolsD ds = some bs → xs = bs.map V.bl
  | _, _, _, .nil, e => by cases e; rfl
  | _, d :: ds, bs, .cons h t, e => by
    cases d with
    | bool b =>
      cases h
      unfold boolsD at e
      cases z : boolsD ds with
      | none => rw [z] at e; cases e
      | some l =>
        rw [z] at e
        cases e
        rw [bools_fz t z]
        rfl
    | _ => cases e
theorem dc_len : DCall X (.builtin "len") lenD := by
  intro pins s σ H xs us Q I r h
  obtain ⟨A, ds, z, bt, fz, e, q⟩ := h
  cases fz with
  | nil => cases e
  | cons h1 t =>
    cases t with
    | cons _ _ => cases h1 <;> cases e
    | nil =>
      cases h1 with
      | @tup a ys ds h1 f1 => cases e; exact call_len_seq pins s σ H _ us Q I r ⟨a, ys, rfl, .inr h1.sq, by rw [f1.len]; exact q _ _ (Same.refl _) (.int _)⟩
      | @lst a ys ds h1 f1 => cases e; exact call_len_seq pins s σ H _ us Q I r ⟨a, ys, rfl, .inl h1.sq, by rw [f1.len]; exact q _ _ (Same.refl _) (.int _)⟩
      | _ => cases e
theorem dc_max2 (hc : X.calm = true) : DCall X (.builtin "max") max2D := by
  intro pins s σ H xs us Q I r h
  obtain ⟨A, ds, z, bt, fz, e, q⟩ := h
  cases fz with
  | nil => cases e
  | cons h1 t =>
    cases t with
    | nil => cases h1 <;> cases e
    | cons h2 t =>
      cases t with
      | cons _ _ => cases h1 <;> cases h2 <;> cases e
      | nil =>
        cases h1 with
        | int i =>
          cases h2 with
          | int j => cases e; exact call_max2 hc pins s σ H _ us Q I r ⟨i, j, rfl, q _ _ (Same.refl _) (.int _)⟩
          | _ => cases e
        | _ => cases h2 <;> cases e
theorem dc_min2 (hc : X.calm = true) : DCall X (.builtin "min") min2D := by
  intro pins s σ H xs us Q I r h
  obtain ⟨A, ds, z, bt, fz, e, q⟩ := h
  cases fz with
  | nil => cases e
  | cons h1 t =>
    cases t with
    | nil => cases h1 <;> cases e
    | cons h2 t =>
      cases t with
      | cons _ _ => cases h1 <;> cases h2 <;> cases e
      | nil =>
        cases h1 with
        | int i =>
          cases h2 with
          | int j => cases e; exact call_min2 hc pins s σ H _ us Q I r ⟨i, j, rfl, q _ _ (Same.refl _) (.int _)⟩
          | _ => cases e
        | _ => cases h2 <;> cases e
theorem dc_abs : DCall X (.builtin "abs") absD := by
  intro pins s σ H xs us Q I r h
  obtain ⟨A, ds, z, bt, fz, e, q⟩ := h
  cases fz with
  | nil => cases e
  | cons h1 t =>
    cases t with
    | cons _ _ => cases h1 <;> cases e
    | nil =>
      cases h1 with
      | int i => cases e; exact call_abs pins s σ H _ us Q I r ⟨i, rfl, q _ _ (Same.refl _) (.int _)⟩
      | _ => cases e
theorem dc_int : DCall X (.type "int") intD := by
  intro pins s σ H xs us Q I r h
  obtain ⟨A, ds, z, bt, fz, e, q⟩ := h
  cases fz with
  | nil => cases e
  | cons h1 t =>
    cases t with
    | cons _ _ => cases h1 <;> cases e
    | nil =>
      cases h1 with
      | int i => cases e; exact call_int1 pins s σ H _ us Q I r (.inl ⟨i, rfl, q _ _ (Same.refl _) (.int _)⟩)
      | bl i => cases e; exact call_int1 pins s σ H _ us Q I r (.inr ⟨i, rfl, q _ _ (Same.refl _) (.int _)⟩)
      | _ => cases e
theorem dc_tuple : DCall X (.type "tuple") tupleD := by
  intro pins s σ H xs us Q I r h
  obtain ⟨A, ds, z, bt, fz, e, q⟩ := h
  cases fz with
  | nil => cases e
  | cons h1 t =>
    cases t with
    | cons _ _ => cases h1 <;> cases e
    | nil =>
      cases h1 with
      | @tup a ys ds h1 f1 => cases e; exact call_tuple_of pins s σ H _ us Q I r ⟨a, ys, rfl, .inr ⟨h1.sq, q _ _ (Same.refl _) (.tup h1 f1)⟩⟩
      | @lst a ys ds h1 f1 => cases e; exact call_tuple_of pins s σ H _ us Q I r ⟨a, ys, rfl, .inl ⟨h1.sq, fun l hl => q _ _ (same_upd hl) (Fz.newT bt hl f1)⟩⟩
      | _ => cases e
theorem dc_list : DCall X (.type "list") listD := by
  intro pins s σ H xs us Q I r h
  obtain ⟨A, ds, z, bt, fz, e, q⟩ := h
  cases fz with
  | nil => cases e
  | cons h1 t =>
    cases t with
    | cons _ _ => cases h1 <;> cases e
    | nil =>
      cases h1 with
      | @tup a ys ds h1 f1 => cases e; exact call_list_of pins s σ H _ us Q I r ⟨a, ys, rfl, .inr h1.sq, fun l hl => q _ _ (same_upd hl) (Fz.newL bt hl f1)⟩
      | @lst a ys ds h1 f1 => cases e; exact call_list_of pins s σ H _ us Q I r ⟨a, ys, rfl, .inl h1.sq, fun l hl => q _ _ (same_upd hl) (Fz.newL bt hl f1)⟩
      | _ => cases e
theorem dc_all (hc : X.calm = true) : DCall X (.builtin "all") allBD := by
  intro pins s σ H xs us Q I r h
  obtain ⟨A, ds, z, bt, fz, e, q⟩ := h
  cases fz with
  | nil => cases e
  | cons h1 t =>
    cases t with
    | cons _ _ => cases h1 <;> cases e
    | nil =>
      cases h1 with
      | @lst a ys ds h1 f1 =>
        simp only [allBD] at e
        cases zb : boolsD ds with
        | none => rw [zb] at e; cases e
        | some bs =>
          rw [zb] at e
          cases e
          refine cr_all hc pins s σ H _ us Q I r ⟨a, bs, rfl, ?_, q _ _ (Same.refl _) (.bl _)⟩
          rw [← bools_fz f1 zb]
          exact h1.sq
      | _ => cases e
/-! isinstance(x, T), T a built-in type -/
def tyN : D → String
  | .none => "NoneType" | .bool _ => "bool" | .int _ => "int" | .str _ => "str" | .list _ => "list" | .tuple _ => "tuple" | .dict _ => "dict"
/-- the table of a class among the types of data -/
structure IsiT (c : String) (g : D → Bool) : Prop where
  at_ : ∀ d, (∀ k, d ≠ .dict k) → kitB (tyN d) c = some (g d)
def isiD (g : D → Bool) (d : D) : Option D := some (.bool (g d))
theorem Fz.ty {X : Cx} [hX : HK X] {H : Hp} {A : Addr → Prop} {v : V} {d : D} (f : Fz H A v d) : TyX X.K H v (.type (tyN d)) := by
  cases f with
  | non => exact .base .non
  | bl b => exact .base (.bl b)
  | int i => exact .base (.int i)
  | str x => exact .base (.str x)
  | lst h _ => exact .base (.lst h.1)
  | tup h _ =>
    rcases h with h | ⟨o, its, n, h, c, _⟩
    · exact .base (.tup h.1)
    · exact .kTuple (o := o) (by rw [hX.eq]; exact h) c
theorem Fz.noD {H : Hp} {A : Addr → Prop} {v : V} {d : D} (f : Fz H A v d) : ∀ k, d ≠ .dict k := by
  cases f <;> (intro k z; cases z)
theorem de_isi {c : String} {cx : Str} {g : D → Bool} {pc : Pos} (t : IsiT c g) (hg : Gl X "isinstance") (hm : X.mg "isinstance" = none) (hgc : Gl X cx) (hmc : X.mg cx = none) (hvc : bootBuiltins cx = some (.type c)) (ha : DE X T Wx e f) (hnc : cx ≠ "__name__" := by decide) (hdc : (cx == ("__debug__" : Str)) = false := by decide)
    (hs1 : starEach [e, .Name cx pc] X.env = (false, eval e X.env) :: starEach [.Name cx pc] X.env := by rfl) (hs2 : starEach [.Name cx pc] X.env = (false, eval (.Name cx pc) X.env) :: starEach [] X.env := by rfl) (hpl : (backTo pos (starEach [.Name cx pc] X.env)).any (·.1) = false := by rfl) :
    DE X T Wx (.Call (.Name "isinstance" p) [e, .Name cx pc] [] pos) (f1 (isiD g) f) :=
  PE_imp (pe_callB call_isi hg hm PyProof.Rows.boot_isinstance (pa_cons ha (pa_cons (pe_bltn hgc hmc hvc (v := .ty c) rfl hnc hdc) pa_nil hs2) hs1) (he := hs1) (hpl := hpl)) fun σ H Q ⟨B, μ, s, ρ, r, e, q⟩ =>
  tD_bind r e q fun w s1 v μ1 H1 st1 r1 e1 rel1 q1 => by
    obtain ⟨A, dx, z, bt, fx, e, q⟩ := lift1_use r1 rel1 q1
    cases e
    exact ⟨v, .ty c, .type (tyN dx), .type c, g dx, rfl, .ty c, fx.ty, kit_ty (t.at_ dx fx.noD), q _ _ (Same.refl _) (.bl _)⟩
def isInt : D → Bool
  | .int _ => true | .bool _ => true | _ => false
def isBool : D → Bool
  | .bool _ => true | _ => false
def isTuple : D → Bool
  | .tuple _ => true | _ => false
def isList : D → Bool
  | .list _ => true | _ => false
def isStr : D → Bool
  | .str _ => true | _ => false
theorem isi_int : IsiT "int" isInt := ⟨fun d h => match d with
  | .none => (show kitB "NoneType" "int" = some false by decide +kernel)
  | .bool _ => (show kitB "bool" "int" = some true by decide +kernel)
  | .int _ => (show kitB "int" "int" = some true by decide +kernel)
  | .str _ => (show kitB "str" "int" = some false by decide +kernel)
  | .list _ => (show kitB "list" "int" = some false by decide +kernel)
  | .tuple _ => (show kitB "tuple" "int" = some false by decide +kernel)
  | .dict k => absurd rfl (h k)⟩
theorem isi_bool : IsiT "bool" isBool := ⟨fun d h => match d with
  | .none => (show kitB "NoneType" "bool" = some false by decide +kernel)
  | .bool _ => (show kitB "bool" "bool" = some true by decide +kernel)
  | .int _ => (show kitB "int" "bool" = some false by decide +kernel)
  | .str _ => (show kitB "str" "bool" = some false by decide +kernel)
  | .list _ => (show kitB "list" "bool" = some false by decide +kernel)
  | .tuple _ => (show kitB "tuple" "bool" = some false by decide +kernel)
  | .dict k => absurd rfl (h k)⟩
theorem isi_tuple : IsiT "tuple" isTuple := ⟨fun d h => match d with
  | .none => (show kitB "NoneType" "tuple" = some false by decide +kernel)
  | .bool _ => (show kitB "bool" "tuple" = some false by decide +kernel)
  | .int _ => (show kitB "int" "tuple" = some false by decide +kernel)
  | .str _ => (show kitB "str" "tuple" = some false by decide +kernel)
  | .list _ => (show kitB "list" "tuple" = some false by decide +kernel)
  | .tuple _ => (show kitB "tuple" "tuple" = some true by decide +kernel)
  | .dict k => absurd rfl (h k)⟩
theorem isi_list : IsiT "list" isList := ⟨fun d h => match d with
  | .none => (show kitB "NoneType" "list" = some false by decide +kernel)
  | .bool _ => (show kitB "bool" "list" = some false by decide +kernel)
  | .int _ => (show kitB "int" "list" = some false by decide +kernel)
  | .str _ => (show kitB "str" "list" = some false by decide +kernel)
  | .list _ => (show kitB "list" "list" = some true by decide +kernel)
  | .tuple _ => (show kitB "tuple" "list" = some false by decide +kernel)
  | .dict k => absurd rfl (h k)⟩
theorem isi_str : IsiT "str" isStr := ⟨fun d h => match d with
  | .none => (show kitB "NoneType" "str" = some false by decide +kernel)
  | .bool _ => (show kitB "bool" "str" = some false by decide +kernel)
  | .int _ => (show kitB "int" "str" = some false by decide +kernel)
  | .str _ => (show kitB "str" "str" = some true by decide +kernel)
  | .list _ => (show kitB "list" "str" = some false by decide +kernel)
  | .tuple _ => (show kitB "tuple" "str" = some false by decide +kernel)
  | .dict k => absurd rfl (h k)⟩
end
end
end DL
namespace DL
open PySem PySem.Spec PyProof.Rows L2
section
variable [KFrag]

/-! ### targets -/
def tG (is : List Nat) (h : W → En → Option En) : TG := fun v σ H Q => ∃ B μ s ρ w ρ', SR B μ s H ∧ ER B μ s H σ ρ ∧ RW B μ s H v w ∧ h w ρ = some ρ' ∧ ∀ σ', ER B μ s H σ' ρ' → σ'.length = σ.length → (∀ i, i ∉ is → σ'[i]? = σ[i]?) → Q σ' H
def tGs (is : List Nat) (h : List D → En → Option En) : TGs := fun vs σ H Q => ∃ B μ s ρ ds ρ', SR B μ s H ∧ ER B μ s H σ ρ ∧ Fzs H (Av B μ s) vs ds ∧ h ds ρ = some ρ' ∧ ∀ σ', ER B μ s H σ' ρ' → σ'.length = σ.length → (∀ i, i ∉ is → σ'[i]? = σ[i]?) → Q σ' H
abbrev DG (X : Cx) (e : Expr) (is : List Nat) (h : W → En → Option En) : Prop := PG X e (tG is h)
abbrev DGs (X : Cx) (e : List Expr) (is : List Nat) (h : List D → En → Option En) : Prop := PGs X e (tGs is h)
theorem PG_imp {X : Cx} {e : Expr} {t t' : TG} (h : PG X e t) (k : ∀ v σ H Q, t' v σ H Q → t v σ H Q) : PG X e t' := ⟨fun pins s σ H v u Q I r z => h.run pins s σ H v u Q I r (k _ _ _ _ z)⟩
theorem PGs_imp {X : Cx} {e : List Expr} {t t' : TGs} (h : PGs X e t) (k : ∀ v σ H Q, t' v σ H Q → t v σ H Q) : PGs X e t' := ⟨fun pins s σ H v u Q I r z => h.run pins s σ H v u Q I r (k _ _ _ _ z)⟩
def hN (i : Nat) (w : W) (ρ : En) : Option En := some (ρ.set i (some w))
def hsN (ds : List D) (ρ : En) : Option En := match ds with
  | [] => some ρ
  | _ => none
def hsC (h : W → En → Option En) (k : List D → En → Option En) (ds : List D) (ρ : En) : Option En := match ds with
  | [] => none
  | x :: r => match h (.d x) ρ with
    | some ρ1 => k r ρ1
    | none => none
def hT (n : Nat) (k : List D → En → Option En) (w : W) (ρ : En) : Option En := match w with
  | .d (.tuple ds) => if ds.length = n then k ds ρ else none
  | _ => none
section
variable {X : Cx} [HK X]
theorem dg_name {i : Nat} {x : Str} {pos : Pos} (h : PG X (.Name x pos) (gName i)) : DG X (.Name x pos) [i] (hN i) := PG_imp h fun v σ H Q ⟨B, μ, s, ρ, w, ρ', r, e, rel, z, q⟩ => by
  cases z
  refine q _ (e.set rel i) (by rw [List.length_set]) fun j hj => ?_
  rw [List.getElem?_set_ne (fun z => hj (by rw [z]; exact List.mem_singleton_self _))]
theorem dgs_nil : DGs X [] [] hsN := PGs_imp pgs_nil fun v σ H Q ⟨B, μ, s, ρ, ds, ρ', r, e, f, z, q⟩ => by
  cases f with
  | nil => cases z; exact ⟨rfl, q σ e rfl fun _ _ => rfl⟩
  | cons _ _ => cases z
theorem dgs_cons {e : Expr} {es : List Expr} {is js : List Nat} {h : W → En → Option En} {k : List D → En → Option En} (h1 : DG X e is h) (h2 : DGs X es js k)
    (ho : PGs X (e :: es) (gCons (tG is h) (tGs js k))) : DGs X (e :: es) (is ++ js) (hsC h k) := PGs_imp ho fun v σ H Q ⟨B, μ, s, ρ, ds, ρ', r, e, f, z, q⟩ => by
  cases f with
  | nil => cases z
  | @cons v vs d ds f1 f2 =>
    unfold hsC at z
    cases y : h (.d d) ρ with
    | none => simp only [y] at z; cases z
    | some ρ1 =>
      simp only [y] at z
      refine ⟨v, vs, rfl, B, μ, s, ρ, .d d, ρ1, r, e, f1, y, fun σ1 e1 l1 a1 => ?_⟩
      exact ⟨B, μ, s, ρ1, ds, ρ', r, e1, f2, z, fun σ2 e2 l2 a2 => q σ2 e2 (l2.trans l1) fun i hi => (a2 i fun m => hi (List.mem_append_right _ m)).trans (a1 i fun m => hi (List.mem_append_left _ m))⟩
theorem dg_tup {es : List Expr} {k : Nat} {pos : Pos} {n : Nat} {is : List Nat} {h : List D → En → Option En} (ho : PG X (.Tuple es k pos) (gTup X.K n (tGs is h))) : DG X (.Tuple es k pos) is (hT n h) := PG_imp ho fun v σ H Q ⟨B, μ, s, ρ, w, ρ', r, e, rel, z, q⟩ => by
  unfold hT at z
  split at z
  · rename_i ds
    split at z
    · rename_i hl
      have rel : Fz H (Av B μ s) v (.tuple ds) := rel
      cases rel with
      | @tup a xs _ h1 f1 => exact ⟨a, xs, rfl, h1.sq, f1.len.trans hl, B, μ, s, ρ, ds, ρ', r, e, f1, z, q⟩
    · cases z
  · cases z
end

/-! ### what is walked -/
/-- an iterator that stands for a list of data -/
structure ItR (B : Addr → Prop) (μ : List Addr) (s : CS) (H : Hp) (J : It) (ds : List D) : Prop where
  ex : ∃ G Y, Walk J ds.length G Y ∧ (∀ H' A', Kp H H' (Av B μ s) A' → Bt H' A' → G H') ∧
    ∀ i H' A' v H'', Kp H H' (Av B μ s) A' → Bt H' A' → i < ds.length → Y i H' v H'' → Same H' H'' ∧ ∃ d, ds[i]? = some d ∧ Fz H'' A' v d
theorem Kp.trans {H H' H'' : Hp} {A A' A'' : Addr → Prop} (a : Kp H H' A A') (b : Kp H' H'' A' A'') : Kp H H'' A A'' :=
  ⟨fun x o e n => b.keep x o (a.keep x o e n) (a.new x o e n), fun x o e n => b.new x o (a.keep x o e n) (a.new x o e n)⟩
theorem ItR.stp {B : Addr → Prop} {μ μ' : List Addr} {s s' : CS} {H H' : Hp} {J : It} {ds : List D} (a : Stp μ s H μ' s' H') (h : ItR B μ s H J ds) : ItR B μ' s' H' J ds := by
  obtain ⟨G, Y, w, g, y⟩ := h.ex
  exact ⟨G, Y, w, fun h A k bt => g h A (a.kp.trans k) bt, fun i h A v h2 k bt => y i h A v h2 (a.kp.trans k) bt⟩
instance : Rp (List D) It := ⟨ItR, fun a h => h.stp a⟩
abbrev DI (X : Cx) (T : TX) (Wx : WXc) (tg iter : Expr) (f : En → CS → R (List D)) : Prop := PI X tg iter (tD T Wx f)
theorem PI_imp {X : Cx} {tg e : Expr} {t t' : TI} (h : PI X tg e t) (k : ∀ σ H Q, t' σ H Q → t σ H Q) : PI X tg e t' := ⟨fun pins s σ H Q I z => h.run pins s σ H Q I (k _ _ _ z)⟩
theorem itr_list {K : PySem.W.Frag} {B : Addr → Prop} {μ : List Addr} {s : CS} {H : Hp} {a : Addr} {xs : List V} {ds : List D} (h : FL H (Av B μ s) a xs) (f : Fzs H (Av B μ s) xs ds) : ItR B μ s H (Itl K a) ds := by
  refine ⟨fun H => SqL K H a xs, YAt xs, ?_, fun H' A' k bt => ?_, fun i H' A' v H'' k bt hi y => ?_⟩
  · rw [← f.len]; exact walk_list
  · exact .of (k.keep _ _ h.1 h.2)
  · obtain ⟨rfl, e⟩ := y
    obtain ⟨d, e1, e2⟩ := (f.kp k).getV e
    exact ⟨Same.refl _, d, e1, e2⟩
theorem itr_tup {X : Cx} [HK X] {B : Addr → Prop} {μ : List Addr} {s : CS} {H : Hp} {a : Addr} {xs : List V} {ds : List D} (h : FT H (Av B μ s) a xs) (f : Fzs H (Av B μ s) xs ds) : ItR B μ s H (Itt X.K a) ds := by
  refine ⟨fun H => SqT X.K H a xs, YAt xs, ?_, fun H' A' k bt => ?_, fun i H' A' v H'' k bt hi y => ?_⟩
  · rw [← f.len]; exact walk_tup
  · exact (h.kp k.keep k.new).sq
  · obtain ⟨rfl, e⟩ := y
    obtain ⟨d, e1, e2⟩ := (f.kp k).getV e
    exact ⟨Same.refl _, d, e1, e2⟩
def rngD (lo : Int) (n : Nat) : List D := (List.range n).map fun i => .int (lo + (i : Nat))
theorem itr_rng {B : Addr → Prop} {μ : List Addr} {s : CS} {H : Hp} {lo : Int} {n : Nat} : ItR B μ s H (Itr lo n) (rngD lo n) := by
  have hl : (rngD lo n).length = n := by simp [rngD]
  refine ⟨fun _ => True, YFn fun i => .int (lo + i), by rw [hl]; exact walk_range, fun _ _ _ _ => trivial, fun i H' A' v H'' k bt hi y => ?_⟩
  obtain ⟨rfl, rfl⟩ := y
  refine ⟨Same.refl _, .int (lo + i), ?_, .int _⟩
  rw [hl] at hi
  simp [rngD, hi]
def seqD : W → CS → R (List D)
  | .d (.tuple ds), s => .ok ds s
  | .d (.list ds), s => .ok ds s
  | .sc ns, s => .ok (ns.map .int) s
  | _, _ => .bad
def listW : W → CS → R (List D)
  | .d (.list ds), s => .ok ds s
  | _, _ => .bad
def tupW : W → CS → R (List D)
  | .d (.tuple ds), s => .ok ds s
  | _, _ => .bad
def fItL (f : En → CS → R W) (ρ : En) (s : CS) : R (List D) := (f ρ s).bind listW
def fItT (f : En → CS → R W) (ρ : En) (s : CS) : R (List D) := (f ρ s).bind tupW
def fRng1 (f : En → CS → R W) (ρ : En) (s : CS) : R (List D) := (f ρ s).bind fun w s => match w with
  | .d (.int j) => if -(2 ^ 62) ≤ j ∧ j < 2 ^ 62 then .ok (rngD 0 j.toNat) s else .bad
  | _ => .bad
def fRng2 (f g : En → CS → R W) (ρ : En) (s : CS) : R (List D) := (f ρ s).bind fun w s => (g ρ s).bind fun u s => match w, u with
  | .d (.int i), .d (.int j) => if -(2 ^ 62) ≤ i ∧ i < 2 ^ 62 ∧ -(2 ^ 62) ≤ j ∧ j < 2 ^ 62 then .ok (rngD i (j - i).toNat) s else .bad
  | _, _ => .bad
section
variable {X : Cx} [HK X] {T : TX} {Wx : WXc} {tg e e2 : Expr} {f g : En → CS → R W} {p pos : Pos}
theorem di_list (h : DE X T Wx e f) : DI X T Wx tg e (fItL f) := PI_imp (pi_list h) fun σ H Q ⟨B, μ, s, ρ, r, e, q⟩ =>
  tD_bind r e q fun w s1 v μ1 H1 st1 r1 e1 rel1 q1 => by
    unfold listW at q1
    split at q1
    · rename_i ds
      have rel1 : Fz H1 (Av B μ1 s1) v (.list ds) := rel1
      cases rel1 with
      | @lst a xs _ h1 f1 => exact ⟨a, rfl, ⟨xs, h1.sq⟩, Fin.here (a := List D) q1 r1 (itr_list h1 f1)⟩
    · exact q1.elim
theorem di_tup (h : DE X T Wx e f) : DI X T Wx tg e (fItT f) := PI_imp (pi_tup h) fun σ H Q ⟨B, μ, s, ρ, r, e, q⟩ =>
  tD_bind r e q fun w s1 v μ1 H1 st1 r1 e1 rel1 q1 => by
    unfold tupW at q1
    split at q1
    · rename_i ds
      have rel1 : Fz H1 (Av B μ1 s1) v (.tuple ds) := rel1
      cases rel1 with
      | @tup a xs _ h1 f1 => exact ⟨a, rfl, ⟨xs, h1.sq⟩, Fin.here (a := List D) q1 r1 (itr_tup h1 f1)⟩
    · exact q1.elim
theorem di_rng1 (hg : Gl X "range") (hm : X.mg "range" = none) (h : DE X T Wx e f) (hs : starEach [e] X.env = [(false, eval e X.env)] := by rfl) : DI X T Wx tg (.Call (.Name "range" p) [e] [] pos) (fRng1 f) :=
  PI_imp (pi_range1 hg hm (pa_cons h pa_nil (by rw [hs] <;> rfl)) hs) fun σ H Q ⟨B, μ, s, ρ, r, e, q⟩ =>
  tD_bind r e q fun w s1 v μ1 H1 st1 r1 e1 rel1 q1 => by
    split at q1
    · rename_i j
      split at q1
      · rename_i hj
        have rel1 : Fz H1 (Av B μ1 s1) v (.int j) := rel1
        cases rel1
        exact ⟨j, rfl, hj.1, hj.2, Fin.here (a := List D) q1 r1 itr_rng⟩
      · exact q1.elim
    · exact q1.elim
theorem di_rng2 (hg : Gl X "range") (hm : X.mg "range" = none) (h : DE X T Wx e f) (k : DE X T Wx e2 g) (hs : starEach [e, e2] X.env = [(false, eval e X.env), (false, eval e2 X.env)] := by rfl) (hs2 : starEach [e2] X.env = [(false, eval e2 X.env)] := by rfl) :
    DI X T Wx tg (.Call (.Name "range" p) [e, e2] [] pos) (fRng2 f g) :=
  PI_imp (pi_range2 hg hm (pa_cons h (pa_cons k pa_nil (by rw [hs2] <;> rfl)) (by rw [hs, hs2])) hs hs2) fun σ H Q ⟨B, μ, s, ρ, r, e, q⟩ =>
  tD_bind r e q fun w s1 v μ1 H1 st1 r1 e1 rel1 q1 => tD_bind r1 e1 q1 fun u s2 v2 μ2 H2 st2 r2 e2 rel2 q2 => by
    split at q2
    · rename_i i j
      split at q2
      · rename_i hj
        have rel1 : Fz H1 (Av B μ1 s1) v (.int i) := rel1
        have rel2 : Fz H2 (Av B μ2 s2) v2 (.int j) := rel2
        cases rel1
        cases rel2
        exact ⟨i, j, rfl, hj, Fin.here (a := List D) q2 r2 itr_rng⟩
      · exact q2.elim
    · exact q2.elim
end

/-! ### statements -/
inductive RT where
  | nx (ρ : En) (s : CS) | rt (w : W) (s : CS) | bk (ρ : En) (s : CS) | ct (ρ : En) (s : CS) | exc (e : Exn) (ρ : En) (s : CS) | bad
def FinT (T : TX) (Wx : WXc) (B : Addr → Prop) (μ : List Addr) (s : CS) (H : Hp) (D : Ends) : RT → Prop
  | .nx ρ' s' => ∀ σ' μ' H', Stp μ s H μ' s' H' → SR B μ' s' H' → ER B μ' s' H' σ' ρ' → D.nx σ' H'
  | .rt w s' => ∀ v μ' H', Stp μ s H μ' s' H' → SR B μ' s' H' → RW B μ' s' H' v w → D.rt v H'
  | .bk ρ' s' => ∀ σ' μ' H', Stp μ s H μ' s' H' → SR B μ' s' H' → ER B μ' s' H' σ' ρ' → D.bk σ' H'
  | .ct ρ' s' => ∀ σ' μ' H', Stp μ s H μ' s' H' → SR B μ' s' H' → ER B μ' s' H' σ' ρ' → D.ct σ' H'
  | .exc e ρ' s' => ∀ σ' μ' H' c d, Stp μ s H μ' s' H' → SR B μ' s' H' → ER B μ' s' H' σ' ρ' → ExV T (Av B μ' s') H' e c d → Wx c d σ' H'
  | .bad => False
def tT (T : TX) (Wx : WXc) (g : En → CS → RT) : TS := fun D σ H => ∃ B μ s ρ, SR B μ s H ∧ ER B μ s H σ ρ ∧ FinT T Wx B μ s H D (g ρ s)
abbrev DS (X : Cx) (T : TX) (Wx : WXc) (e : Stmt) (g : En → CS → RT) : Prop := PS X e (tT T Wx g)
abbrev DSs (X : Cx) (T : TX) (Wx : WXc) (e : List Stmt) (g : En → CS → RT) : Prop := PSs X e (tT T Wx g)
/-- an expression's end, as a statement's -/
def R.toT {a : Type} (r : R a) (ρ : En) (k : a → CS → RT) : RT := match r with
  | .ok x s => k x s
  | .exc e s => .exc e ρ s
  | .bad => .bad
section
variable {a b : Type} [Rp a b] {T : TX} {Wx : WXc} {B : Addr → Prop} {μ μ' : List Addr} {s s' : CS} {H H' : Hp} {σ : L2.St} {ρ : En} {D : Ends}
theorem FinT.stp (st : Stp μ s H μ' s' H') {r : RT} (h : FinT T Wx B μ s H D r) : FinT T Wx B μ' s' H' D r := by
  cases r with
  | nx ρ t => exact fun v m h1 b c d => h v m h1 (st.trans b) c d
  | rt w t => exact fun v m h1 b c d => h v m h1 (st.trans b) c d
  | bk ρ t => exact fun v m h1 b c d => h v m h1 (st.trans b) c d
  | ct ρ t => exact fun v m h1 b c d => h v m h1 (st.trans b) c d
  | exc e ρ t => exact fun v m h1 c d b x y z => h v m h1 c d (st.trans b) x y z
  | bad => exact h
theorem tD_bindT {f : En → CS → R a} {g : a → CS → RT} {k : b → Hp → Prop} (r : SR B μ s H) (e : ER B μ s H σ ρ) (q : FinT T Wx B μ s H D ((f ρ s).toT ρ g))
    (h : ∀ w s1 v μ1 H1, Stp μ s H μ1 s1 H1 → SR B μ1 s1 H1 → ER B μ1 s1 H1 σ ρ → Rp.rel B μ1 s1 H1 v w → FinT T Wx B μ1 s1 H1 D (g w s1) → k v H1) : tD T Wx f σ H k := by
  refine ⟨B, μ, s, ρ, r, e, ?_⟩
  cases z : f ρ s with
  | ok w s1 =>
    rw [z] at q
    intro v μ1 H1 a b c
    exact h w s1 v μ1 H1 a b (e.stp a) c (FinT.stp a q)
  | exc x s1 =>
    rw [z] at q
    exact fun μ1 H1 c d st r1 ex => q σ μ1 H1 c d st r1 (e.stp st) ex
  | bad =>
    rw [z] at q
    exact q
end
def gSeq (g k : En → CS → RT) (ρ : En) (s : CS) : RT := match g ρ s with
  | .nx ρ1 s1 => k ρ1 s1
  | r => r
def gNx (ρ : En) (s : CS) : RT := .nx ρ s
def gRet (f : En → CS → R W) (ρ : En) (s : CS) : RT := (f ρ s).toT ρ fun w s => .rt w s
def gRetN (_ : En) (s : CS) : RT := .rt (.d .none) s
def gDrop (f : En → CS → R W) (ρ : En) (s : CS) : RT := (f ρ s).toT ρ fun _ s => .nx ρ s
def gBk (ρ : En) (s : CS) : RT := .bk ρ s
def gCt (ρ : En) (s : CS) : RT := .ct ρ s
def gIf (t : En → CS → R Bool) (g k : En → CS → RT) (ρ : En) (s : CS) : RT := (t ρ s).toT ρ fun b s => if b = true then g ρ s else k ρ s
def gAsg (h : W → En → Option En) (f : En → CS → R W) (ρ : En) (s : CS) : RT := (f ρ s).toT ρ fun w s => match h w ρ with
  | some ρ' => .nx ρ' s
  | none => .bad
section
variable {X : Cx} [HK X] {T : TX} {Wx : WXc} {st : Stmt} {sts : List Stmt} {g k : En → CS → RT} {e tg : Expr} {f : En → CS → R W} {pos : Pos}
theorem dss_nil : DSs X T Wx [] gNx := PSs_imp pss_nil fun D σ H ⟨B, μ, s, ρ, r, e, q⟩ => q σ μ H Stp.refl r e
theorem dss_cons (h1 : DS X T Wx st g) (h2 : DSs X T Wx sts k) : DSs X T Wx (st :: sts) (gSeq g k) := PSs_imp (pss_cons h1 h2) fun D σ H ⟨B, μ, s, ρ, r, e, q⟩ => by
  refine ⟨B, μ, s, ρ, r, e, ?_⟩
  unfold gSeq at q
  cases z : g ρ s with
  | nx ρ1 s1 =>
    simp only [z] at q
    exact fun σ1 μ1 H1 st1 r1 e1 => ⟨B, μ1, s1, ρ1, r1, e1, FinT.stp st1 q⟩
  | rt w s1 => simp only [z] at q; exact q
  | bk w s1 => simp only [z] at q; exact q
  | ct w s1 => simp only [z] at q; exact q
  | exc w ρ1 s1 => simp only [z] at q; exact q
  | bad => simp only [z] at q; exact q
theorem dss_one (h1 : DS X T Wx st g) : DSs X T Wx [st] g := pss_one h1
theorem ds_pass : DS X T Wx (.Pass pos) gNx := PS_imp ps_pass fun D σ H ⟨B, μ, s, ρ, r, e, q⟩ => q σ μ H Stp.refl r e
theorem ds_break : DS X T Wx (.Break pos) gBk := PS_imp ps_break fun D σ H ⟨B, μ, s, ρ, r, e, q⟩ => q σ μ H Stp.refl r e
theorem ds_cont : DS X T Wx (.Continue pos) gCt := PS_imp ps_continue fun D σ H ⟨B, μ, s, ρ, r, e, q⟩ => q σ μ H Stp.refl r e
theorem ds_ret (h : DE X T Wx e f) : DS X T Wx (.Return (some e) pos) (gRet f) := PS_imp (ps_ret h) fun D σ H ⟨B, μ, s, ρ, r, e, q⟩ =>
  tD_bindT r e q fun w s1 v μ1 H1 st1 r1 e1 rel1 q1 => q1 v μ1 H1 Stp.refl r1 rel1
theorem ds_retN : DS X T Wx (.Return none pos) gRetN := PS_imp ps_retN fun D σ H ⟨B, μ, s, ρ, r, e, q⟩ => q .non μ H Stp.refl r Fz.non
theorem ds_expr (h : DE X T Wx e f) (hs : swapsWith e none pos.line X.env = pure false := by rfl) : DS X T Wx (.Expr e pos) (gDrop f) := PS_imp (ps_expr h hs) fun D σ H ⟨B, μ, s, ρ, r, e, q⟩ =>
  tD_bindT r e q fun w s1 v μ1 H1 st1 r1 e1 rel1 q1 => q1 σ μ1 H1 Stp.refl r1 e1
theorem ds_doc {x j p} : DS X T Wx (.Expr (.Constant (.str x) j p) pos) gNx := PS_imp ps_doc fun D σ H ⟨B, μ, s, ρ, r, e, q⟩ => q σ μ H Stp.refl r e
theorem ds_if {t : En → CS → R Bool} {as bs : List Stmt} (ht : DT X T Wx e t) (h1 : DSs X T Wx as g) (h2 : DSs X T Wx bs k) : DS X T Wx (.If e as bs pos) (gIf t g k) := PS_imp (ps_if ht h1 h2) fun D σ H ⟨B, μ, s, ρ, r, e, q⟩ =>
  tD_bindT r e q fun w s1 v μ1 H1 st1 r1 e1 rel1 q1 => by
    cases rel1
    cases w with
    | true => exact ⟨B, μ1, s1, ρ, r1, e1, q1⟩
    | false => exact ⟨B, μ1, s1, ρ, r1, e1, q1⟩
theorem tAsg_use {is : List Nat} {h : W → En → Option En} {D : Ends} {σ : L2.St} {H : Hp} (q : tT T Wx (gAsg h f) D σ H) : tAsg (tD T Wx f) (tG is h) D σ H := by
  obtain ⟨B, μ, s, ρ, r, e, q⟩ := q
  refine tD_bindT r e q fun w s1 v μ1 H1 st1 r1 e1 rel1 q1 => ?_
  cases z : h w ρ with
  | none => rw [z] at q1; exact q1.elim
  | some ρ' =>
    rw [z] at q1
    exact ⟨B, μ1, s1, ρ, w, ρ', r1, e1, rel1, z, fun σ' e' _ _ => q1 σ' μ1 H1 Stp.refl r1 e'⟩
theorem ds_asg {is : List Nat} {h : W → En → Option En} (he : DE X T Wx e f) (hg : DG X tg is h) (hs : swapsWithSole [tg] e pos.line X.env = pure false := by rfl) (hw : swappedStores [tg] e X.env = pure none := by rfl) (h1 : (assignEach [tg] X.env).map (·.2) = [assign tg X.env] := by rfl) : DS X T Wx (.Assign [tg] e pos) (gAsg h f) :=
  PS_imp (ps_asg he hg hs hw h1) fun D σ H q => tAsg_use q
theorem ds_set {i : Nat} {x : Str} {pos' : Pos} (hN' : X.N.Nodup) (hi : X.N[i]? = some x) (hx : Loc X.env.scope x) (he : DE X T Wx e f) (hs : swapsWith e (some (.Name x pos')) pos.line X.env = pure false := by rfl) (hf : X.fn x = true ∨ X.env.scope.names.lookup x = some .local := by first | exact .inl rfl | exact .inr rfl | assumption) :
    DS X T Wx (.Assign [.Name x pos'] e pos) (gAsg (hN i) f) := PS_imp (ps_set hN' hi hx he hs hf) fun D σ H q => by
  obtain ⟨B, μ, s, ρ, r, e, q⟩ := q
  exact tD_bindT r e q fun w s1 v μ1 H1 st1 r1 e1 rel1 q1 => q1 _ μ1 H1 Stp.refl r1 (e1.set rel1 i)
/-! loops -/
def forL (h : W → En → Option En) (body : En → CS → RT) : List PyData → En → CS → RT
  | [], ρ, s => .nx ρ s
  | x :: r, ρ, s => match h (.d x) ρ with
    | none => .bad
    | some ρ1 => match body ρ1 s with
      | .nx ρ2 s2 => forL h body r ρ2 s2
      | .ct ρ2 s2 => forL h body r ρ2 s2
      | .bk ρ2 s2 => .nx ρ2 s2
      | z => z
def gFor (fi : En → CS → R (List PyData)) (h : W → En → Option En) (body : En → CS → RT) (ρ : En) (s : CS) : RT := (fi ρ s).toT ρ fun ds s => forL h body ds ρ s
theorem ds_for {fi : En → CS → R (List PyData)} {is : List Nat} {h : W → En → Option En} {iter : Expr} {body : List Stmt} (hp : PassesOwn (model X.prog X.w) X.A X.env X.xe) (hc : X.calm = true) (hi : DI X T Wx tg iter fi) (hg : DG X tg is h) (hb : DSs X T Wx body g)
    (hs : ∀ x, foldedSetIterable iter X.env x = pure x := by intro _; rfl) : DS X T Wx (.For tg iter body [] pos) (gFor fi h g) := PS_imp (ps_for hp hc hi hg hb hs) fun D σ H ⟨B, μ, s, ρ, r, e, q⟩ => by
  refine tD_bindT r e q fun ds s1 J μ1 H1 st1 r1 e1 rel1 q1 => ?_
  obtain ⟨G, Y, w, gg, yy⟩ := rel1.ex
  refine for_it w (fun i σ' H' => ∃ μ' s' ρ', Stp μ1 s1 H1 μ' s' H' ∧ SR B μ' s' H' ∧ ER B μ' s' H' σ' ρ' ∧ FinT T Wx B μ' s' H' D (forL h g (ds.drop i) ρ' s')) ⟨μ1, s1, ρ, Stp.refl, r1, e1, q1⟩ (fun i σ' H' hi z => ?_) (fun i x σ' H' H'' hi z y => ?_) (fun σ' H' z => ?_)
  · obtain ⟨μ', s', ρ', st, sr, er, fq⟩ := z
    exact gg H' _ st.kp sr.bt'
  · obtain ⟨μ', s', ρ', st, sr, er, fq⟩ := z
    obtain ⟨sm, d, ed, fd⟩ := yy i H' _ x H'' st.kp sr.bt' hi y
    have ec : ds.drop i = d :: ds.drop (i + 1) := by
      obtain ⟨hl, rfl⟩ := List.getElem?_eq_some_iff.mp ed
      exact List.drop_eq_getElem_cons hl
    rw [ec] at fq
    unfold forL at fq
    have sr2 := sr.same sm
    have st2 : Stp μ' s' H' μ' s' H'' := Stp.same sm
    have fq := FinT.stp st2 fq
    cases z1 : h (.d d) ρ' with
    | none => simp only [z1] at fq; exact fq.elim
    | some ρ1 =>
      simp only [z1] at fq
      refine ⟨B, μ', s', ρ', .d d, ρ1, sr2, er.stp st2, fd, z1, fun σ2 e2 _ _ => ⟨B, μ', s', ρ1, sr2, e2, ?_⟩⟩
      cases z2 : g ρ1 s' with
      | nx ρ2 s2 =>
        simp only [z2] at fq
        exact fun σ3 μ3 H3 st3 sr3 er3 => ⟨μ3, s2, ρ2, (st.trans st2).trans st3, sr3, er3, FinT.stp st3 fq⟩
      | ct ρ2 s2 =>
        simp only [z2] at fq
        exact fun σ3 μ3 H3 st3 sr3 er3 => ⟨μ3, s2, ρ2, (st.trans st2).trans st3, sr3, er3, FinT.stp st3 fq⟩
      | bk ρ2 s2 => simp only [z2] at fq; exact fq
      | rt w2 s2 => simp only [z2] at fq; exact fq
      | exc w2 ρ2 s2 => simp only [z2] at fq; exact fq
      | bad => simp only [z2] at fq; exact fq
  · obtain ⟨μ', s', ρ', st, sr, er, fq⟩ := z
    rw [List.drop_length] at fq
    exact fq σ' μ' H' Stp.refl sr er
def whileL (t : En → CS → R Bool) (body : En → CS → RT) : Nat → En → CS → RT
  | 0, _, _ => .bad
  | n + 1, ρ, s => (t ρ s).toT ρ fun b s => if b = true then (match body ρ s with
      | .nx ρ2 s2 => whileL t body n ρ2 s2
      | .ct ρ2 s2 => whileL t body n ρ2 s2
      | .bk ρ2 s2 => .nx ρ2 s2
      | z => z) else .nx ρ s
theorem ds_while {t : En → CS → R Bool} {body : List Stmt} (n : Nat) (hp : PassesOwn (model X.prog X.w) X.A X.env X.xe) (ht : DT X T Wx e t) (hb : DSs X T Wx body g) : DS X T Wx (.While e body [] pos) (whileL t g n) := PS_imp (ps_while hp ht hb) fun D σ H ⟨B, μ, s, ρ, r, e, q⟩ => by
  refine ⟨fun m σ' H' => ∃ μ' s' ρ', SR B μ' s' H' ∧ ER B μ' s' H' σ' ρ' ∧ FinT T Wx B μ' s' H' D (whileL t g m ρ' s'), ⟨n, μ, s, ρ, r, e, q⟩, ?_⟩
  rintro m σ' H' ⟨μ', s', ρ', sr, er, fq⟩
  cases m with
  | zero => exact fq.elim
  | succ m =>
    unfold whileL at fq
    refine tD_bindT sr er fq fun b s1 v μ1 H1 st1 r1 e1 rel1 q1 => ?_
    cases rel1
    cases b with
    | false => exact q1 σ' μ1 H1 Stp.refl r1 e1
    | true =>
      rw [if_pos rfl] at q1 ⊢
      refine ⟨fun σ2 H2 => ∃ μ2 s2 ρ2, SR B μ2 s2 H2 ∧ ER B μ2 s2 H2 σ2 ρ2 ∧ FinT T Wx B μ2 s2 H2 D (whileL t g m ρ2 s2), fun σ2 H2 z => ⟨m, Nat.lt_succ_self m, z⟩, B, μ1, s1, ρ', r1, e1, ?_⟩
      cases z2 : g ρ' s1 with
      | nx ρ2 s2 =>
        simp only [z2] at q1
        exact fun σ3 μ3 H3 st3 sr3 er3 => ⟨μ3, s2, ρ2, sr3, er3, FinT.stp st3 q1⟩
      | ct ρ2 s2 =>
        simp only [z2] at q1
        exact fun σ3 μ3 H3 st3 sr3 er3 => ⟨μ3, s2, ρ2, sr3, er3, FinT.stp st3 q1⟩
      | bk ρ2 s2 => simp only [z2] at q1; exact q1
      | rt w2 s2 => simp only [z2] at q1; exact q1
      | exc w2 ρ2 s2 => simp only [z2] at q1; exact q1
      | bad => simp only [z2] at q1; exact q1
end
end
end DL
namespace DL
open PySem PySem.Spec PyProof.Rows L2
section
variable [KFrag]

/-! ### comprehensions -/
def wipeE (ρ : En) : List Nat → En
  | [] => ρ
  | v :: vs => (wipeE ρ vs).set v none
theorem wipeE_len (ρ : En) : ∀ vs : List Nat, (wipeE ρ vs).length = ρ.length
  | [] => rfl
  | v :: vs => by unfold wipeE; rw [List.length_set, wipeE_len ρ vs]
theorem wipeE_some {ρ : En} {i : Nat} {x : W} : ∀ {vs : List Nat}, (wipeE ρ vs)[i]? = some (some x) → ρ[i]? = some (some x) ∧ i ∉ vs
  | [], h => ⟨h, by simp⟩
  | v :: vs, h => by
    unfold wipeE at h
    by_cases hi : v = i
    · subst hi
      by_cases hv : v < (wipeE ρ vs).length
      · rw [List.getElem?_set_self hv] at h; cases h
      · rw [List.getElem?_eq_none (by simpa using hv)] at h; cases h
    · rw [List.getElem?_set_ne hi] at h
      obtain ⟨h1, h2⟩ := wipeE_some h
      exact ⟨h1, by simp only [List.mem_cons, not_or]; exact ⟨fun e => hi e.symm, h2⟩⟩
theorem ER.wipe {B : Addr → Prop} {μ : List Addr} {s : CS} {H : Hp} {σ : L2.St} {ρ : En} (e : ER B μ s H σ ρ) (vs : List Nat) : ER B μ s H (wipe σ vs) (wipeE ρ vs) := by
  refine ⟨by rw [wipe_length, wipeE_len]; exact e.len, fun i w z => ?_⟩
  obtain ⟨z1, z2⟩ := wipeE_some z
  obtain ⟨v, e1, e2⟩ := e.at_ i w z1
  exact ⟨v, by rw [wipe_out z2]; exact e1, e2⟩
theorem wipe_at {σ : L2.St} {i : Nat} : ∀ {vs : List Nat}, i ∈ vs → i < σ.length → (wipe σ vs)[i]? = some none
  | [], h, _ => by cases h
  | v :: vs, h, hl => by
    unfold wipe
    by_cases e : v = i
    · subst e
      rw [List.getElem?_set_self (by rw [wipe_length]; exact hl)]
    · rw [List.getElem?_set_ne e]
      exact wipe_at ((List.mem_cons.mp h).elim (fun z => absurd z.symm e) fun z => z) hl
theorem wipe_eq {σ σ' : L2.St} {vs is : List Nat} (hl : σ'.length = σ.length) (ha : ∀ i, i ∉ is → σ'[i]? = σ[i]?) (hs : ∀ i ∈ is, i ∈ vs) : wipe σ' vs = wipe σ vs := by
  apply List.ext_getElem?
  intro i
  by_cases hi : i ∈ vs
  · by_cases hb : i < σ.length
    · rw [wipe_at hi hb, wipe_at hi (by rw [hl]; exact hb)]
    · rw [List.getElem?_eq_none (by rw [wipe_length]; omega), List.getElem?_eq_none (by rw [wipe_length]; omega)]
  · rw [wipe_out hi, wipe_out hi, ha i fun z => hi (hs i z)]
theorem wipe_wipe {σ : L2.St} {vs : List Nat} : wipe (wipe σ vs) vs = wipe σ vs := by
  apply List.ext_getElem?
  intro i
  by_cases hi : i ∈ vs
  · by_cases hb : i < σ.length
    · rw [wipe_at hi hb, wipe_at hi (by rw [wipe_length]; exact hb)]
    · rw [List.getElem?_eq_none (by rw [wipe_length, wipe_length]; omega), List.getElem?_eq_none (by rw [wipe_length]; omega)]
  · rw [wipe_out hi, wipe_out hi]

/-- an exception is not looked for within a comprehension -/
def R.bind0 {a b : Type} (r : R a) (k : a → CS → R b) : R b := match r with
  | .ok x s => k x s
  | _ => .bad
abbrev Wx0 : WXc := fun _ _ _ _ => False
def fYes (_ : En) (s : CS) : R Bool := .ok true s
def consR (w : W) (r : CS → R (List D)) (s : CS) : R (List D) := match w with
  | .d y => (r s).bind0 fun ys s => .ok (y :: ys) s
  | _ => .bad
def compL (h : W → En → Option En) (tt : En → CS → R Bool) (f : En → CS → R W) (ρ : En) : List D → CS → R (List D)
  | [], s => .ok [] s
  | x :: r, s => match h (.d x) ρ with
    | none => .bad
    | some ρ1 => (tt ρ1 s).bind0 fun b s => if b = true then (f ρ1 s).bind0 fun w s => consR w (fun s => compL h tt f ρ r s) s else compL h tt f ρ r s
def endL (pre : List D) (r : R (List D)) : R W := r.bind0 fun ys s => .ok (.d (.list (pre ++ ys))) s
def fLc (vs : List Nat) (fi : En → CS → R (List D)) (h : W → En → Option En) (tt : En → CS → R Bool) (f : En → CS → R W) (ρ : En) (s : CS) : R W :=
  (fi ρ s).bind fun items s => if items.length ≤ line then endL [] (compL h tt f (wipeE ρ vs) items s) else .bad

section
variable {T : TX} {Wx : WXc} {B : Addr → Prop} {μ μ' : List Addr} {s s' : CS} {H H' : Hp} {σ : L2.St} {ρ : En}
/-- .. and one object more that no one but the maker may touch -/
def And1 (B : Addr → Prop) (D : Addr) (a : Addr) : Prop := B a ∨ a = D
theorem SR.off {D : Addr} (r : SR (And1 B D) μ s H) : SR B μ s H where
  len := r.len
  inj := r.inj
  th := r.th
  nb := fun n a e z => r.nb n a e (.inl z)
  bt := fun a z => r.bt a (.inl z)
  cell := fun n a c e1 e2 => by
    exact (r.cell n a c e1 e2).kp ⟨fun _ _ e _ => e, fun a _ _ n z => n (z.elim (fun z => .inl (.inl z)) .inr)⟩ fun _ e => e
theorem kp_on {D : Addr} {o : HO} (h : H D = none) : Kp H (upd H D o) (Av B μ s) (Av (And1 B D) μ s) :=
  ⟨fun a x e _ => same_upd h a x e, fun a x e n z => z.elim (fun z => z.elim (fun z => n (.inl z)) fun z => by rw [z, h] at e; cases e) fun z => n (.inr z)⟩
theorem SR.on {D : Addr} {o : HO} (r : SR B μ s H) (h : H D = none) : SR (And1 B D) μ s (upd H D o) where
  len := r.len
  inj := r.inj
  th := fun n a e => by
    cases z : H a with
    | none => exact absurd z (r.th n a e)
    | some x => rw [same_upd h _ _ z]; simp
  nb := fun n a e z => z.elim (r.nb n a e) fun z => r.th n a e (by rw [z]; exact h)
  bt := fun a z => by
    rcases z with z | z
    · cases y : H a with
      | none => exact absurd y (r.bt a z)
      | some x => rw [same_upd h _ _ y]; simp
    · rw [z, upd_same]; simp
  cell := fun n a c e1 e2 => by
    exact (r.cell n a c e1 e2).kp (kp_on h) fun o e => same_upd h _ _ e
theorem kp_upd {A : Addr → Prop} {D : Addr} {o : HO} (h : A D) : Kp H (upd H D o) A A :=
  ⟨fun a x e n => by rw [upd_ne (fun z => n (by rw [z]; exact h))]; exact e, fun _ _ _ n => n⟩
theorem SR.updB {D : Addr} {o : HO} (r : SR B μ s H) (h : B D) : SR B μ s (upd H D o) where
  len := r.len
  inj := r.inj
  th := fun n a e => by
    rw [upd_ne (fun z => r.nb n a e (by rw [z]; exact h))]
    exact r.th n a e
  nb := r.nb
  bt := fun a z => by
    by_cases e : a = D
    · rw [e, upd_same]; simp
    · rw [upd_ne e]; exact r.bt a z
  cell := fun n a c e1 e2 => by
    exact (r.cell n a c e1 e2).kp (kp_upd (.inl h)) fun o e => by rw [upd_ne (fun z => r.nb n a e1 (by rw [z]; exact h))]; exact e
theorem RW.kpB {B' : Addr → Prop} (st : Stp μ s H μ' s' H') (k : Kp H H' (Av B μ s) (Av B' μ' s')) {v : V} {w : W} (h : RW B μ s H v w) : RW B' μ' s' H' v w := by
  cases w with
  | d x => exact Fz.kp k h
  | c n =>
    obtain ⟨b, e, q⟩ := h
    obtain ⟨t, rfl⟩ := st.pre
    refine ⟨b, e, ?_⟩
    rw [List.getElem?_append_left (List.getElem?_eq_some_iff.mp q).1]
    exact q
  | sc ns =>
    obtain ⟨b, e, h⟩ := h
    rcases h with ⟨o, q, n⟩ | h
    · exact ⟨b, e, .inl ⟨o, st.keep _ _ q n, fun z => (st.new b z).elim n fun y => by rw [q] at y; cases y⟩⟩
    · exact ⟨b, e, .inr h⟩
  | fd ds => exact FD.kp k h
  | rg lo hi => exact FR.kp k h
theorem ER.kpB {B' : Addr → Prop} (st : Stp μ s H μ' s' H') (k : Kp H H' (Av B μ s) (Av B' μ' s')) (h : ER B μ s H σ ρ) : ER B' μ' s' H' σ ρ :=
  ⟨h.len, fun i w e => let ⟨v, e1, e2⟩ := h.at_ i w e; ⟨v, e1, e2.kpB st k⟩⟩
/-- an expression that is evaluated within a comprehension -/
theorem tD_bind0 {a b c d : Type} [Rp a b] [Rp c d] {B' : Addr → Prop} {f : En → CS → R a} {g : a → CS → R c} {k : b → Hp → Prop} {μ0 : List Addr} {s0 : CS} {H0 : Hp} {σ0 : L2.St} {Qc : d → Hp → Prop} (r : SR B' μ s H) (e : ER B' μ s H σ ρ)
    (q : Fin T Wx B μ0 s0 H0 σ0 Qc ((f ρ s).bind0 g))
    (h : ∀ w s1 v μ1 H1, Stp μ s H μ1 s1 H1 → SR B' μ1 s1 H1 → ER B' μ1 s1 H1 σ ρ → Rp.rel B' μ1 s1 H1 v w → Fin T Wx B μ0 s0 H0 σ0 Qc (g w s1) → k v H1) : tD T Wx0 f σ H k := by
  refine ⟨B', μ, s, ρ, r, e, ?_⟩
  cases z : f ρ s with
  | ok w s1 =>
    rw [z] at q
    intro v μ1 H1 a b c
    exact h w s1 v μ1 H1 a b (e.stp a) c q
  | exc x s1 =>
    rw [z] at q
    exact q.elim
  | bad =>
    rw [z] at q
    exact q
theorem endL_bind {a : Type} {pre : List D} {r : R a} {k : a → CS → R (List D)} : endL pre (r.bind0 k) = r.bind0 fun x s => endL pre (k x s) := by
  cases r <;> rfl
theorem endL_ite {pre : List D} {b : Bool} {x y : R (List D)} : endL pre (if b = true then x else y) = if b = true then endL pre x else endL pre y := by
  cases b <;> rfl
theorem endL_cons {pre : List D} {y : D} {r : CS → R (List D)} {s : CS} : endL pre (consR (.d y) r s) = endL (pre ++ [y]) (r s) := by
  unfold consR endL
  cases r s with
  | ok ys s => show R.ok _ _ = R.ok _ _; simp
  | exc e s => rfl
  | bad => rfl
end

section
variable {X : Cx} [HK X] {T : TX} {Wx : WXc} {elt tg iter : Expr} {ifs : List Expr} {scope : Scope} {own : List (Str × Nat)} {pos : Pos} {fi : En → CS → R (List D)} {is : List Nat} {h : W → En → Option En} {tt : En → CS → R Bool} {f : En → CS → R W}
/-- the heap while the list at D is made -/
structure Mk1 (B : Addr → Prop) (μ1 : List Addr) (s1 : CS) (H1 : Hp) (D : Addr) (μ : List Addr) (s : CS) (H : Hp) (ds : List PyData) : Prop where
  st : Stp μ1 s1 H1 μ s H
  sr : SR (And1 B D) μ s H
  ls : ∃ acc, H D = some (.lst acc) ∧ Fzs H (Av (And1 B D) μ s) acc ds
theorem Mk1.kp {B : Addr → Prop} {μ1 : List Addr} {s1 : CS} {H1 : Hp} {D : Addr} {μ : List Addr} {s : CS} {H : Hp} {ds : List PyData} (m : Mk1 B μ1 s1 H1 D μ s H ds) (hD : H1 D = none) : Kp H1 H (Av B μ1 s1) (Av (And1 B D) μ s) :=
  ⟨m.st.kp.keep, fun a o e n z => z.elim (fun z => z.elim (fun z => n (.inl z)) fun z => by rw [z, hD] at e; cases e) fun z => m.st.kp.new a o e n (.inr z)⟩
theorem Mk1.step {B : Addr → Prop} {μ1 : List Addr} {s1 : CS} {H1 : Hp} {D : Addr} {μ μ' : List Addr} {s s' : CS} {H H' : Hp} {ds : List PyData} (m : Mk1 B μ1 s1 H1 D μ s H ds) (st : Stp μ s H μ' s' H') (sr : SR (And1 B D) μ' s' H') : Mk1 B μ1 s1 H1 D μ' s' H' ds := by
  obtain ⟨acc, e, f⟩ := m.ls
  refine ⟨m.st.trans st, sr, acc, st.keep _ _ e fun z => ?_, f.kp st.kp⟩
  obtain ⟨n, _, z, _⟩ := z
  exact m.sr.nb n D z (.inr rfl)
theorem Mk1.push {B : Addr → Prop} {μ1 : List Addr} {s1 : CS} {H1 : Hp} {D : Addr} {μ : List Addr} {s : CS} {H : Hp} {ds : List PyData} (m : Mk1 B μ1 s1 H1 D μ s H ds) (hD : H1 D = none) {v : V} {d : PyData} (fz : Fz H (Av (And1 B D) μ s) v d) (hz : ds.length < line) :
    ∃ acc, H D = some (.lst acc) ∧ acc.length < sizeLine ∧ Mk1 B μ1 s1 H1 D μ s (upd H D (.lst (acc ++ [v]))) (ds ++ [d]) := by
  obtain ⟨acc, e, f⟩ := m.ls
  refine ⟨acc, e, by rw [f.len, line_eq]; exact hz, ⟨?_, m.sr.updB (.inr rfl), acc ++ [v], upd_same, (f.app (.cons fz .nil)).kp (kp_upd (.inl (.inr rfl)))⟩⟩
  refine ⟨m.st.pre, fun a o ea n => ?_, fun a ea => ?_, m.st.new⟩
  · have ha : a ≠ D := fun z => by rw [z, hD] at ea; cases ea
    rw [upd_ne ha]
    exact m.st.keep a o ea n
  · have ha : a ≠ D := fun z => by rw [z] at ea; exact ea hD
    rw [upd_ne ha]
    exact m.st.th a ea
theorem Mk1.start {B : Addr → Prop} {μ : List Addr} {s : CS} {H : Hp} {D : Addr} (r : SR B μ s H) (hD : H D = none) : Mk1 B μ s H D μ s (upd H D (.lst [])) [] :=
  ⟨Stp.same (same_upd hD), r.on hD, [], upd_same, .nil⟩
theorem Mk1.done {B : Addr → Prop} {μ1 : List Addr} {s1 : CS} {H1 : Hp} {D : Addr} {μ : List Addr} {s : CS} {H : Hp} {ds : List PyData} {σ : L2.St} {Q : VK} (m : Mk1 B μ1 s1 H1 D μ s H ds) (r1 : SR B μ1 s1 H1) (hD : H1 D = none)
    (q : Fin (a := W) T Wx B μ1 s1 H1 σ Q (.ok (.d (.list ds)) s)) : Q (.ref D) H := by
  obtain ⟨acc, e, f⟩ := m.ls
  refine q _ μ H m.st m.sr.off (Fz.lst ⟨e, fun z => ?_⟩ (f.mono fun a z => z.elim (fun z => .inl (.inl z)) .inr))
  rcases z with z | ⟨n, _, z, _⟩
  · exact r1.bt D z hD
  · exact m.sr.nb n D z (.inr rfl)
theorem tLc_use {σ : L2.St} {H : Hp} {Q : VK} (hsub : ∀ i ∈ is, i ∈ own.map (·.2)) (q : tD T Wx (fLc (own.map (·.2)) fi h tt f) σ H Q) : tLc (tD T Wx fi) (tG is h) (tD T Wx0 tt) (tD T Wx0 f) (own.map (·.2)) σ H Q := by
  obtain ⟨B, μ, s, ρ, r, e, q⟩ := q
  refine tD_bind r e q fun ds s1 J μ1 H1 st1 r1 e1 rel1 q1 D hD => ?_
  split at q1
  · rename_i hlen
    obtain ⟨G, Y, w, gg, yy⟩ := rel1.ex
    refine lc_it w (fun i H' => ∃ μ' s' ys, Mk1 B μ1 s1 H1 D μ' s' H' ys ∧ ys.length ≤ i ∧ Fin T Wx B μ1 s1 H1 σ Q (endL ys (compL h tt f (wipeE ρ (own.map (·.2))) (ds.drop i) s'))) ⟨μ1, s1, [], Mk1.start r1 hD, Nat.le_refl _, q1⟩ (fun i H' hi z => ?_) (fun i x H' H'' hi z y => ?_) (fun H' z => ?_)
    · obtain ⟨μ', s', ys, m, _, _⟩ := z
      exact gg H' _ (m.kp hD) m.sr.bt'
    · obtain ⟨μ', s', ys, m, hys, fq⟩ := z
      obtain ⟨sm, d, ed, fd⟩ := yy i H' _ x H'' (m.kp hD) m.sr.bt' hi y
      have ec : ds.drop i = d :: ds.drop (i + 1) := by
        obtain ⟨hl, rfl⟩ := List.getElem?_eq_some_iff.mp ed
        exact List.drop_eq_getElem_cons hl
      rw [ec] at fq
      unfold compL at fq
      have m2 : Mk1 B μ1 s1 H1 D μ' s' H'' ys := m.step (Stp.same sm) (m.sr.same sm)
      have er : ER (And1 B D) μ' s' H'' (wipe σ (own.map (·.2))) (wipeE ρ (own.map (·.2))) := (e1.kpB m2.st (m2.kp hD)).wipe _
      cases z1 : h (.d d) (wipeE ρ (own.map (·.2))) with
      | none => simp only [z1] at fq; exact fq.elim
      | some ρ1 =>
        simp only [z1] at fq
        refine ⟨_, μ', s', _, .d d, ρ1, m2.sr, er, fd, z1, fun σ2 e2 l2 a2 => ⟨?_, ?_⟩⟩
        · rw [wipe_eq l2 a2 hsub, wipe_wipe]
        · rw [endL_bind] at fq
          refine tD_bind0 m2.sr e2 fq fun b s3 v3 μ3 H3 st3 r3 e3 rel3 q3 => ?_
          cases rel3
          have m3 := m2.step st3 r3
          rw [endL_ite] at q3
          cases b with
          | false =>
            rw [if_neg Bool.false_ne_true] at q3 ⊢
            exact ⟨μ3, s3, ys, m3, by omega, q3⟩
          | true =>
            rw [if_pos rfl] at q3 ⊢
            rw [endL_bind] at q3
            refine tD_bind0 r3 e3 q3 fun w4 s4 v4 μ4 H4 st4 r4 e4 rel4 q4 => ?_
            have m4 := m3.step st4 r4
            cases w4 with
            | c n => exact q4.elim
            | sc n => exact q4.elim
            | fd n => exact q4.elim
            | rg n m => exact q4.elim
            | d y =>
              rw [endL_cons] at q4
              obtain ⟨acc, ea, hacc, m5⟩ := m4.push hD rel4 (by omega)
              exact ⟨acc, ea, hacc, μ4, s4, ys ++ [y], m5, by simp; omega, q4⟩
    · obtain ⟨μ', s', ys, m, hys, fq⟩ := z
      rw [List.drop_length] at fq
      have fq : Fin (a := W) T Wx B μ1 s1 H1 σ Q (.ok (.d (.list (ys ++ []))) s') := fq
      rw [List.append_nil] at fq
      exact m.done r1 hD fq
  · exact q1.elim
theorem PTs_imp {X : Cx} {e : List Expr} {t t' : TT} (h : PTs X e t) (k : ∀ σ H Q, t' σ H Q → t σ H Q) : PTs X e t' := ⟨fun pins s σ H Q I z => h.run pins s σ H Q I (k _ _ _ z)⟩
theorem dts_nil : PTs X [] (tD T Wx fYes) := PTs_imp pts_nil fun σ H Q ⟨B, μ, s, ρ, r, e, q⟩ => Fin.here (a := Bool) q r rfl
theorem dts_one {e : Expr} (k : DT X T Wx e tt) : PTs X [e] (tD T Wx tt) := pts_one k
theorem de_lc (hc : X.calm = true) (hN : X.N.Nodup) (hi : DI X T Wx tg iter fi) (ok : BlkOk X.N X.env.scope scope own) (hsub : ∀ i ∈ is, i ∈ own.map (·.2))
    (hg : ∀ (s : Shared) (H : Hp) (C : Addr) (cl : List (Str × Addr)) (fp : List Addr), DG (X.blk s H scope (compEnvC scope cl C X.env) fp) tg is h) (ht : ∀ (s : Shared) (H : Hp) (C : Addr) (cl : List (Str × Addr)) (fp : List Addr), PTs (X.blk s H scope (compEnvC scope cl C X.env) fp) ifs (tD T Wx0 tt))
    (he : ∀ (s : Shared) (H : Hp) (C : Addr) (cl : List (Str × Addr)) (fp : List Addr), DE (X.blk s H scope (compEnvC scope cl C X.env) fp) T Wx0 elt f) (hs : ∀ x, foldedSetIterable iter X.env x = pure x := by intro _; rfl) :
    DE X T Wx (.ListComp elt [⟨tg, iter, ifs, 0⟩] scope pos) (fLc (own.map (·.2)) fi h tt f) := PE_imp (pe_lc hc hN hi ok hg ht he hs) fun σ H Q => tLc_use hsub
theorem ds_setLc {i : Nat} {y : Str} {py spos : Pos} (hc : X.calm = true) (hN' : X.N.Nodup) (hy : X.N[i]? = some y) (hyl : X.env.scope.names.lookup y = some .local)
    (hsw : swapsWith (.ListComp elt [⟨tg, iter, ifs, 0⟩] scope pos) (some (.Name y py)) spos.line X.env = pure true) (hi : DI X T Wx tg iter fi) (ok : BlkOk X.N X.env.scope scope own) (hsub : ∀ i ∈ is, i ∈ own.map (·.2))
    (hg : ∀ (s : Shared) (H : Hp) (C : Addr) (cl : List (Str × Addr)) (fp : List Addr), DG (X.blk s H scope (compEnvC scope cl C X.env) fp) tg is h) (ht : ∀ (s : Shared) (H : Hp) (C : Addr) (cl : List (Str × Addr)) (fp : List Addr), PTs (X.blk s H scope (compEnvC scope cl C X.env) fp) ifs (tD T Wx0 tt))
    (he : ∀ (s : Shared) (H : Hp) (C : Addr) (cl : List (Str × Addr)) (fp : List Addr), DE (X.blk s H scope (compEnvC scope cl C X.env) fp) T Wx0 elt f) (hs : ∀ x, foldedSetIterable iter X.env x = pure x := by intro _; rfl) :
    DS X T Wx (.Assign [.Name y py] (.ListComp elt [⟨tg, iter, ifs, 0⟩] scope pos) spos) (gAsg (hN i) (fLc (own.map (·.2)) fi h tt f)) := PS_imp (ps_setLc hc hN' hy hyl hsw hi ok hg ht he hs) fun D σ H q => by
  have hx : ∀ (t : TE), (∀ σ H Q, tD T Wx (fLc (own.map (·.2)) fi h tt f) σ H Q → t σ H Q) → tAsg t (gName i) D σ H := fun t k => by
    obtain ⟨B, μ, s, ρ, r, e, q⟩ := q
    exact k σ H _ (tD_bindT r e q fun w s1 v μ1 H1 st1 r1 e1 rel1 q1 => q1 _ μ1 H1 Stp.refl r1 (e1.set rel1 i))
  exact hx _ fun σ H Q z => tLc_use hsub z
end
end
end DL
namespace DL
open PySem PySem.Spec PyProof.Rows L2
section
variable [KFrag]

/-! ### defs -/
def startE (n : Nat) (ws : List W) : En := ws.map some ++ List.replicate (n - ws.length) none
/-- a def's value: m parameters, n slots -/
def fnR (m n : Nat) (g : En → CS → RT) (ws : List W) (s : CS) : R W := if ws.length = m then (match g (startE n ws) s with
  | .nx _ s => .ok (.d .none) s
  | .rt w s => .ok w s
  | .exc e _ s => .exc e s
  | _ => .bad) else .bad
def noX (f : List W → CS → R W) (ws : List W) (s : CS) : R W := match f ws s with
  | .ok w s => .ok w s
  | _ => .bad
def spD (T : TX) (m : Nat) (f : List W → CS → R W) : Sp := fun vs H Q E => vs.length = m ∧ ∃ B μ s ws σ, SR B μ s H ∧ RWs B μ s H vs ws ∧ Fin T (fun c d _ H' => E c d H') B μ s H σ Q (f ws s)
section
variable {B : Addr → Prop} {μ : List Addr} {s : CS} {H : Hp}
theorem RWs.len : ∀ {vs : List V} {ws : List W}, RWs B μ s H vs ws → vs.length = ws.length
  | _, _, .nil => rfl
  | _, _, .cons _ t => by rw [List.length_cons, List.length_cons, RWs.len t]
theorem RWs.get : ∀ {vs : List V} {ws : List W} {i : Nat} {w : W}, RWs B μ s H vs ws → ws[i]? = some w → ∃ v, vs[i]? = some v ∧ RW B μ s H v w
  | _, _, _, _, .nil, e => by simp at e
  | _, _, 0, _, .cons h _, e => by simp at e; subst e; exact ⟨_, rfl, h⟩
  | _, _, i + 1, w, .cons _ t, e => by
    obtain ⟨y, h1, h2⟩ := RWs.get (i := i) (w := w) t (by simpa using e)
    exact ⟨y, by simpa using h1, h2⟩
theorem ER.start {N : List Str} {vs : List V} {ws : List W} (r : RWs B μ s H vs ws) : ER B μ s H (start N vs) (startE N.length ws) := by
  unfold L2.start startE
  refine ⟨by rw [List.length_append, List.length_append, List.length_map, List.length_map, List.length_replicate, List.length_replicate, r.len], fun i w e => ?_⟩
  by_cases hi : i < ws.length
  · rw [List.getElem?_append_left (by rw [List.length_map]; exact hi), List.getElem?_map] at e
    cases z : ws[i]? with
    | none => rw [z] at e; cases e
    | some w' =>
      rw [z] at e
      cases e
      obtain ⟨v, h1, h2⟩ := r.get z
      refine ⟨v, ?_, h2⟩
      rw [List.getElem?_append_left (by rw [List.length_map, r.len]; exact hi), List.getElem?_map, h1]
      rfl
  · rw [List.getElem?_append_right (by rw [List.length_map]; omega)] at e
    rw [List.getElem?_replicate] at e
    split at e <;> cases e
end
section
variable {P : Program} {w : World} {K : PySem.W.Frag} {mg : Str → Option Value} {base : Heap} {x qual : Str} {st : Stmt} {f : Addr} {fd : FuncData} {N ps : List Str} {k : Nat} {T : TX} {g : En → CS → RT}
theorem spD_len {T : TX} {m : Nat} {f : List W → CS → R W} : ∀ vs H Q E, spD T m f vs H Q E → vs.length = m := fun _ _ _ _ h => h.1
theorem fn_run {T : TX} {Wx : WXc} {B : Addr → Prop} {μ : List Addr} {s : CS} {H : Hp} {σ : L2.St} {vs : List V} {ws : List W} {m : Nat} {Q : VK} {E : XK} (hW : ∀ c d σ H, E c d H → Wx c d σ H) (r : SR B μ s H) (rw_ : RWs B μ s H vs ws)
    (q : Fin T (fun c d _ H' => E c d H') B μ s H σ Q (fnR m N.length g ws s)) : tT T Wx g { nx := fun _ H' => Q .non H', rt := Q } (start N vs) H := by
  refine ⟨B, μ, s, _, r, ER.start rw_, ?_⟩
  unfold fnR at q
  split at q
  · cases z : g (startE N.length ws) s with
    | nx ρ s1 => simp only [z] at q; exact fun σ' μ' H' st sr _ => q .non μ' H' st sr Fz.non
    | rt w s1 => simp only [z] at q; exact q
    | exc e ρ s1 => simp only [z] at q; exact fun σ' μ' H' c d st sr _ ex => hW _ _ _ _ (q μ' H' c d st sr ex)
    | bk ρ s1 => simp only [z] at q; exact q.elim
    | ct ρ s1 => simp only [z] at q; exact q.elim
    | bad => simp only [z] at q; exact q.elim
  · exact q.elim
theorem noX_fin {T : TX} {Wx Wy : WXc} {B : Addr → Prop} {μ : List Addr} {s : CS} {H : Hp} {σ σ' : L2.St} {Q : VK} {h : List W → CS → R W} {ws : List W} {s' : CS} (q : Fin T Wx B μ s H σ Q (noX h ws s')) : Fin T Wy B μ s H σ' Q (noX h ws s') := by
  unfold noX at q ⊢
  cases z : h ws s' with
  | ok w s1 => simp only [z] at q ⊢; exact q
  | exc e s1 => simp only [z] at q ⊢; exact q.elim
  | bad => simp only [z] at q ⊢; exact q.elim
theorem noX_un {T : TX} {Wx Wy : WXc} {B : Addr → Prop} {μ : List Addr} {s : CS} {H : Hp} {σ σ' : L2.St} {Q : VK} {h : List W → CS → R W} {ws : List W} {s' : CS} (q : Fin T Wx B μ s H σ Q (noX h ws s')) : Fin T Wy B μ s H σ' Q (h ws s') := by
  unfold noX at q
  cases z : h ws s' with
  | ok w s1 => simp only [z] at q ⊢; exact q
  | exc e s1 => simp only [z] at q; exact q.elim
  | bad => simp only [z] at q; exact q.elim
/-- a def that lets nothing out -/
theorem fn_ok {m n : Nat} (F : Fun K x qual st f fd) (S : FnScope N ps (defScope st)) (hm : ps.length = m) (hn : N.length = n)
    (hb : ∀ (cdv : Value) (A : Around) (outer : List Env) (s : Shared) (H : Hp) (E : XK), Room k (A.deeper (envOfC qual (defScope st) s.heap.objs.size f cdv)) → DSs (cxOf CX0 P w K mg base N qual (defScope st) f cdv A outer s H E).nox T Wx0 (defBody st) g) :
    FnOk P w K mg base CX0 (k + 1) f fd ps (spD T m (noX (fnR m n g))) := by
  subst hm
  subst hn
  exact F.ok S spD_len fun cdv A outer s H vs Q E hr h => by
    obtain ⟨_, B, μ, t, ws, σ, r, rw_, q⟩ := h
    exact ⟨_, hb cdv A outer s H E hr, fn_run (Wx := Wx0) (m := ps.length) (E := fun _ _ _ => False) (fun _ _ _ _ z => z) r rw_ (noX_un (Wy := Wx0) (σ' := σ) q)⟩
/-- a def that may raise -/
theorem fn_okX {m n : Nat} (F : Fun K x qual st f fd) (S : FnScope N ps (defScope st)) (hm : ps.length = m) (hn : N.length = n)
    (hb : ∀ (cdv : Value) (A : Around) (outer : List Env) (s : Shared) (H : Hp) (E : XK), Room k (A.deeper (envOfC qual (defScope st) s.heap.objs.size f cdv)) → DSs (cxOf (L2.CX P w) P w K mg base N qual (defScope st) f cdv A outer s H E) T (fun c d _ H' => E c d H') (defBody st) g) :
    FnOk P w K mg base (L2.CX P w) (k + 1) f fd ps (spD T m (fnR m n g)) := by
  subst hm
  subst hn
  exact F.okX S spD_len fun cdv A outer s H vs Q E hr h => by
    obtain ⟨_, B, μ, t, ws, σ, r, rw_, q⟩ := h
    exact ⟨_, hb cdv A outer s H E hr, fn_run (Wx := fun c d _ H' => E c d H') (E := E) (fun _ _ _ _ z => z) r rw_ q⟩
end

/-! ### calls of defs -/
def fCall (m : Nat) (h : List W → CS → R W) (fs : En → CS → R (List W)) (ρ : En) (s : CS) : R W := (fs ρ s).bind fun ws s => if ws.length = m then noX h ws s else .bad
/-- a call with data alone: the callee's cells are its own -/
def pureR (h : List W → CS → R W) (ws : List W) (s : CS) : R W := match h ws [] with
  | .ok (.d x) _ => .ok (.d x) s
  | _ => .bad
def fCallP (m : Nat) (h : List W → CS → R W) (fs : En → CS → R (List W)) (ρ : En) (s : CS) : R W := (fs ρ s).bind fun ws s => if ws.length = m then (match allD ws with
  | some _ => pureR h ws s
  | none => .bad) else .bad
section
variable {X : Cx} [HK X] {T : TX} {Wx : WXc} {f : Addr} {fd : FuncData} {ps : List Str} {k m : Nat} {h : List W → CS → R W} {x : Str} {p pos : Pos} {e : Expr} {es : List Expr} {fs : En → CS → R (List W)}
theorem de_call (F : FnOk X.prog X.w X.K X.mg X.base CX0 k f fd ps (spD T m (noX h))) (hr : Room k X.A) (hg : Gl X x) (hm : X.mg x = some (.ref f)) (hk : PySem.W.keepIn X.K (.ref f) = true) (hb : Binds X.K fd ps [])
    (ha : DA X T Wx (e :: es) fs) (hdb : (x == ("__debug__" : Str)) = false := by decide) (he : starEach (e :: es) X.env = (false, eval e X.env) :: starEach es X.env := by rfl) (hpl : (backTo pos (starEach es X.env)).any (·.1) = false := by rfl) :
    DE X T Wx (.Call (.Name x p) (e :: es) [] pos) (fCall m h fs) := PE_imp (pe_call F hr hg hm hk hb .nil pass0 ha hdb he hpl) fun σ H Q ⟨B, μ, s, ρ, r, e, q⟩ =>
  tD_bind r e q fun w s1 v μ1 H1 st1 r1 e1 rel1 q1 => by
    split at q1
    · rename_i hl
      have rel1 : RWs B μ1 s1 H1 v w := rel1
      exact ⟨by rw [List.append_nil, rel1.len]; exact hl, B, μ1, s1, w, σ, r1, by rw [List.append_nil]; exact rel1, noX_fin q1⟩
    · exact q1.elim
theorem allD_rws {B B' : Addr → Prop} {μ μ' : List Addr} {s s' : CS} {H : Hp} (hA : ∀ a, Av B' μ' s' a → Av B μ s a) : ∀ {ws : List W} {vs : List V} {ds : List D}, allD ws = some ds → RWs B μ s H vs ws → RWs B' μ' s' H vs ws
  | _, _, _, e, .nil => .nil
  | w :: ws, _, ds, e, .cons h t => by
    cases w with
    | c n => cases e
    | sc n => cases e
    | fd n => cases e
    | rg n m => cases e
    | d x =>
      unfold allD at e
      cases z : allD ws with
      | none => rw [z] at e; cases e
      | some l => exact .cons (show RW _ _ _ _ _ (.d x) from Fz.mono hA h) (allD_rws hA z t)
theorem lv_nil {a : Addr} : ¬ lv [] [] a := fun ⟨n, _, z, _⟩ => by simp at z
theorem SR.pure {B : Addr → Prop} {μ : List Addr} {s : CS} {H : Hp} (r : SR B μ s H) : SR (Av B μ s) [] [] H :=
  ⟨rfl, fun n m a z => by simp at z, fun n a z => by simp at z, fun n a z => by simp at z, r.bt', fun n a c z => by simp at z⟩
theorem pure_fin {T : TX} {Wx Wy : WXc} {B : Addr → Prop} {μ : List Addr} {s : CS} {H : Hp} {σ σ' : L2.St} {Q : VK} {ws : List W} (r : SR B μ s H) (q : Fin T Wx B μ s H σ Q (pureR h ws s)) : Fin T Wy (Av B μ s) [] [] H σ' Q (h ws []) := by
  unfold pureR at q
  cases z : h ws [] with
  | bad => simp only [z] at q; exact q.elim
  | exc e s1 => simp only [z] at q; exact q.elim
  | ok w s1 =>
    cases w with
    | c n => simp only [z] at q; exact q.elim
    | sc n => simp only [z] at q; exact q.elim
    | fd n => simp only [z] at q; exact q.elim
    | rg n m => simp only [z] at q; exact q.elim
    | d y =>
      simp only [z] at q
      intro v μ' H' st sr rel
      have rel : Fz H' (Av (Av B μ s) μ' s1) v y := rel
      exact Fin.use (a := W) (w := .d y) q (fun a o e => st.keep a o e lv_nil) r (Fz.mono (fun a z => .inl z) rel)
theorem de_callP (F : FnOk X.prog X.w X.K X.mg X.base CX0 k f fd ps (spD T m (noX h))) (hr : Room k X.A) (hg : Gl X x) (hm : X.mg x = some (.ref f)) (hk : PySem.W.keepIn X.K (.ref f) = true) (hb : Binds X.K fd ps [])
    (ha : DA X T Wx (e :: es) fs) (hdb : (x == ("__debug__" : Str)) = false := by decide) (he : starEach (e :: es) X.env = (false, eval e X.env) :: starEach es X.env := by rfl) (hpl : (backTo pos (starEach es X.env)).any (·.1) = false := by rfl) :
    DE X T Wx (.Call (.Name x p) (e :: es) [] pos) (fCallP m (noX h) fs) := PE_imp (pe_call F hr hg hm hk hb .nil pass0 ha hdb he hpl) fun σ H Q ⟨B, μ, s, ρ, r, e, q⟩ =>
  tD_bind r e q fun w s1 v μ1 H1 st1 r1 e1 rel1 q1 => by
    split at q1
    · rename_i hl
      have rel1 : RWs B μ1 s1 H1 v w := rel1
      split at q1
      · rename_i ds hd
        refine ⟨by rw [List.append_nil, rel1.len]; exact hl, Av B μ1 s1, [], [], w, σ, r1.pure, ?_, pure_fin r1 q1⟩
        rw [List.append_nil]
        exact allD_rws (fun a z => z.elim id fun z => absurd z lv_nil) hd rel1
      · exact q1.elim
    · exact q1.elim
end
end
end DL
namespace DL
open PySem PySem.Spec PyProof.Rows L2
section
variable [KFrag]

/-! ### comprehensions with two clauses -/
def consA (k : CS → R (List D)) : List D → CS → R (List D)
  | [], s => k s
  | x :: r, s => consR (.d x) (consA k r) s
def appR (a : R (List D)) (k : CS → R (List D)) : R (List D) := a.bind0 (consA k)
def comp2 (vs1 : List Nat) (h : W → En → Option En) (tt : En → CS → R Bool) (fi1 : En → CS → R (List D)) (h1 : W → En → Option En) (tt1 : En → CS → R Bool) (f : En → CS → R W) (ρ : En) : List D → CS → R (List D)
  | [], s => .ok [] s
  | x :: r, s => match h (.d x) ρ with
    | none => .bad
    | some ρ1 => (tt ρ1 s).bind0 fun b s => if b = true then (fi1 ρ1 s).bind0 fun ys s =>
        if ys.length ≤ 4096 then appR (compL h1 tt1 f (wipeE ρ1 vs1) ys s) (fun s => comp2 vs1 h tt fi1 h1 tt1 f ρ r s) else .bad
      else comp2 vs1 h tt fi1 h1 tt1 f ρ r s
def fLc2 (vs vs1 : List Nat) (fi : En → CS → R (List D)) (h : W → En → Option En) (tt : En → CS → R Bool) (fi1 : En → CS → R (List D)) (h1 : W → En → Option En) (tt1 : En → CS → R Bool) (f : En → CS → R W) (ρ : En) (s : CS) : R W :=
  (fi ρ s).bind fun items s => if items.length ≤ 4096 then endL [] (comp2 vs1 h tt fi1 h1 tt1 f (wipeE ρ vs) items s) else .bad
section
variable {T : TX} {Wx : WXc} {B : Addr → Prop} {μ μ' : List Addr} {s s' : CS} {H H' : Hp} {σ : L2.St} {ρ : En}
theorem RW.updB {D : Addr} {o : HO} {acc : List V} (h : B D) (e : H D = some (.lst acc)) {v : V} {w : W} (r : RW B μ s H v w) : RW B μ s (upd H D o) v w := by
  cases w with
  | d x => exact Fz.kp (kp_upd (.inl h)) r
  | c n => exact r
  | sc ns =>
    obtain ⟨b, eb, r⟩ := r
    rcases r with ⟨u, q, n⟩ | r
    · exact ⟨b, eb, .inl ⟨u, by rw [upd_ne (fun z => by rw [z, e] at q; cases q)]; exact q, n⟩⟩
    · exact ⟨b, eb, .inr r⟩
  | fd ds => exact FD.kp (kp_upd (.inl h)) r
  | rg lo hi => exact FR.kp (kp_upd (.inl h)) r
theorem ER.updB {D : Addr} {o : HO} {acc : List V} (h : B D) (e : H D = some (.lst acc)) (r : ER B μ s H σ ρ) : ER B μ s (upd H D o) σ ρ :=
  ⟨r.len, fun i w z => let ⟨v, e1, e2⟩ := r.at_ i w z; ⟨v, e1, e2.updB h e⟩⟩
theorem appR_bind {a : Type} {r : R a} {k : a → CS → R (List D)} {j : CS → R (List D)} : appR (r.bind0 k) j = r.bind0 fun x s => appR (k x s) j := by
  cases r <;> rfl
theorem appR_ite {b : Bool} {x y : R (List D)} {j : CS → R (List D)} : appR (if b = true then x else y) j = if b = true then appR x j else appR y j := by
  cases b <;> rfl
theorem appR_cons {y : D} {r : CS → R (List D)} {s : CS} {j : CS → R (List D)} : appR (consR (.d y) r s) j = consR (.d y) (fun s => appR (r s) j) s := by
  show ((r s).bind0 fun ys s => R.ok (y :: ys) s).bind0 (consA j) = ((r s).bind0 (consA j)).bind0 fun ys s => R.ok (y :: ys) s
  cases r s <;> rfl
theorem appR_nil {s : CS} {j : CS → R (List D)} : appR (.ok [] s) j = j s := rfl
end
section
variable {X : Cx} [HK X] {T : TX} {Wx : WXc} {elt tg iter tg1 iter1 : Expr} {ifs ifs1 : List Expr} {scope : Scope} {own : List (Str × Nat)} {vs1 : List Nat} {pos : Pos} {fi fi1 : En → CS → R (List D)} {is is1 : List Nat} {h h1 : W → En → Option En} {tt tt1 : En → CS → R Bool} {f : En → CS → R W}
theorem sq4096 {i j n : Nat} (h1 : i < 4096) (h2 : j < 4096) (h3 : n ≤ 4096 * i + j) : n < line := by
  unfold line
  omega
theorem tLc2_use {σ : L2.St} {H : Hp} {Q : VK} (hsub : ∀ i ∈ is, i ∈ own.map (·.2)) (hsub1 : ∀ i ∈ is1, i ∈ vs1) (q : tD T Wx (fLc2 (own.map (·.2)) vs1 fi h tt fi1 h1 tt1 f) σ H Q) :
    tLc2 (tD T Wx fi) (tG is h) (tD T Wx0 tt) (tD T Wx0 fi1) (tG is1 h1) (tD T Wx0 tt1) (tD T Wx0 f) (own.map (·.2)) vs1 σ H Q := by
  obtain ⟨B, μ, s, ρ, r, e, q⟩ := q
  refine tD_bind r e q fun ds s1 J μ1 H1 st1 r1 e1 rel1 q1 D hD => ?_
  split at q1
  · rename_i hlen
    obtain ⟨G, Y, w, gg, yy⟩ := rel1.ex
    refine ⟨fun i m H' => m = ds.length - i ∧ i ≤ ds.length ∧ ∃ μ' s' ys, Mk1 B μ1 s1 H1 D μ' s' H' ys ∧ ys.length ≤ 4096 * i ∧ Fin T Wx B μ1 s1 H1 σ Q (endL ys (comp2 vs1 h tt fi1 h1 tt1 f (wipeE ρ (own.map (·.2))) (ds.drop i) s')),
      ⟨ds.length, by simp, Nat.zero_le _, μ1, s1, [], Mk1.start r1 hD, Nat.zero_le _, q1⟩, ?_⟩
    rintro i m H' ⟨rfl, hi, μ', s', ys, m, hys, fq⟩
    have hG := gg H' _ (m.kp hD) m.sr.bt'
    by_cases hlt : i < ds.length
    · refine .inr ⟨w.goes i H' hlt hG, fun H' => ∃ μ' s' ys, Mk1 B μ1 s1 H1 D μ' s' H' ys ∧ ys.length ≤ 4096 * (i + 1) ∧ Fin T Wx B μ1 s1 H1 σ Q (endL ys (comp2 vs1 h tt fi1 h1 tt1 f (wipeE ρ (own.map (·.2))) (ds.drop (i + 1)) s')),
        fun H' p' => ⟨ds.length - (i + 1), by omega, rfl, hlt, p'⟩, fun x H'' y => ?_⟩
      obtain ⟨sm, d, ed, fd⟩ := yy i H' _ x H'' (m.kp hD) m.sr.bt' hlt (w.yields i H' x H'' hlt hG y)
      have ec : ds.drop i = d :: ds.drop (i + 1) := by
        obtain ⟨hl, rfl⟩ := List.getElem?_eq_some_iff.mp ed
        exact List.drop_eq_getElem_cons hl
      rw [ec] at fq
      unfold comp2 at fq
      have m2 : Mk1 B μ1 s1 H1 D μ' s' H'' ys := m.step (Stp.same sm) (m.sr.same sm)
      have er : ER (And1 B D) μ' s' H'' (wipe σ (own.map (·.2))) (wipeE ρ (own.map (·.2))) := (e1.kpB m2.st (m2.kp hD)).wipe _
      cases z1 : h (.d d) (wipeE ρ (own.map (·.2))) with
      | none => simp only [z1] at fq; exact fq.elim
      | some ρ1 =>
        simp only [z1] at fq
        refine ⟨_, μ', s', _, .d d, ρ1, m2.sr, er, fd, z1, fun σ2 e2 l2 a2 => ⟨?_, ?_⟩⟩
        · rw [wipe_eq l2 a2 hsub, wipe_wipe]
        · rw [endL_bind] at fq
          refine tD_bind0 m2.sr e2 fq fun b s3 v3 μ3 H3 st3 r3 e3 rel3 q3 => ?_
          cases rel3
          have m3 := m2.step st3 r3
          rw [endL_ite] at q3
          cases b with
          | false =>
            rw [if_neg Bool.false_ne_true] at q3 ⊢
            exact ⟨μ3, s3, ys, m3, by omega, q3⟩
          | true =>
            rw [if_pos rfl] at q3 ⊢
            rw [endL_bind] at q3
            refine tD_bind0 r3 e3 q3 fun ds1 s4 J1 μ4 H4 st4 r4 e4 rel4 q4 => ?_
            have m4 := m3.step st4 r4
            split at q4
            · rename_i hlen1
              obtain ⟨G1, Y1, w1, gg1, yy1⟩ := rel4.ex
              refine ⟨fun j k H' => k = ds1.length - j ∧ j ≤ ds1.length ∧ ∃ μ' s' ys, Mk1 B μ1 s1 H1 D μ' s' H' ys ∧ ys.length ≤ 4096 * i + j ∧ ER (And1 B D) μ' s' H' σ2 ρ1 ∧ Kp H4 H' (Av (And1 B D) μ4 s4) (Av (And1 B D) μ' s') ∧
                  Fin T Wx B μ1 s1 H1 σ Q (endL ys (appR (compL h1 tt1 f (wipeE ρ1 vs1) (ds1.drop j) s') fun s => comp2 vs1 h tt fi1 h1 tt1 f (wipeE ρ (own.map (·.2))) (ds.drop (i + 1)) s)),
                ⟨ds1.length, by simp, Nat.zero_le _, μ4, s4, ys, m4, by omega, e4, ⟨fun _ _ z _ => z, fun _ _ _ n => n⟩, q4⟩, ?_⟩
              rintro j k H5 ⟨rfl, hj, μ5, s5, zs, m5, hzs, e5, k5, f5⟩
              have hG1 := gg1 H5 _ k5 m5.sr.bt'
              by_cases hlt1 : j < ds1.length
              · refine .inr ⟨w1.goes j H5 hlt1 hG1, fun H' => ∃ μ' s' ys, Mk1 B μ1 s1 H1 D μ' s' H' ys ∧ ys.length ≤ 4096 * i + (j + 1) ∧ ER (And1 B D) μ' s' H' σ2 ρ1 ∧ Kp H4 H' (Av (And1 B D) μ4 s4) (Av (And1 B D) μ' s') ∧
                    Fin T Wx B μ1 s1 H1 σ Q (endL ys (appR (compL h1 tt1 f (wipeE ρ1 vs1) (ds1.drop (j + 1)) s') fun s => comp2 vs1 h tt fi1 h1 tt1 f (wipeE ρ (own.map (·.2))) (ds.drop (i + 1)) s)),
                  fun H' p' => ⟨ds1.length - (j + 1), by omega, rfl, hlt1, p'⟩, fun x1 H6 y1 => ?_⟩
                obtain ⟨sm1, d1, ed1, fd1⟩ := yy1 j H5 _ x1 H6 k5 m5.sr.bt' hlt1 (w1.yields j H5 x1 H6 hlt1 hG1 y1)
                have ec1 : ds1.drop j = d1 :: ds1.drop (j + 1) := by
                  obtain ⟨hl, rfl⟩ := List.getElem?_eq_some_iff.mp ed1
                  exact List.drop_eq_getElem_cons hl
                rw [ec1] at f5
                unfold compL at f5
                have st6 : Stp μ5 s5 H5 μ5 s5 H6 := Stp.same sm1
                have m6 : Mk1 B μ1 s1 H1 D μ5 s5 H6 zs := m5.step st6 (m5.sr.same sm1)
                have e6 := e5.stp st6
                have k6 := k5.trans st6.kp
                cases z2 : h1 (.d d1) (wipeE ρ1 vs1) with
                | none => simp only [z2] at f5; exact f5.elim
                | some ρ2 =>
                  simp only [z2] at f5
                  refine ⟨_, μ5, s5, _, .d d1, ρ2, m6.sr, e6.wipe _, fd1, z2, fun σ3 e7 l3 a3 => ⟨?_, ?_⟩⟩
                  · rw [wipe_eq l3 a3 hsub1, wipe_wipe]
                  · rw [appR_bind, endL_bind] at f5
                    refine tD_bind0 m6.sr e7 f5 fun b s7 v7 μ7 H7 st7 r7 e8 rel7 q7 => ?_
                    cases rel7
                    have m7 := m6.step st7 r7
                    rw [appR_ite, endL_ite] at q7
                    cases b with
                    | false =>
                      rw [if_neg Bool.false_ne_true] at q7 ⊢
                      exact ⟨μ7, s7, zs, m7, by omega, e6.stp st7, k6.trans st7.kp, q7⟩
                    | true =>
                      rw [if_pos rfl] at q7 ⊢
                      rw [appR_bind, endL_bind] at q7
                      refine tD_bind0 r7 e8 q7 fun w8 s8 v8 μ8 H8 st8 r8 e9 rel8 q8 => ?_
                      have m8 := m7.step st8 r8
                      cases w8 with
                      | c n => exact q8.elim
                      | sc n => exact q8.elim
                      | fd n => exact q8.elim
                      | rg n m => exact q8.elim
                      | d y8 =>
                        rw [appR_cons, endL_cons] at q8
                        obtain ⟨acc, ea, hacc, m9⟩ := m8.push hD rel8 (sq4096 (by omega) (by omega) hzs)
                        exact ⟨acc, ea, hacc, μ8, s8, zs ++ [y8], m9, by simp; omega, ((e6.stp st7).stp st8).updB (.inr rfl) ea, ((k6.trans st7.kp).trans st8.kp).trans (kp_upd (.inl (.inr rfl))), q8⟩
              · have ej : j = ds1.length := by omega
                subst ej
                rw [List.drop_length] at f5
                exact .inl ⟨w1.stops H5 hG1, μ5, s5, zs, m5, by omega, f5⟩
            · exact q4.elim
    · have ei : i = ds.length := by omega
      subst ei
      rw [List.drop_length] at fq
      have fq : Fin (a := W) T Wx B μ1 s1 H1 σ Q (.ok (.d (.list (ys ++ []))) s') := fq
      rw [List.append_nil] at fq
      exact .inl ⟨w.stops H' hG, m.done r1 hD fq⟩
  · exact q1.elim
theorem de_lc2 (hc : X.calm = true) (hN : X.N.Nodup) (hi : DI X T Wx tg iter fi) (ok : BlkOk X.N X.env.scope scope own) (hv : ∀ i ∈ vs1, i ∈ own.map (·.2)) (hsub : ∀ i ∈ is, i ∈ own.map (·.2)) (hsub1 : ∀ i ∈ is1, i ∈ vs1)
    (hg : ∀ (s : Shared) (H : Hp) (C : Addr) (cl : List (Str × Addr)) (fp : List Addr), DG (X.blk s H scope (compEnvC scope cl C X.env) fp) tg is h) (ht : ∀ (s : Shared) (H : Hp) (C : Addr) (cl : List (Str × Addr)) (fp : List Addr), PTs (X.blk s H scope (compEnvC scope cl C X.env) fp) ifs (tD T Wx0 tt))
    (hi1 : ∀ (s : Shared) (H : Hp) (C : Addr) (cl : List (Str × Addr)) (fp : List Addr), DI (X.blk s H scope (compEnvC scope cl C X.env) fp) T Wx0 tg1 iter1 fi1)
    (hg1 : ∀ (s : Shared) (H : Hp) (C : Addr) (cl : List (Str × Addr)) (fp : List Addr), DG (X.blk s H scope (compEnvC scope cl C X.env) fp) tg1 is1 h1) (ht1 : ∀ (s : Shared) (H : Hp) (C : Addr) (cl : List (Str × Addr)) (fp : List Addr), PTs (X.blk s H scope (compEnvC scope cl C X.env) fp) ifs1 (tD T Wx0 tt1))
    (he : ∀ (s : Shared) (H : Hp) (C : Addr) (cl : List (Str × Addr)) (fp : List Addr), DE (X.blk s H scope (compEnvC scope cl C X.env) fp) T Wx0 elt f) (hs : ∀ x, foldedSetIterable iter X.env x = pure x := by intro _; rfl) (hs1 : ∀ env x, foldedSetIterable iter1 env x = pure x := by intro _ _; rfl) :
    DE X T Wx (.ListComp elt [⟨tg, iter, ifs, 0⟩, ⟨tg1, iter1, ifs1, 0⟩] scope pos) (fLc2 (own.map (·.2)) vs1 fi h tt fi1 h1 tt1 f) :=
  PE_imp (pe_lc2 hc hN hi ok hv hg ht hi1 hg1 ht1 he hs hs1) fun σ H Q => tLc2_use hsub hsub1
theorem ds_setLc2 {i : Nat} {y : Str} {py spos : Pos} (hc : X.calm = true) (hN' : X.N.Nodup) (hy : X.N[i]? = some y) (hyl : X.env.scope.names.lookup y = some .local)
    (hsw : swapsWith (.ListComp elt [⟨tg, iter, ifs, 0⟩, ⟨tg1, iter1, ifs1, 0⟩] scope pos) (some (.Name y py)) spos.line X.env = pure true) (hi : DI X T Wx tg iter fi) (ok : BlkOk X.N X.env.scope scope own) (hv : ∀ i ∈ vs1, i ∈ own.map (·.2)) (hsub : ∀ i ∈ is, i ∈ own.map (·.2)) (hsub1 : ∀ i ∈ is1, i ∈ vs1)
    (hg : ∀ (s : Shared) (H : Hp) (C : Addr) (cl : List (Str × Addr)) (fp : List Addr), DG (X.blk s H scope (compEnvC scope cl C X.env) fp) tg is h) (ht : ∀ (s : Shared) (H : Hp) (C : Addr) (cl : List (Str × Addr)) (fp : List Addr), PTs (X.blk s H scope (compEnvC scope cl C X.env) fp) ifs (tD T Wx0 tt))
    (hi1 : ∀ (s : Shared) (H : Hp) (C : Addr) (cl : List (Str × Addr)) (fp : List Addr), DI (X.blk s H scope (compEnvC scope cl C X.env) fp) T Wx0 tg1 iter1 fi1)
    (hg1 : ∀ (s : Shared) (H : Hp) (C : Addr) (cl : List (Str × Addr)) (fp : List Addr), DG (X.blk s H scope (compEnvC scope cl C X.env) fp) tg1 is1 h1) (ht1 : ∀ (s : Shared) (H : Hp) (C : Addr) (cl : List (Str × Addr)) (fp : List Addr), PTs (X.blk s H scope (compEnvC scope cl C X.env) fp) ifs1 (tD T Wx0 tt1))
    (he : ∀ (s : Shared) (H : Hp) (C : Addr) (cl : List (Str × Addr)) (fp : List Addr), DE (X.blk s H scope (compEnvC scope cl C X.env) fp) T Wx0 elt f) (hs : ∀ x, foldedSetIterable iter X.env x = pure x := by intro _; rfl) (hs1 : ∀ env x, foldedSetIterable iter1 env x = pure x := by intro _ _; rfl) :
    DS X T Wx (.Assign [.Name y py] (.ListComp elt [⟨tg, iter, ifs, 0⟩, ⟨tg1, iter1, ifs1, 0⟩] scope pos) spos) (gAsg (hN i) (fLc2 (own.map (·.2)) vs1 fi h tt fi1 h1 tt1 f)) := PS_imp (ps_setLc2 hc hN' hy hyl hsw hi ok hv hg ht hi1 hg1 ht1 he hs hs1) fun D σ H q => by
  have hx : ∀ (t : TE), (∀ σ H Q, tD T Wx (fLc2 (own.map (·.2)) vs1 fi h tt fi1 h1 tt1 f) σ H Q → t σ H Q) → tAsg t (gName i) D σ H := fun t k => by
    obtain ⟨B, μ, s, ρ, r, e, q⟩ := q
    exact k σ H _ (tD_bindT r e q fun w s1 v μ1 H1 st1 r1 e1 rel1 q1 => q1 _ μ1 H1 Stp.refl r1 (e1.set rel1 i))
  exact hx _ fun σ H Q z => tLc2_use hsub hsub1 z
end
end
end DL
namespace DL
open PySem PySem.Spec PyProof.Rows L2
section
variable [KFrag]

/-! ### cells: lists that are changed -/
section
variable {B : Addr → Prop} {μ : List Addr} {s : CS} {H : Hp} {σ : L2.St} {ρ : En}
theorem get_last {α : Type} {l : List α} {a b : α} {n : Nat} (h : (l ++ [a])[n]? = some b) : l[n]? = some b ∨ (n = l.length ∧ b = a) := by
  by_cases hn : n < l.length
  · rw [List.getElem?_append_left hn] at h
    exact .inl h
  · rw [List.getElem?_append_right (by omega)] at h
    have e : n = l.length := by
      have := (List.getElem?_eq_some_iff.mp h).1
      simp at this
      omega
    subst e
    simp at h
    exact .inr ⟨rfl, h.symm⟩
theorem lv_last {p a : Addr} {c : Cell} (hl : μ.length = s.length) (h : lv (μ ++ [p]) (s ++ [c]) a) : lv μ s a ∨ a = p := by
  obtain ⟨n, d, e1, e2, e3⟩ := h
  rcases get_last e1 with z | ⟨_, z⟩
  · refine .inl ⟨n, d, z, ?_, e3⟩
    rcases get_last e2 with y | ⟨y, _⟩
    · exact y
    · have := (List.getElem?_eq_some_iff.mp z).1
      omega
  · exact .inr z
/-- a new cell at p -/
theorem kp_newC {p : Addr} {o : HO} {c : Cell} (hl : μ.length = s.length) (hp : H p = none) : Kp H (upd H p o) (Av B μ s) (Av B (μ ++ [p]) (s ++ [c])) :=
  ⟨fun a x e _ => same_upd hp a x e, fun a x e n z => z.elim (fun z => n (.inl z)) fun z => (lv_last hl z).elim (fun z => n (.inr z)) fun z => by rw [z, hp] at e; cases e⟩
theorem newCc {p : Addr} {o : HO} {c : Cell} (r : SR B μ s H) (hp : H p = none) (f : ∀ H' A', Kp H H' (Av B μ s) A' → H' p = some o → CellOk (μ ++ [p]) H' A' p c) :
    SR B (μ ++ [p]) (s ++ [c]) (upd H p o) ∧ Stp μ s H (μ ++ [p]) (s ++ [c]) (upd H p o) := by
  have hpm : ∀ (n : Nat), μ[n]? ≠ some p := fun n z => r.th n p z hp
  refine ⟨⟨by simp [r.len], fun n m a e1 e2 => ?_, fun n a e => ?_, fun n a e z => ?_, fun a z => ?_, fun n a c e1 e2 => ?_⟩, ⟨⟨[p], rfl⟩, fun a o e _ => same_upd hp a o e, fun a e => ?_, fun a z => (lv_last r.len z).elim .inl fun z => .inr (by rw [z]; exact hp)⟩⟩
  · rcases get_last e1 with z1 | ⟨z1, y1⟩
    · rcases get_last e2 with z2 | ⟨z2, y2⟩
      · exact r.inj n m a z1 z2
      · exact absurd (by rw [← y2]; exact z1) (hpm n)
    · rcases get_last e2 with z2 | ⟨z2, y2⟩
      · exact absurd (by rw [← y1]; exact z2) (hpm m)
      · rw [z1, z2]
  · rcases get_last e with z | ⟨_, z⟩
    · cases y : H a with
      | none => exact absurd y (r.th n a z)
      | some o => rw [same_upd hp a o y]; simp
    · rw [z, upd_same]; simp
  · rcases get_last e with y | ⟨_, y⟩
    · exact r.nb n a y z
    · exact r.bt a z (by rw [y]; exact hp)
  · cases y : H a with
    | none => exact absurd y (r.bt a z)
    | some o => rw [same_upd hp a o y]; simp
  · rcases get_last e1 with z | ⟨zn, z⟩
    · rcases get_last e2 with y | ⟨y, _⟩
      · exact ((r.cell n a _ z y).kp (kp_newC r.len hp) fun o e => same_upd hp _ _ e).mu fun m b e => by rw [List.getElem?_append_left (List.getElem?_eq_some_iff.mp e).1]; exact e
      · have := (List.getElem?_eq_some_iff.mp z).1
        have := r.len
        omega
    · rcases get_last e2 with y | ⟨_, y⟩
      · have := (List.getElem?_eq_some_iff.mp y).1
        have := r.len
        omega
      · subst z
        subst y
        exact f _ _ (kp_newC r.len hp) upd_same
  · cases y : H a with
    | none => exact absurd y e
    | some o => rw [same_upd hp a o y]; simp
theorem newC {p : Addr} {xs : List V} {ds : List D} (r : SR B μ s H) (hp : H p = none) (f : Fzs H (Av B μ s) xs ds) :
    SR B (μ ++ [p]) (s ++ [.lst ds]) (upd H p (.lst xs)) ∧ Stp μ s H (μ ++ [p]) (s ++ [.lst ds]) (upd H p (.lst xs)) := newCc r hp fun _ _ k e => ⟨xs, e, f.kp k⟩
/-- a cell's list is changed -/
theorem lv_put {n : Nat} {c : Cell} {a : Addr} (hd : ∃ c0, s[n]? = some c0 ∧ c0 ≠ .dead) (h : lv μ (s.set n c) a) : lv μ s a := by
  obtain ⟨m, d, e1, e2, e3⟩ := h
  by_cases hm : n = m
  · subst hm
    obtain ⟨c0, z1, z2⟩ := hd
    exact ⟨n, c0, e1, z1, z2⟩
  · rw [List.getElem?_set_ne hm] at e2
    exact ⟨m, d, e1, e2, e3⟩
theorem putCc {n : Nat} {a : Addr} {o : HO} {c0 c1 : Cell} (r : SR B μ s H) (ha : μ[n]? = some a) (hs : s[n]? = some c0) (h0 : c0 ≠ .dead) (f : ∀ H' A', Kp H H' (Av B μ s) A' → H' a = some o → CellOk μ H' A' a c1) :
    SR B μ (s.set n c1) (upd H a o) ∧ Stp μ s H μ (s.set n c1) (upd H a o) := by
  have hlive : ∃ c0, s[n]? = some c0 ∧ c0 ≠ Cell.dead := ⟨_, hs, h0⟩
  have la : lv μ s a := ⟨n, _, ha, hs, h0⟩
  have hk : Kp H (upd H a o) (Av B μ s) (Av B μ (s.set n c1)) :=
    ⟨fun b u e nb => by rw [upd_ne (fun z => nb (.inr (by rw [z]; exact la)))]; exact e, fun b u e nb z => z.elim (fun z => nb (.inl z)) fun z => nb (.inr (lv_put hlive z))⟩
  have hth : ∀ b, H b ≠ none → upd H a o b ≠ none := fun b e => by
    by_cases hb : b = a
    · rw [hb, upd_same]; simp
    · rw [upd_ne hb]; exact e
  refine ⟨⟨by rw [List.length_set]; exact r.len, r.inj, fun m b e => hth b (r.th m b e), r.nb, fun b z => hth b (r.bt b z), fun m b c e1 e2 => ?_⟩, ⟨⟨[], by simp⟩, fun b u e nb => by rw [upd_ne (fun z => nb (by rw [z]; exact la))]; exact e, hth, fun b z => .inl (lv_put hlive z)⟩⟩
  by_cases hm : n = m
  · subst hm
    rw [ha] at e1
    cases e1
    rw [List.getElem?_set_self (List.getElem?_eq_some_iff.mp hs).1] at e2
    cases e2
    exact f _ _ hk upd_same
  · rw [List.getElem?_set_ne hm] at e2
    refine (r.cell m b c e1 e2).kp hk fun u e => ?_
    rw [upd_ne (fun z => hm (r.inj n m a ha (by rw [← z]; exact e1)))]
    exact e
theorem putC {n : Nat} {a : Addr} {xs : List V} {ds es : List D} (r : SR B μ s H) (ha : μ[n]? = some a) (hs : s[n]? = some (.lst es)) (f : Fzs H (Av B μ s) xs ds) :
    SR B μ (s.set n (.lst ds)) (upd H a (.lst xs)) ∧ Stp μ s H μ (s.set n (.lst ds)) (upd H a (.lst xs)) := putCc r ha hs (by simp) fun _ _ k e => ⟨xs, e, f.kp k⟩
/-- a cell is given up: its list is data from now on -/
theorem frzC {n : Nat} {a : Addr} {ds : List D} (r : SR B μ s H) (ha : μ[n]? = some a) (hs : s[n]? = some (.lst ds)) :
    SR B μ (s.set n .dead) H ∧ Stp μ s H μ (s.set n .dead) H ∧ Fz H (Av B μ (s.set n .dead)) (.ref a) (.list ds) := by
  have hlive : ∃ c0, s[n]? = some c0 ∧ c0 ≠ Cell.dead := ⟨_, hs, by simp⟩
  have hA : ∀ b, Av B μ (s.set n .dead) b → Av B μ s b := fun b z => z.elim .inl fun z => .inr (lv_put hlive z)
  obtain ⟨xs, e, f⟩ := r.cell n a _ ha hs
  refine ⟨⟨by rw [List.length_set]; exact r.len, r.inj, r.th, r.nb, r.bt, fun m b c e1 e2 => ?_⟩, ⟨⟨[], by simp⟩, fun b o e _ => e, fun b e => e, fun b z => .inl (lv_put hlive z)⟩, .lst ⟨e, fun z => ?_⟩ (f.mono hA)⟩
  · by_cases hm : n = m
    · subst hm
      rw [List.getElem?_set_self (List.getElem?_eq_some_iff.mp hs).1] at e2
      cases e2
      trivial
    · rw [List.getElem?_set_ne hm] at e2
      exact (r.cell m b c e1 e2).kp ⟨fun _ _ e _ => e, fun b _ _ n z => n (hA b z)⟩ fun _ e => e
  · rcases z with z | ⟨m, c, e1, e2, e3⟩
    · exact r.nb n a ha z
    · have hm : n = m := r.inj n m a ha e1
      subst hm
      rw [List.getElem?_set_self (List.getElem?_eq_some_iff.mp hs).1] at e2
      cases e2
      exact e3 rfl
end
/-- [..] that will be changed -/
def fNew (fs : En → CS → R (List W)) (ρ : En) (s : CS) : R W := (fs ρ s).bind fun ws s => match allD ws with
  | some ds => if ds.length ≤ line then .ok (.c s.length) (s ++ [.lst ds]) else .bad
  | none => .bad
/-- the name of a cell, read as data: from now on it is not changed -/
def fFrz (i : Nat) (ρ : En) (s : CS) : R W := match ρ[i]? with
  | some (some (.c n)) => match s[n]? with
    | some (.lst ds) => .ok (.d (.list ds)) (s.set n .dead)
    | _ => .bad
  | some (some w) => .ok w s
  | _ => .bad
/-- an item of a cell -/
def ixC (w u : W) (s : CS) : R W := match w, u with
  | .c n, .d (.int i) => match s[n]? with
    | some (.lst ds) => match atI ds i with
      | some z => .ok (.d z) s
      | none => .bad
    | _ => .bad
  | _, _ => .bad
def fIxC (f g : En → CS → R W) (ρ : En) (s : CS) : R W := (f ρ s).bind fun w s => (g ρ s).bind fun u s => ixC w u s
def gPutC (fv f g : En → CS → R W) (ρ : En) (s : CS) : RT := (fv ρ s).toT ρ fun v s => (f ρ s).toT ρ fun w s => (g ρ s).toT ρ fun u s => match v, w, u with
  | .d x, .c n, .d (.int i) => match s[n]? with
    | some (.lst ds) => match ixN ds.length i with
      | some j => .nx ρ (s.set n (.lst (ds.set j x)))
      | none => .bad
    | _ => .bad
  | _, _, _ => .bad
def appC (n : Nat) (u : W) (s : CS) (ρ : En) : RT := match u with
  | .d x => match s[n]? with
    | some (.lst ds) => if ds.length < line then .nx ρ (s.set n (.lst (ds ++ [x]))) else .bad
    | _ => .bad
  | _ => .bad
def extC (n : Nat) (u : W) (s : CS) (ρ : En) : RT := match u with
  | .d (.list es) => match s[n]? with
    | some (.lst ds) => if ds.length + es.length ≤ line then .nx ρ (s.set n (.lst (ds ++ es))) else .bad
    | _ => .bad
  | _ => .bad
def onC (k : Nat → CS → RT) (w : W) (s : CS) : RT := match w with
  | .c n => match s[n]? with
    | some (.lst _) => k n s
    | _ => .bad
  | _ => .bad
def gAppC (f g : En → CS → R W) (ρ : En) (s : CS) : RT := (f ρ s).toT ρ (onC fun n s => (g ρ s).toT ρ fun u s => appC n u s ρ)
def gExtC (f g : En → CS → R W) (ρ : En) (s : CS) : RT := (f ρ s).toT ρ (onC fun n s => (g ρ s).toT ρ fun u s => extC n u s ρ)
section
variable {X : Cx} [HK X] {T : TX} {Wx : WXc} {es : List Expr} {fs : En → CS → R (List W)} {e e2 e3 : Expr} {f g fv : En → CS → R W} {pos p2 apos : Pos}
theorem de_new (h : DA X T Wx es fs) : DE X T Wx (.List es pos) (fNew fs) := PE_imp (pe_lst h) fun σ H Q ⟨B, μ, s, ρ, r, e, q⟩ =>
  tD_bind r e q fun w s1 v μ1 H1 st1 r1 e1 rel1 q1 => by
    cases z : allD w with
    | none => simp only [z] at q1; exact q1.elim
    | some ds =>
      simp only [z] at q1
      split at q1
      · rename_i hl
        have fz := allD_fz z rel1
        refine ⟨by rw [fz.len, line_eq]; exact hl, fun p hp => ?_⟩
        obtain ⟨a, b⟩ := newC r1 hp fz
        refine q1 _ _ _ b a ⟨p, rfl, ?_⟩
        rw [← r1.len]
        simp
      · exact q1.elim
theorem de_frz {i : Nat} (h : PE X e (tVar i)) : DE X T Wx e (fFrz i) := PE_imp h fun σ H Q ⟨B, μ, s, ρ, r, e, q⟩ => by
  unfold fFrz at q
  cases z : ρ[i]? with
  | none => simp only [z] at q; exact q.elim
  | some o =>
    cases o with
    | none => simp only [z] at q; exact q.elim
    | some w =>
      obtain ⟨v, h1, h2⟩ := e.at_ i w z
      cases w with
      | d x => simp only [z] at q; exact ⟨v, h1, Fin.here q r h2⟩
      | sc ns => simp only [z] at q; exact ⟨v, h1, Fin.here q r h2⟩
      | fd ns => simp only [z] at q; exact ⟨v, h1, Fin.here q r h2⟩
      | rg ns ms => simp only [z] at q; exact ⟨v, h1, Fin.here q r h2⟩
      | c n =>
        simp only [z] at q
        obtain ⟨a, ev, ha⟩ := h2
        subst ev
        split at q
        · rename_i ds hs
          obtain ⟨a1, a2, a3⟩ := frzC r ha hs
          exact ⟨_, h1, q _ _ _ a2 a1 a3⟩
        · exact q.elim
theorem ixC_use {B : Addr → Prop} {μ : List Addr} {s : CS} {H : Hp} {σ : L2.St} {Q : VK} {w u : W} {x y : V} (r : SR B μ s H) (hw : RW B μ s H x w) (hu : RW B μ s H y u) (q : Fin T Wx B μ s H σ Q (ixC w u s)) : rIxL X.K x y H Q := by
  unfold ixC at q
  split at q
  · rename_i n i
    split at q
    · rename_i ds hs
      split at q
      · rename_i z hz
        obtain ⟨a, ev, ha⟩ := hw
        subst ev
        have hu : Fz H (Av B μ s) y (.int i) := hu
        cases hu
        obtain ⟨xs, ea, f⟩ := r.cell n a _ ha hs
        obtain ⟨v, h1, h2⟩ := Fzs_atI f hz
        exact ⟨a, xs, i, v, rfl, rfl, .of ea, h1, Fin.here q r h2⟩
      · exact q.elim
    · exact q.elim
  · exact q.elim
theorem de_ixC (ha : DE X T Wx e f) (hb : DE X T Wx e2 g) (hs : PlainIx e2 := by exact fun _ _ => rfl) : DE X T Wx (.Subscript e e2 pos) (fIxC f g) := PE_imp (pe_ix ix_list ha hb hs) fun σ H Q ⟨B, μ, s, ρ, r, e, q⟩ =>
  tD_bind r e q fun w s1 v μ1 H1 st1 r1 e1 rel1 q1 => tD_bind r1 e1 q1 fun u s2 x μ2 H2 st2 r2 e2 rel2 q2 => ixC_use r2 (Rp.stp (a := W) (b := V) st2 rel1) rel2 q2
theorem Fzs.set {H : Hp} {A : Addr → Prop} {v : V} {x : D} (h : Fz H A v x) : ∀ {vs : List V} {ds : List D} (j : Nat), Fzs H A vs ds → Fzs H A (vs.set j v) (ds.set j x)
  | _, _, _, .nil => .nil
  | _, _, 0, .cons _ t => .cons h t
  | _, _, j + 1, .cons a t => .cons a (Fzs.set h j t)
theorem ds_put (hv : DE X T Wx e3 fv) (ha : DE X T Wx e f) (hb : DE X T Wx e2 g) (hs : swapsWithSole [.Subscript e e2 p2] e3 pos.line X.env = pure false := by rfl) (hw : swappedStores [.Subscript e e2 p2] e3 X.env = pure none := by rfl)
    (h1 : (assignEach [.Subscript e e2 p2] X.env).map (·.2) = [assign (.Subscript e e2 p2) X.env] := by rfl)
    (hx : ∀ v, assign (.Subscript e e2 p2) X.env v = (do
      let ov ← holding [v] (eval e X.env)
      let iv ← holding [v, ov] (eval e2 X.env)
      standAt p2
      holding [v, ov, iv] (setItem ov iv v)
      release [v, ov, iv] []) := by intro _; rfl) : DS X T Wx (.Assign [.Subscript e e2 p2] e3 pos) (gPutC fv f g) :=
  PS_imp (ps_asg hv (pg_sub ha hb set_list hx) hs hw h1) fun D σ H ⟨B, μ, s, ρ, r, e, q⟩ =>
  tD_bindT r e q fun v s1 x μ1 H1 st1 r1 e1 rel1 q1 => tD_bindT r1 e1 q1 fun w s2 y μ2 H2 st2 r2 e2 rel2 q2 => tD_bindT r2 e2 q2 fun u s3 z μ3 H3 st3 r3 e3 rel3 q3 => by
    split at q3
    · rename_i x0 n i
      split at q3
      · rename_i ds hs
        split at q3
        · rename_i j hj
          obtain ⟨a, ev, ha⟩ := RW.stp st3 rel2
          subst ev
          have rel3 : Fz H3 (Av B μ3 s3) z (.int i) := rel3
          cases rel3
          obtain ⟨xs, ea, f⟩ := r3.cell n a _ ha hs
          have fx : Fz H3 (Av B μ3 s3) x x0 := RW.stp (st2.trans st3) rel1
          obtain ⟨a1, a2⟩ := putC r3 ha hs (Fzs.set fx j f)
          exact ⟨a, xs, i, j, rfl, rfl, ea, by rw [f.len]; exact hj, q3 σ _ _ a2 a1 (e3.stp a2)⟩
        · exact q3.elim
      · exact q3.elim
    · exact q3.elim
theorem onC_use {B : Addr → Prop} {μ : List Addr} {s : CS} {H : Hp} {D : Ends} {k : Nat → CS → RT} {w : W} {x : V} (r : SR B μ s H) (h : RW B μ s H x w) (q : FinT T Wx B μ s H D (onC k w s)) :
    ∃ n a xs, x = .ref a ∧ μ[n]? = some a ∧ H a = some (.lst xs) ∧ FinT T Wx B μ s H D (k n s) := by
  unfold onC at q
  split at q
  · rename_i n
    split at q
    · rename_i ds hs
      obtain ⟨a, ev, ha⟩ := h
      obtain ⟨xs, ea, f⟩ := r.cell n a _ ha hs
      exact ⟨n, a, xs, ev, ha, ea, q⟩
    · exact q.elim
  · exact q.elim
theorem ds_meth {name : Str} {id : String} {rr : V → List V → Hp → VK → Prop} {kk : Nat → W → CS → En → RT} (slot : Slot "list" name id) (hty : typeOf (.builtin id) = pure (.type "method_descriptor")) (hm : MtR X id rr)
    (hk : ∀ (B : Addr → Prop) (μ : List Addr) (s : CS) (H : Hp) (σ : L2.St) (ρ : En) (D : Ends) (n : Nat) (a : Addr) (w : W) (v : V), SR B μ s H → ER B μ s H σ ρ → μ[n]? = some a → RW B μ s H v w → FinT T Wx B μ s H D (kk n w s ρ) → rr (.ref a) [v] H fun _ H' => D.nx σ H')
    (ha : DE X T Wx e f) (hb : DE X T Wx e2 g) (hbase : attributeBase e name X.env (eval e X.env) = eval e X.env)
    (hfew : ((backTo p2 (starEach [e2] X.env)).all (fun x => !x.1) && (backToKw p2 (keywordEach [] X.env)).all (fun x => x.1.isSome)
      && decide ([e2].length + ([] : List Keyword).length + (if ([] : List Keyword).isEmpty then 0 else 1) < 30)) = true)
    (hline : (apos.endLine == p2.line) = true) (hs : starEach [e2] X.env = (false, eval e2 X.env) :: starEach [] X.env) (hplain : (backTo p2 (starEach [] X.env)).any (·.1) = false)
    (hsw : swapsWith (.Call (.Attribute e name apos) [e2] [] p2) none pos.line X.env = pure false) :
    DS X T Wx (.Expr (.Call (.Attribute e name apos) [e2] [] p2) pos) (fun ρ s => (f ρ s).toT ρ (onC fun n s => (g ρ s).toT ρ fun u s => kk n u s ρ)) :=
  PS_imp (ps_expr (pe_bm PySem.F.plainAttrs_list slot hty hm ha (pa_cons hb pa_nil hs) hbase hfew hline hs hplain) hsw) fun D σ H ⟨B, μ, s, ρ, r, e, q⟩ =>
  tD_bindT r e q fun w s1 x μ1 H1 st1 r1 e1 rel1 q1 => by
    obtain ⟨n, a, xs, ev, ha, ea, q1⟩ := onC_use r1 rel1 q1
    subst ev
    refine ⟨.inl ⟨rfl, xs, .of ea⟩, ?_⟩
    exact tD_bindT r1 e1 q1 fun u s2 y μ2 H2 st2 r2 e2 rel2 q2 => by
      have ha2 : μ2[n]? = some a := by
        obtain ⟨t, rfl⟩ := st2.pre
        rw [List.getElem?_append_left (List.getElem?_eq_some_iff.mp ha).1]
        exact ha
      exact hk B μ2 s2 H2 σ ρ D n a u y r2 e2 ha2 rel2 q2
theorem ds_app (ha : DE X T Wx e f) (hb : DE X T Wx e2 g) (hbase : attributeBase e "append" X.env (eval e X.env) = eval e X.env := by rfl)
    (hfew : ((backTo p2 (starEach [e2] X.env)).all (fun x => !x.1) && (backToKw p2 (keywordEach [] X.env)).all (fun x => x.1.isSome)
      && decide ([e2].length + ([] : List Keyword).length + (if ([] : List Keyword).isEmpty then 0 else 1) < 30)) = true := by rfl)
    (hline : (apos.endLine == p2.line) = true := by rfl) (hs : starEach [e2] X.env = (false, eval e2 X.env) :: starEach [] X.env := by rfl) (hplain : (backTo p2 (starEach [] X.env)).any (·.1) = false := by rfl)
    (hsw : swapsWith (.Call (.Attribute e "append" apos) [e2] [] p2) none pos.line X.env = pure false := by rfl) :
    DS X T Wx (.Expr (.Call (.Attribute e "append" apos) [e2] [] p2) pos) (gAppC f g) :=
  ds_meth (kk := appC) PySem.F.slot_list_append PySem.F.type_list_append mt_append (fun B μ s H σ ρ D n a w v r er ha rel q => by
    unfold appC at q
    split at q
    · rename_i x0
      split at q
      · rename_i ds hs
        split at q
        · rename_i hl
          obtain ⟨xs, ea, f⟩ := r.cell n a _ ha hs
          obtain ⟨a1, a2⟩ := putC r ha hs (f.app (.cons rel .nil))
          exact ⟨a, xs, v, rfl, rfl, ea, by rw [f.len, line_eq]; exact hl, q σ _ _ a2 a1 (er.stp a2)⟩
        · exact q.elim
      · exact q.elim
    · exact q.elim) ha hb hbase hfew hline hs hplain hsw
theorem ds_ext (ha : DE X T Wx e f) (hb : DE X T Wx e2 g) (hbase : attributeBase e "extend" X.env (eval e X.env) = eval e X.env := by rfl)
    (hfew : ((backTo p2 (starEach [e2] X.env)).all (fun x => !x.1) && (backToKw p2 (keywordEach [] X.env)).all (fun x => x.1.isSome)
      && decide ([e2].length + ([] : List Keyword).length + (if ([] : List Keyword).isEmpty then 0 else 1) < 30)) = true := by rfl)
    (hline : (apos.endLine == p2.line) = true := by rfl) (hs : starEach [e2] X.env = (false, eval e2 X.env) :: starEach [] X.env := by rfl) (hplain : (backTo p2 (starEach [] X.env)).any (·.1) = false := by rfl)
    (hsw : swapsWith (.Call (.Attribute e "extend" apos) [e2] [] p2) none pos.line X.env = pure false := by rfl) :
    DS X T Wx (.Expr (.Call (.Attribute e "extend" apos) [e2] [] p2) pos) (gExtC f g) :=
  ds_meth (kk := extC) PySem.F.slot_list_extend PySem.F.type_list_extend mt_extend (fun B μ s H σ ρ D n a w v r er ha rel q => by
    unfold extC at q
    split at q
    · rename_i es
      split at q
      · rename_i ds hs
        split at q
        · rename_i hl
          obtain ⟨xs, ea, f⟩ := r.cell n a _ ha hs
          have rel : Fz H (Av B μ s) v (.list es) := rel
          cases rel with
          | @lst b zs _ h1 f1 =>
            obtain ⟨a1, a2⟩ := putC r ha hs (f.app f1)
            exact ⟨a, b, xs, zs, rfl, rfl, ea, h1.1, by rw [f.len, f1.len, line_eq]; exact hl, q σ _ _ a2 a1 (er.stp a2)⟩
        · exact q.elim
      · exact q.elim
    · exact q.elim) ha hb hbase hfew hline hs hplain hsw
end
end
end DL
namespace DL
open PySem PySem.Spec PyProof.Rows L2
/-! ### tuple * k, k ≤ 1 -/
theorem tuple_mul1 (l : Addr) (items : Array Value) (n : Nat) (dd : Option Addr) (sl : Array (Option Value)) (x : Int) (u : Tok) (c0 : (decide (x < -(2 ^ 63)) || decide (x ≥ 2 ^ 63)) = false) (c1 : (items.isEmpty || x == 1) = true) :
    Meets (Builtin.«tuple.__mul__» ⟨[.ref l, .int x u], []⟩) (fun _ R s => s.heap.get? l = some { cls := .type "tuple", dict := dd, data := .seq items n, slots := sl } ∧ R (.ok (.ret (Value.ref l))) s) :=
  .of_wp fun prog w A R s h => by
    obtain ⟨hp, g, d, tk, os⟩ := s
    obtain ⟨hl, h⟩ := h
    have f1 := AutoSeq1.idx_int
    wp_walk using wpAny_loadPart' hl
    repeat (first
      | (refine wpAny_ite_false (decide_eq_false (by rw [c0]; exact Bool.false_ne_true)) ?_; wp_walk using wpAny_loadPart' hl)
      | (refine wpAny_ite_true (decide_eq_true c1) ?_; wp_walk using wpAny_loadPart' hl))
    exact ⟨_, rfl, h⟩
theorem tuple_mul0 (l : Addr) (items : Array Value) (n : Nat) (dd : Option Addr) (sl : Array (Option Value)) (x : Int) (u : Tok) (c0 : (decide (x < -(2 ^ 63)) || decide (x ≥ 2 ^ 63)) = false) (c1 : (items.isEmpty || x == 1) = false) (c2 : (decide (x ≤ 0) || items.isEmpty) = true) :
    Meets (Builtin.«tuple.__mul__» ⟨[.ref l, .int x u], []⟩) (fun _ R s => s.heap.get? l = some { cls := .type "tuple", dict := dd, data := .seq items n, slots := sl } ∧
      R (.ok (.ret (Value.ref s.heap.objs.size))) { s with heap := s.heap.push { cls := Value.type "tuple", data := Data.seq #[] }, toks := s.toks }) :=
  .of_wp fun prog w A R s h => by
    obtain ⟨hp, g, d, tk, os⟩ := s
    obtain ⟨hl, h⟩ := h
    have f1 := AutoSeq1.idx_int
    wp_walk using wpAny_loadPart' hl
    repeat (first
      | (refine wpAny_ite_false (decide_eq_false (by rw [c0]; exact Bool.false_ne_true)) ?_; wp_walk using wpAny_loadPart' hl)
      | (refine wpAny_ite_false (decide_eq_false (by rw [c1]; exact Bool.false_ne_true)) ?_; wp_walk using wpAny_loadPart' hl)
      | (refine wpAny_ite_true (decide_eq_true c2) ?_; wp_walk using wpAny_loadPart' hl))
    exact ⟨_, rfl, h⟩

section
variable [KFrag] {X : Cx} [HK X]
def rRep01 (K : PySem.W.Frag) : R2 := fun x y H Q => ∃ l k xs, x = .ref l ∧ y = .int k ∧ SqT K H l xs ∧ -(2 ^ 62) ≤ k ∧ k ≤ 1000 ∧ (xs = [] ∨ k ≤ 1) ∧
  ((xs = [] ∨ k = 1) → Q (.ref l) H) ∧ (xs ≠ [] → k ≤ 0 → ∀ p, H p = none → Q (.ref p) (upd H p (.tup [])))
theorem op_rep01 : OpR X (binaryOp .Mult) (rRep01 X.K) := by
  intro pins s σ H x y v u Q I rx ry h
  obtain ⟨l, k, xs, rfl, rfl, hT, h1, h2, h3, q1, q0⟩ := h
  cases rx
  obtain ⟨t, rfl⟩ := ry
  obtain ⟨its, r, ⟨⟨cls, dd, data, sl⟩, ho, hc, n, hd⟩, hs⟩ := I.tuple hT
  simp only at hc hd
  subst hc hd
  have c0 : (decide (k < -(2 ^ 63)) || decide (k ≥ 2 ^ 63)) = false := by
    rw [decide_eq_false (by omega), decide_eq_false (by omega)] <;> rfl
  have he : its.toArray.isEmpty = true ↔ xs = [] := by
    cases r with
    | nil => simp
    | cons _ _ => simp
  by_cases hq : xs = [] ∨ k = 1
  · have c1 : (its.toArray.isEmpty || k == 1) = true := by
      rw [Bool.or_eq_true, beq_iff_eq]
      exact hq.elim (fun z => .inl (he.mpr z)) .inr
    exact wpAny_binaryOp_repeat_ref (T := "tuple") (U := "int") (by decide) ⟨_, ho, rfl⟩ (fun s' => typeIs_int s' k t) noFill_tuple_mul F.fills_int_mul F.slot_int_rmul repeat_tuple F.slot_int_index.lookup
      (call_meets F.slot_int_rmul (typeIs_int s k t) F.entry_int_rmul (F.args_int_rmul_2 _ _) (int_rmul_tuple k t l its.toArray n dd sl)
        ⟨ho, rfl, ⟨_, ho, rfl⟩, call_meets F.slot_tuple_mul ⟨_, ho, rfl⟩ F.entry_tuple_mul (F.args_tuple_mul_2 _ _) (tuple_mul1 l its.toArray n dd sl k t c0 c1) ⟨ho, ⟨.ref l, H, I, rfl, q1 hq⟩⟩⟩)
  · have hne : xs ≠ [] := fun z => hq (.inl z)
    have hk : k ≤ 0 := by
      rcases h3 with z | z
      · exact absurd z hne
      · have : k ≠ 1 := fun z => hq (.inr z)
        omega
    have hi : its.toArray.isEmpty = false := by
      cases z : its.toArray.isEmpty with
      | true => exact absurd (he.mp z) hne
      | false => rfl
    have c1 : (its.toArray.isEmpty || k == 1) = false := by
      rw [hi, Bool.false_or]
      exact beq_eq_false_iff_ne.mpr (by omega)
    have c2 : (decide (k ≤ 0) || its.toArray.isEmpty) = true := by
      rw [decide_eq_true hk] <;> rfl
    refine wpAny_binaryOp_repeat_ref (T := "tuple") (U := "int") (by decide) ⟨_, ho, rfl⟩ (fun s' => typeIs_int s' k t) noFill_tuple_mul F.fills_int_mul F.slot_int_rmul repeat_tuple F.slot_int_index.lookup
      (call_meets F.slot_int_rmul (typeIs_int s k t) F.entry_int_rmul (F.args_int_rmul_2 _ _) (int_rmul_tuple k t l its.toArray n dd sl)
        ⟨ho, rfl, ⟨_, ho, rfl⟩, call_meets F.slot_tuple_mul ⟨_, ho, rfl⟩ F.entry_tuple_mul (F.args_tuple_mul_2 _ _) (tuple_mul0 l its.toArray n dd sl k t c0 c1 c2) ⟨ho, ?_⟩⟩)
    refine ⟨.ref s.heap.objs.size, _, I.laid (t' := s.toks) (o := .tup []) (fun b ob q => Heap.get?_push_of_some _ q) (Nat.le_refl _) ?_, rfl, q0 hne hk _ (I.hok.fresh (Nat.le_refl _))⟩
    exact ⟨Nat.zero_le _, [], .nil, IsTup.new _ _⟩
def mulD : D → D → Option D
  | .int i, .int j => if (-(2 ^ 64) < i ∧ i < 2 ^ 64) ∨ (-(2 ^ 64) < j ∧ j < 2 ^ 64) then some (.int (i * j)) else none
  | .tuple xs, .int k => if -(2 ^ 62) ≤ k ∧ k ≤ 1000 ∧ xs.length ≤ 1000 then some (.tuple (List.replicate k.toNat xs).flatten) else none
  | .list xs, .int k => if -(2 ^ 62) ≤ k ∧ k < 2 ^ 62 ∧ xs.length * k.toNat ≤ line then some (.list (List.replicate k.toNat xs).flatten) else none
  | _, _ => none
theorem Fzs.rep {H : Hp} {A : Addr → Prop} {xs : List V} {ds : List D} (f : Fzs H A xs ds) : ∀ n, Fzs H A (List.replicate n xs).flatten (List.replicate n ds).flatten
  | 0 => .nil
  | n + 1 => by
    rw [List.replicate_succ, List.replicate_succ, List.flatten_cons, List.flatten_cons]
    exact f.app (Fzs.rep f n)
theorem rep_one {α : Type} (l : List α) : (List.replicate 1 l).flatten = l := by simp
theorem rep_nil {α : Type} (n : Nat) : (List.replicate n ([] : List α)).flatten = [] := by
  induction n with
  | zero => rfl
  | succ n ih => rw [List.replicate_succ, List.flatten_cons, ih] <;> rfl
theorem dop_mul : DOp X (binaryOp .Mult) mulD := by
  intro pins s σ H x y v u Q I rx ry h
  obtain ⟨A, dx, dy, z, bt, fx, fy, e, q⟩ := h
  cases fx with
  | int i =>
    cases fy with
    | int j =>
      simp only [mulD] at e
      split at e
      · rename_i hl
        cases e
        exact op_mul pins s σ H _ _ v u Q I rx ry ⟨i, j, rfl, rfl, hl, q _ _ (Same.refl _) (.int _)⟩
      · cases e
    | _ => cases e
  | @tup a xs ds h1 f1 =>
    cases fy with
    | int k =>
      simp only [mulD] at e
      split at e
      · rename_i hl
        cases e
        by_cases hx : xs = []
        · refine op_rep01 pins s σ H _ _ v u Q I rx ry ⟨a, k, xs, rfl, rfl, h1.sq, hl.1, hl.2.1, .inl hx, fun _ => ?_, fun z => absurd hx z⟩
          subst hx
          cases f1
          refine q _ _ (Same.refl _) ?_
          rw [rep_nil]
          exact .tup h1 .nil
        · by_cases hk : k ≤ 1
          · refine op_rep01 pins s σ H _ _ v u Q I rx ry ⟨a, k, xs, rfl, rfl, h1.sq, hl.1, hl.2.1, .inr hk, fun z => ?_, fun _ z p hp => ?_⟩
            · have hk1 : k = 1 := z.elim (fun z => absurd z hx) id
              subst hk1
              refine q _ _ (Same.refl _) ?_
              rw [show (1 : Int).toNat = 1 from rfl, rep_one]
              exact .tup h1 f1
            · have hz : k.toNat = 0 := by omega
              rw [hz] at q
              exact q _ _ (same_upd hp) (Fz.newT bt hp .nil)
          · have l1 := f1.len
            exact op_repT pins s σ H _ _ v u Q I rx ry ⟨a, k, xs, rfl, rfl, h1.sq, hx, by omega, hl.2.1, by omega, fun p hp => q _ _ (same_upd hp) (Fz.newT bt hp (f1.rep _))⟩
      · cases e
    | _ => cases e
  | @lst a xs ds h1 f1 =>
    cases fy with
    | int k =>
      simp only [mulD] at e
      split at e
      · rename_i hl
        cases e
        exact op_rep pins s σ H _ _ v u Q I rx ry ⟨a, k, xs, rfl, rfl, h1.1, by omega, by omega, by rw [f1.len, line_eq]; exact hl.2.2, fun p hp => q _ _ (same_upd hp) (Fz.newL bt hp (f1.rep _))⟩
      · cases e
    | _ => cases e
  | _ => cases fy <;> cases e
def powD : D → D → Option D
  | .int i, .int j => if 0 ≤ j ∧ j ≤ 64 ∧ i.natAbs < 2 ^ 64 then some (.int (i ^ j.toNat)) else none
  | _, _ => none
theorem dop_pow : DOp X (binaryOp .Pow) powD := by
  intro pins s σ H x y v u Q I rx ry h
  obtain ⟨A, dx, dy, z, bt, fx, fy, e, q⟩ := h
  cases fx with
  | int i =>
    cases fy with
    | int j =>
      simp only [powD] at e
      split at e
      · rename_i hl
        cases e
        exact op_pow pins s σ H _ _ v u Q I rx ry ⟨i, j, rfl, rfl, ⟨hl.1, by omega, hl.2.2⟩, q _ _ (Same.refl _) (.int _)⟩
      · cases e
    | _ => cases e
  | _ => cases fy <;> cases e
end
end DL
namespace DL
open PySem PySem.Spec PyProof.Rows L2
section
variable [KFrag]
/-! ### a, b = x, y -/
def gPar2 (i j : Nat) (fs : En → CS → R (List W)) (ρ : En) (s : CS) : RT := (fs ρ s).toT ρ fun ws s => match ws with
  | [a, b] => .nx ((ρ.set i (some a)).set j (some b)) s
  | _ => .bad
def gPar3 (i j l : Nat) (fs : En → CS → R (List W)) (ρ : En) (s : CS) : RT := (fs ρ s).toT ρ fun ws s => match ws with
  | [a, b, c] => .nx (((ρ.set i (some a)).set j (some b)).set l (some c)) s
  | _ => .bad
section
variable {X : Cx} [HK X] {T : TX} {Wx : WXc} {a b c : Expr} {fs : En → CS → R (List W)} {i j l : Nat} {x y z : Str} {px py pz pt pos : Pos} {kt k2 pt2}
theorem ds_par2 (hc : X.calm = true) (hN : X.N.Nodup) (hi : X.N[i]? = some x) (hj : X.N[j]? = some y) (hij : i ≠ j)
    (hx : X.env.scope.names.lookup x = some .local) (hy : X.env.scope.names.lookup y = some .local) (ha : DA X T Wx [a, b] fs)
    (hw : swappedStores [.Tuple [.Name x px, .Name y py] kt pt] (.Tuple [a, b] k2 pt2) X.env = pure (some [x, y]))
    (hs : swapsWithSole [.Tuple [.Name x px, .Name y py] kt pt] (.Tuple [a, b] k2 pt2) pos.line X.env = pure false := by rfl) :
    DS X T Wx (.Assign [.Tuple [.Name x px, .Name y py] kt pt] (.Tuple [a, b] k2 pt2) pos) (gPar2 i j fs) := PS_imp (ps_par hc hN hi hj hij hx hy ha hw hs) fun D σ H ⟨B, μ, s, ρ, r, e, q⟩ =>
  tD_bindT r e q fun w s1 v μ1 H1 st1 r1 e1 rel1 q1 => by
    have rel1 : RWs B μ1 s1 H1 v w := rel1
    cases rel1 with
    | nil => exact q1.elim
    | cons h1 t =>
      cases t with
      | nil => exact q1.elim
      | cons h2 t =>
        cases t with
        | cons _ _ => exact q1.elim
        | nil => exact ⟨_, _, rfl, q1 _ μ1 H1 Stp.refl r1 ((e1.set h1 i).set h2 j)⟩
theorem ds_par3 (hc : X.calm = true) (hN : X.N.Nodup) (hi : X.N[i]? = some x) (hj : X.N[j]? = some y) (hl : X.N[l]? = some z) (hij : i ≠ j) (hil : i ≠ l) (hjl : j ≠ l)
    (hx : X.env.scope.names.lookup x = some .local) (hy : X.env.scope.names.lookup y = some .local) (hz : X.env.scope.names.lookup z = some .local) (ha : DA X T Wx [a, b, c] fs)
    (hw : swappedStores [.Tuple [.Name x px, .Name y py, .Name z pz] kt pt] (.Tuple [a, b, c] k2 pt2) X.env = pure (some [x, y, z]))
    (hs : swapsWithSole [.Tuple [.Name x px, .Name y py, .Name z pz] kt pt] (.Tuple [a, b, c] k2 pt2) pos.line X.env = pure false := by rfl) :
    DS X T Wx (.Assign [.Tuple [.Name x px, .Name y py, .Name z pz] kt pt] (.Tuple [a, b, c] k2 pt2) pos) (gPar3 i j l fs) := PS_imp (ps_par3 hc hN hi hj hl hij hil hjl hx hy hz ha hw hs) fun D σ H ⟨B, μ, s, ρ, r, e, q⟩ =>
  tD_bindT r e q fun w s1 v μ1 H1 st1 r1 e1 rel1 q1 => by
    have rel1 : RWs B μ1 s1 H1 v w := rel1
    cases rel1 with
    | nil => exact q1.elim
    | cons h1 t =>
      cases t with
      | nil => exact q1.elim
      | cons h2 t =>
        cases t with
        | nil => exact q1.elim
        | cons h3 t =>
          cases t with
          | cons _ _ => exact q1.elim
          | nil => exact ⟨_, _, _, rfl, q1 _ μ1 H1 Stp.refl r1 (((e1.set h1 i).set h2 j).set h3 l)⟩
end
/-! ### a list or a tuple, walked -/
def iSq (K : PySem.W.Frag) (tl : TE) : TI := fun σ H R => tl σ H fun x H1 => ∃ a, x = .ref a ∧ (((∃ xs, SqL K H1 a xs) ∧ R (Itl K a) H1) ∨ ((∃ xs, SqT K H1 a xs) ∧ R (Itt K a) H1))
theorem pi_sq {X : Cx} {tg l : Expr} {tl : TE} (hl : PE X l tl) : PI X tg l (iSq X.K tl) := by
  refine ⟨fun pins s σ H R I h => ?_⟩
  refine thn (hl.run pins s σ H _ I h) fun v s1 ⟨x, H1, I1, r1, q1⟩ => ?_
  obtain ⟨a, e, q⟩ := q1
  subst e
  cases r1
  rcases q with ⟨⟨xs, hq⟩, q⟩ | ⟨⟨xs, hq⟩, q⟩
  · obtain ⟨its, rv, p, hz⟩ := I1.list hq
    refine wpAny_pyIter_list p.isList ?_
    refine ⟨s1.heap.objs.size, [s1.heap.objs.size], _, _, H1, rfl, I1.kept (t' := s1.toks) fun b o e => Heap.get?_push_of_some _ e, turn_list a _, ⟨_, Heap.get?_push_size _ rfl, rfl, rfl⟩, fun b hb => ?_, q⟩
    have e : b = s1.heap.objs.size := by simpa using hb
    subst e
    exact I1.fpOk (Nat.le_refl _) (I1.hok.fresh (Nat.le_refl _))
  · obtain ⟨its, rv, p, hz⟩ := I1.tuple hq
    refine wpAny_pyIter_tuple (show s1.heap.IsTuple a its.toArray from p) ?_
    refine ⟨s1.heap.objs.size, [s1.heap.objs.size], _, _, H1, rfl, I1.kept (t' := s1.toks) fun b o e => Heap.get?_push_of_some _ e, turn_tuple a _, ⟨_, Heap.get?_push_size _ rfl, rfl, rfl⟩, fun b hb => ?_, q⟩
    have e : b = s1.heap.objs.size := by simpa using hb
    subst e
    exact I1.fpOk (Nat.le_refl _) (I1.hok.fresh (Nat.le_refl _))
def sqW : W → CS → R (List D)
  | .d (.list ds), s => .ok ds s
  | .d (.tuple ds), s => .ok ds s
  | _, _ => .bad
def fIt (f : En → CS → R W) (ρ : En) (s : CS) : R (List D) := (f ρ s).bind sqW
theorem di_seq {X : Cx} [HK X] {T : TX} {Wx : WXc} {tg e : Expr} {f : En → CS → R W} (h : DE X T Wx e f) : DI X T Wx tg e (fIt f) := PI_imp (pi_sq h) fun σ H Q ⟨B, μ, s, ρ, r, e, q⟩ =>
  tD_bind r e q fun w s1 v μ1 H1 st1 r1 e1 rel1 q1 => by
    unfold sqW at q1
    split at q1
    · rename_i ds
      have rel1 : Fz H1 (Av B μ1 s1) v (.list ds) := rel1
      cases rel1 with
      | @lst a xs _ h1 f1 => exact ⟨a, rfl, .inl ⟨⟨xs, h1.sq⟩, Fin.here (a := List D) q1 r1 (itr_list h1 f1)⟩⟩
    · rename_i ds
      have rel1 : Fz H1 (Av B μ1 s1) v (.tuple ds) := rel1
      cases rel1 with
      | @tup a xs _ h1 f1 => exact ⟨a, rfl, .inr ⟨⟨xs, h1.sq⟩, Fin.here (a := List D) q1 r1 (itr_tup h1 f1)⟩⟩
    · exact q1.elim
/-! ### the law's own end -/
def spLaw (K : PySem.W.Frag) : Sp := fun vs H Q _ => ∃ (a : Addr) (ns : List Int), vs = [.ref a] ∧ Only H ∧ SqL K H a (ns.map V.int) ∧ ns.length ≤ 63 ∧ ∀ H', Q (.bl true) H'
/-- a law's value: True, whatever the script -/
def LawTrue (r : List W → CS → R W) : Prop := ∀ ns : List Int, ns.length ≤ 63 → ∃ s, r [.sc ns] [] = .ok (.d (.bool true)) s
theorem law_sp {T : TX} {K : PySem.W.Frag} {r : List W → CS → R W} (hK : K = KFrag.K) (h : LawTrue r) : ∀ vs H Q E, spLaw K vs H Q E → spD T 1 (noX r) vs H Q E := by
  rintro vs H Q E ⟨a, ns, rfl, hO, hS, hl, q⟩
  obtain ⟨s, e⟩ := h ns hl
  refine ⟨rfl, fun _ => False, [], [], [.sc ns], [], ⟨rfl, fun n m a z => by simp at z, fun n a z => by simp at z, fun n a z => by simp at z, fun a z => z.elim, fun n a c z => by simp at z⟩, .cons ⟨a, rfl, ?_⟩ .nil, ?_⟩
  · rcases hS with (z | ⟨o, z⟩) | z
    · rcases hO a with y | ⟨o, xs, y⟩
      · rw [z] at y; cases y
      · rw [z] at y; cases y
    · exact .inl ⟨o, z, lv_nil⟩
    · exact .inr (by rw [hK] at z; exact z)
  · unfold noX
    rw [e]
    intro v μ' H' st sr rel
    have rel : Fz H' _ v (.bool true) := rel
    cases rel
    exact q H'
end
end DL
namespace DL
open PySem PySem.Spec PyProof.Rows L2
section
variable [KFrag] {X : Cx} [HK X]
theorem dgsC {e : Expr} {es : List Expr} {is js : List Nat} {h : W → En → Option En} {k : List D → En → Option En} (h1 : DG X e is h) (h2 : DGs X es js k)
    (hs : (assignEach (e :: es) X.env).map (·.2) = assign e X.env :: (assignEach es X.env).map (·.2) := by rfl) : DGs X (e :: es) (is ++ js) (hsC h k) := dgs_cons h1 h2 (pgs_cons h1 h2 hs)
theorem dgT {es : List Expr} {k : Nat} {pos : Pos} {n : Nat} {is : List Nat} {h : List D → En → Option En} (hc : X.calm = true) (h1 : DGs X es is h)
    (hn : (assignEach es X.env).length = n := by rfl) (hst : (assignEach es X.env).findIdx? (·.1) = none := by rfl) : DG X (.Tuple es k pos) is (hT n h) := dg_tup (pg_tup hc h1 hn hst)
end
/-- room for a look into the 65th unit -/
theorem Room_units1 {k : Nat} {A : Around} (r : Room (k + 1) A) : A.units + 64 < cLine := r.units
end DL
namespace DL
open PySem PySem.Spec PyProof.Rows L2

/-! ### the pen: what a draw gives -/
def zpen_g : En → CS → RT := (gRet (fNew (fCons (fN listD (fCons (fSl (fVar 0) fO0 (fO1 (fC (.int 63)))) fNil)) (fCons (fC (.int 0)) (fCons (fC (.int 0)) fNil)))))
abbrev zpen_r : List W → CS → R W := fnR 1 1 zpen_g
def zfresh_g : En → CS → RT := (gSeq (gAsg (hN 1) (fIxC (fVar 0) (fC (.int 1))))
    (gSeq (gPutC (f2 addD (fVar 1) (fC (.int 1))) (fVar 0) (fC (.int 1)))
    (gSeq (gAsg (hN 2) (fC (.int 0)))
    (gSeq (gIf (fB (f2 neD (fIxC (fVar 0) (fC (.int 0))) (fN lstD fNil))) (gAsg (hN 2) (f2 ixD (fIxC (fVar 0) (fC (.int 0))) (f2 modD (fN intD (fCons (fVar 1) fNil)) (fN lenD (fCons (fIxC (fVar 0) (fC (.int 0))) fNil))))) gNx)
    (gSeq (gIf (fAnd (fB (f2 ltD (fVar 1) (fN lenD (fCons (fIxC (fVar 0) (fC (.int 0))) fNil)))) (fB (f2 geD (fVar 2) (f2 powD (fC (.int 10)) (fC (.int 18)))))) (gRet (f2 subD (fVar 2) (f2 powD (fC (.int 10)) (fC (.int 18))))) gNx)
    (gSeq (gAsg (hN 3) (fC (.int 2305843009213693951)))
    (gSeq (gAsg (hN 4) (f2 modD (fN intD (fCons (f2 addD (f2 addD (f2 mulD (fVar 2) (fC (.int 48271))) (f2 mulD (fC (.int 40692)) (fVar 1))) (fC (.int 31))) fNil)) (fVar 3)))
    (gSeq (gAsg (hN 5) (fVar 4))
    (gSeq (gFor (fRng1 (fC (.int 6))) (hN 6) (gSeq (gAsg (hN 4) (f2 modD (fN intD (fCons (f2 addD (f2 addD (f2 mulD (fVar 4) (fVar 4)) (f2 mulD (f2 mulD (fC (.int 69621)) (f2 addD (fVar 6) (fC (.int 1)))) (f2 addD (fVar 1) (fC (.int 1))))) (fVar 2)) fNil)) (fVar 3)))
    (gAsg (hN 5) (f2 addD (f2 mulD (fVar 5) (fVar 3)) (fVar 4)))))
    (gRet (fVar 5)))))))))))
abbrev zfresh_r : List W → CS → R W := fnR 1 7 zfresh_g
def zdraw_g : En → CS → RT := (gSeq (gIf (fB (f2 ltD (fIxC (fVar 0) (fC (.int 2))) (fVar 1))) (gPutC (fCall 1 zfresh_r (fCons (fVar 0) fNil)) (fVar 0) (fC (.int 2))) gNx)
    (gSeq (gAsg (hN 2) (f2 modD (fN intD (fCons (fIxC (fVar 0) (fC (.int 2))) fNil)) (fVar 1)))
    (gSeq (gPutC (f2 fdivD (fN intD (fCons (fIxC (fVar 0) (fC (.int 2))) fNil)) (fVar 1)) (fVar 0) (fC (.int 2)))
    (gRet (fVar 2)))))
abbrev zdraw_r : List W → CS → R W := fnR 2 3 zdraw_g
theorem depth_ints : ∀ ns : List Int, PyData.depthAll (ns.map PyData.int) = 0
  | [] => rfl
  | n :: r => by
    have := depth_ints r
    simp [PyData.depthAll, PyData.depth]
    exact this
theorem lay_ints : ∀ ns : List Int, PyData.canLayAll0 (ns.map PyData.int) = true
  | [] => rfl
  | n :: r => by
    have := lay_ints r
    simp [PyData.canLayAll0, PyData.canLay0]
    exact this
theorem shaped_ints (ns : List Int) : SeqAt.shaped (.list (ns.map PyData.int)) = true := by
  unfold SeqAt.shaped
  rw [Bool.and_eq_true]
  refine ⟨?_, decide_eq_true ?_⟩
  · show PyData.canLay0 (.list _) = true
    simp only [PyData.canLay0]
    exact lay_ints ns
  · show PyData.depth (.list _) ≤ 64
    simp only [PyData.depth]
    rw [depth_ints]
    omega
/-- the pen at n: its cells, what comes next, what is left of a great number -/
def PenAt (n : Nat) (ns : List Int) (at_ rest : Int) (s : CS) : Prop := s[n]? = some (.lst [.list (ns.map .int), .int at_, .int rest])
theorem atI0 {a b c : D} : atI [a, b, c] 0 = some a := rfl
theorem atI1 {a b c : D} : atI [a, b, c] 1 = some b := rfl
theorem atI2 {a b c : D} : atI [a, b, c] 2 = some c := rfl
theorem PenAt.set {n : Nat} {ns : List Int} {a r : Int} {s : CS} (h : PenAt n ns a r s) (a' r' : Int) : PenAt n ns a' r' (s.set n (.lst [.list (ns.map .int), .int a', .int r'])) := by
  unfold PenAt
  rw [List.getElem?_set_self (List.getElem?_eq_some_iff.mp h).1]
/-- the part of fresh that draws a turn -/
def zturn : En → CS → RT := gSeq (gAsg (hN 4) (f2 modD (fN intD (fCons (f2 addD (f2 addD (f2 mulD (fVar 4) (fVar 4)) (f2 mulD (f2 mulD (fC (.int 69621)) (f2 addD (fVar 6) (fC (.int 1)))) (f2 addD (fVar 1) (fC (.int 1))))) (fVar 2)) fNil)) (fVar 3)))
    (gAsg (hN 5) (f2 addD (f2 mulD (fVar 5) (fVar 3)) (fVar 4)))
theorem zturn_is {n : Nat} {a c st f t : Int} {s : CS} (h0 : 0 ≤ st) (h1 : st < 2305843009213693951) (t0 : 0 ≤ t) (t1 : t < 1000) :
    ∃ st' f', 0 ≤ st' ∧ st' < 2305843009213693951 ∧ zturn [some (.c n), some (.d (.int a)), some (.d (.int c)), some (.d (.int 2305843009213693951)), some (.d (.int st)), some (.d (.int f)), some (.d (.int t))] s
      = .nx [some (.c n), some (.d (.int a)), some (.d (.int c)), some (.d (.int 2305843009213693951)), some (.d (.int st')), some (.d (.int f')), some (.d (.int t))] s := by
  have m1 : mulD (.int st) (.int st) = some (.int (st * st)) := by
    simp only [mulD]
    rw [if_pos (Or.inl ⟨by omega, by omega⟩)]
  have m2 : mulD (.int 69621) (.int (t + 1)) = some (.int (69621 * (t + 1))) := by
    simp only [mulD]
    rw [if_pos (Or.inl ⟨by decide, by decide⟩)]
  have m3 : mulD (.int (69621 * (t + 1))) (.int (a + 1)) = some (.int (69621 * (t + 1) * (a + 1))) := by
    simp only [mulD]
    rw [if_pos (Or.inl ⟨by omega, by omega⟩)]
  have m4 : ∀ x : Int, modD (.int x) (.int 2305843009213693951) = some (.int (x % 2305843009213693951)) := fun x => by
    simp only [modD]
    rw [if_pos (by decide)]
  have m5 : mulD (.int f) (.int 2305843009213693951) = some (.int (f * 2305843009213693951)) := by
    simp only [mulD]
    rw [if_pos (Or.inr ⟨by decide, by decide⟩)]
  refine ⟨(st * st + 69621 * (t + 1) * (a + 1) + c) % 2305843009213693951, f * 2305843009213693951 + (st * st + 69621 * (t + 1) * (a + 1) + c) % 2305843009213693951, Int.emod_nonneg _ (by decide), Int.emod_lt_of_pos _ (by decide), ?_⟩
  simp [zturn, gSeq, gAsg, f2, fVar, fC, R.bind, lift2, m1, m2, m3, m4, m5, addD, fN, fCons, fNil, liftN, allD, intD, R.toT, hN]
theorem zloop : ∀ (ts : List Int) {n : Nat} {a c st f : Int} {s : CS} (l : Option W), 0 ≤ st → st < 2305843009213693951 → (∀ t ∈ ts, 0 ≤ t ∧ t < 1000) →
    ∃ st' f' l', 0 ≤ st' ∧ st' < 2305843009213693951 ∧ forL (hN 6) zturn (ts.map .int) [some (.c n), some (.d (.int a)), some (.d (.int c)), some (.d (.int 2305843009213693951)), some (.d (.int st)), some (.d (.int f)), l] s
      = .nx [some (.c n), some (.d (.int a)), some (.d (.int c)), some (.d (.int 2305843009213693951)), some (.d (.int st')), some (.d (.int f')), l'] s
  | [], _, _, _, st, f, _, l, h0, h1, _ => ⟨st, f, l, h0, h1, rfl⟩
  | t :: ts, n, a, c, st, f, s, l, h0, h1, ht => by
    obtain ⟨t0, t1⟩ := ht t List.mem_cons_self
    obtain ⟨st1, f1, g0, g1, e1⟩ := zturn_is (n := n) (a := a) (c := c) (f := f) (s := s) h0 h1 t0 t1
    obtain ⟨st2, f2, l2, k0, k1, e2⟩ := zloop ts (n := n) (a := a) (c := c) (f := f1) (s := s) (some (.d (.int t))) g0 g1 fun x hx => ht x (List.mem_cons_of_mem _ hx)
    refine ⟨st2, f2, l2, k0, k1, ?_⟩
    have e3 : hN 6 (.d (.int t)) [some (.c n), some (.d (.int a)), some (.d (.int c)), some (.d (.int 2305843009213693951)), some (.d (.int st)), some (.d (.int f)), l] = some [some (.c n), some (.d (.int a)), some (.d (.int c)), some (.d (.int 2305843009213693951)), some (.d (.int st)), some (.d (.int f)), some (.d (.int t))] := rfl
    rw [List.map_cons]
    unfold forL
    simp only [e3, e1, e2]
theorem atI_in {ds : List D} {i : Int} (h0 : 0 ≤ i) (h1 : i < ds.length) : ∃ x, atI ds i = some x ∧ x ∈ ds := by
  have hl : i.toNat < ds.length := by omega
  refine ⟨ds[i.toNat], ?_, List.getElem_mem hl⟩
  unfold atI ixN
  rw [if_pos h0, if_pos h1]
  show ds[i.toNat]? = _
  rw [List.getElem?_eq_getElem hl]
theorem zfresh_is {n : Nat} {ns : List Int} {a r : Int} {s : CS} (h : PenAt n ns a r s) : ∃ f : Int, zfresh_r [.c n] s = .ok (.d (.int f)) (s.set n (.lst [.list (ns.map .int), .int (a + 1), .int r])) := by
  have hs := h.set (a + 1) r
  unfold PenAt at h hs
  have hlen : 0 ≤ (ns.length : Int) := by omega
  -- the cell that is read
  obtain ⟨c, hc⟩ : ∃ c : Int, gSeq (gAsg (hN 2) (fC (.int 0)))
      (gIf (fB (f2 neD (fIxC (fVar 0) (fC (.int 0))) (fN lstD fNil))) (gAsg (hN 2) (f2 ixD (fIxC (fVar 0) (fC (.int 0))) (f2 modD (fN intD (fCons (fVar 1) fNil)) (fN lenD (fCons (fIxC (fVar 0) (fC (.int 0))) fNil))))) gNx)
      [some (.c n), some (.d (.int a)), none, none, none, none, none] (s.set n (.lst [.list (ns.map .int), .int (a + 1), .int r])) = .nx [some (.c n), some (.d (.int a)), some (.d (.int c)), none, none, none, none] (s.set n (.lst [.list (ns.map .int), .int (a + 1), .int r])) := by
    cases ns with
    | nil =>
      refine ⟨0, ?_⟩
      have e : neD (.list (([] : List Int).map .int)) (.list []) = some (.bool false) := by
        unfold neD
        rw [eqF_eq]
        rw [if_pos ⟨shaped_ints _, by decide +kernel⟩]
        rfl
      simp only [List.map_nil] at hs e
      simp [gSeq, gAsg, gIf, fC, R.toT, hN, fB, f2, fIxC, fVar, R.bind, ixC, hs, atI0, fN, fNil, liftN, allD, lstD, lift2, e, toB, gNx]
    | cons m ms =>
      have e : neD (.list ((m :: ms).map .int)) (.list []) = some (.bool true) := by
        unfold neD
        rw [eqF_eq]
        rw [if_pos ⟨shaped_ints _, by decide +kernel⟩]
        rfl
      have hp : (0 : Int) < ((ms.length : Int) + 1) := by omega
      have e2 : modD (.int a) (.int ((ms.length : Int) + 1)) = some (.int (a % ((ms.length : Int) + 1))) := by
        simp only [modD]
        rw [if_pos hp]
      obtain ⟨x, hx, hm⟩ := atI_in (ds := (m :: ms).map PyData.int) (i := a % ((ms.length : Int) + 1)) (Int.emod_nonneg _ (by omega)) (by
        have := Int.emod_lt_of_pos a hp
        simp
        exact this)
      obtain ⟨c, _, hcx⟩ := List.mem_map.mp hm
      subst hcx
      refine ⟨c, ?_⟩
      simp only [List.map_cons] at hs e hx
      simp [gSeq, gAsg, gIf, fC, R.toT, hN, fB, f2, fIxC, fVar, R.bind, ixC, hs, atI0, fN, fNil, fCons, liftN, allD, lstD, lift2, e, toB, gNx, intD, lenD, e2, ixD, hx]
  -- the rest
  have hp : powD (.int 10) (.int 18) = some (.int 1000000000000000000) := by
    simp only [powD]
    rw [if_pos ⟨by decide, by decide, by decide⟩]
    rfl
  have m1 : mulD (.int c) (.int 48271) = some (.int (c * 48271)) := by
    simp only [mulD]
    rw [if_pos (Or.inr ⟨by decide, by decide⟩)]
  have m2 : mulD (.int 40692) (.int a) = some (.int (40692 * a)) := by
    simp only [mulD]
    rw [if_pos (Or.inl ⟨by decide, by decide⟩)]
  have m4 : ∀ x : Int, modD (.int x) (.int 2305843009213693951) = some (.int (x % 2305843009213693951)) := fun x => by
    simp only [modD]
    rw [if_pos (by decide)]
  have hrest : ∃ f : Int, (match (gSeq (gIf (fAnd (fB (f2 ltD (fVar 1) (fN lenD (fCons (fIxC (fVar 0) (fC (.int 0))) fNil)))) (fB (f2 geD (fVar 2) (f2 powD (fC (.int 10)) (fC (.int 18)))))) (gRet (f2 subD (fVar 2) (f2 powD (fC (.int 10)) (fC (.int 18))))) gNx)
    (gSeq (gAsg (hN 3) (fC (.int 2305843009213693951)))
    (gSeq (gAsg (hN 4) (f2 modD (fN intD (fCons (f2 addD (f2 addD (f2 mulD (fVar 2) (fC (.int 48271))) (f2 mulD (fC (.int 40692)) (fVar 1))) (fC (.int 31))) fNil)) (fVar 3)))
    (gSeq (gAsg (hN 5) (fVar 4))
    (gSeq (gFor (fRng1 (fC (.int 6))) (hN 6) zturn)
    (gRet (fVar 5))))))) [some (.c n), some (.d (.int a)), some (.d (.int c)), none, none, none, none] (s.set n (.lst [.list (ns.map .int), .int (a + 1), .int r])) with
      | .nx _ s => R.ok (W.d .none) s
      | .rt w s => .ok w s
      | .exc e _ s => .exc e s
      | _ => .bad) = .ok (.d (.int f)) (s.set n (.lst [.list (ns.map .int), .int (a + 1), .int r])) := by
    have later : ∃ f : Int, (gSeq (gAsg (hN 3) (fC (.int 2305843009213693951)))
    (gSeq (gAsg (hN 4) (f2 modD (fN intD (fCons (f2 addD (f2 addD (f2 mulD (fVar 2) (fC (.int 48271))) (f2 mulD (fC (.int 40692)) (fVar 1))) (fC (.int 31))) fNil)) (fVar 3)))
    (gSeq (gAsg (hN 5) (fVar 4))
    (gSeq (gFor (fRng1 (fC (.int 6))) (hN 6) zturn)
    (gRet (fVar 5)))))) [some (.c n), some (.d (.int a)), some (.d (.int c)), none, none, none, none] (s.set n (.lst [.list (ns.map .int), .int (a + 1), .int r])) = .rt (.d (.int f)) (s.set n (.lst [.list (ns.map .int), .int (a + 1), .int r])) := by
      obtain ⟨st, f, l, h0, h1, e⟩ := zloop [0, 1, 2, 3, 4, 5] (n := n) (a := a) (c := c) (st := (c * 48271 + 40692 * a + 31) % 2305843009213693951) (f := (c * 48271 + 40692 * a + 31) % 2305843009213693951) (s := s.set n (.lst [.list (ns.map .int), .int (a + 1), .int r])) none
        (Int.emod_nonneg _ (by decide)) (Int.emod_lt_of_pos _ (by decide)) (by decide)
      refine ⟨f, ?_⟩
      have er : rngD 0 6 = [PyData.int 0, PyData.int 1, PyData.int 2, PyData.int 3, PyData.int 4, PyData.int 5] := rfl
      simp [gSeq, gAsg, gFor, fRng1, fC, R.toT, hN, f2, fVar, R.bind, fN, fNil, fCons, liftN, allD, lift2, intD, m1, m2, m4, addD, er, gRet] at e ⊢
      rw [e]
      rfl
    obtain ⟨f, hf⟩ := later
    by_cases ht : a < (ns.length : Int) ∧ 1000000000000000000 ≤ c
    · refine ⟨c - 1000000000000000000, ?_⟩
      simp [gSeq, gIf, fAnd, fB, f2, fVar, fN, fCons, fNil, fIxC, fC, R.bind, R.toT, ixC, hs, atI0, liftN, allD, lenD, lift2, ltD, geD, cmpD, toB, hp, subD, gRet, ht.1, ht.2]
    · refine ⟨f, ?_⟩
      have e : gIf (fAnd (fB (f2 ltD (fVar 1) (fN lenD (fCons (fIxC (fVar 0) (fC (.int 0))) fNil)))) (fB (f2 geD (fVar 2) (f2 powD (fC (.int 10)) (fC (.int 18)))))) (gRet (f2 subD (fVar 2) (f2 powD (fC (.int 10)) (fC (.int 18))))) gNx
          [some (.c n), some (.d (.int a)), some (.d (.int c)), none, none, none, none] (s.set n (.lst [.list (ns.map .int), .int (a + 1), .int r])) = .nx [some (.c n), some (.d (.int a)), some (.d (.int c)), none, none, none, none] (s.set n (.lst [.list (ns.map .int), .int (a + 1), .int r])) := by
        by_cases h1 : a < (ns.length : Int)
        · have h2 : ¬ 1000000000000000000 ≤ c := fun z => ht ⟨h1, z⟩
          simp [gIf, fAnd, fB, f2, fVar, fN, fCons, fNil, fIxC, fC, R.bind, R.toT, ixC, hs, atI0, liftN, allD, lenD, lift2, ltD, geD, cmpD, toB, hp, gNx, h1, h2]
        · simp [gIf, fAnd, fB, f2, fVar, fN, fCons, fNil, fIxC, fC, R.bind, R.toT, ixC, hs, atI0, liftN, allD, lenD, lift2, ltD, geD, cmpD, toB, hp, gNx, h1]
      rw [gSeq, e]
      show (match (gSeq _ _ _ _) with | .nx _ s => R.ok (W.d .none) s | .rt w s => .ok w s | .exc e _ s => .exc e s | _ => .bad) = _
      rw [hf]
  obtain ⟨f, hf⟩ := hrest
  refine ⟨f, ?_⟩
  show (if [W.c n].length = 1 then _ else _) = _
  rw [if_pos (show [W.c n].length = 1 from rfl)]
  have e0 : startE 7 [W.c n] = [some (.c n), none, none, none, none, none, none] := rfl
  rw [e0]
  have e1 : gAsg (hN 1) (fIxC (fVar 0) (fC (.int 1))) [some (.c n), none, none, none, none, none, none] s = .nx [some (.c n), some (.d (.int a)), none, none, none, none, none] s := by
    simp [gAsg, hN, fIxC, fVar, fC, R.bind, R.toT, ixC, h, atI1]
  have e2 : gPutC (f2 addD (fVar 1) (fC (.int 1))) (fVar 0) (fC (.int 1)) [some (.c n), some (.d (.int a)), none, none, none, none, none] s = .nx [some (.c n), some (.d (.int a)), none, none, none, none, none] (s.set n (.lst [.list (ns.map .int), .int (a + 1), .int r])) := by
    have ei : ixN 3 1 = some 1 := rfl
    simp [gPutC, f2, fVar, fC, R.bind, R.toT, lift2, addD, h, ei]
  unfold zfresh_g
  rw [gSeq, e1]
  show (match (gSeq _ _ _ _) with | .nx _ s => R.ok (W.d .none) s | .rt w s => .ok w s | .exc e _ s => .exc e s | _ => .bad) = _
  rw [gSeq, e2]
  show (match (gSeq _ (gSeq _ _) _ _) with | .nx _ s => R.ok (W.d .none) s | .rt w s => .ok w s | .exc e _ s => .exc e s | _ => .bad) = _
  have assoc : ∀ (x y z : En → CS → RT) (ρ : En) (t : CS), gSeq x (gSeq y z) ρ t = gSeq (gSeq x y) z ρ t := fun x y z ρ t => by
    unfold gSeq
    cases x ρ t <;> rfl
  rw [assoc, gSeq, hc]
  exact hf
theorem zdraw_is {n : Nat} {ns : List Int} {a r : Int} {s : CS} (h : PenAt n ns a r s) {m : Int} (hm : 0 < m) (hm2 : m < 1073741824) :
    ∃ d a' r' : Int, 0 ≤ d ∧ d < m ∧ zdraw_r [.c n, .d (.int m)] s = .ok (.d (.int d)) (s.set n (.lst [.list (ns.map .int), .int a', .int r'])) := by
  -- behind the first statement
  obtain ⟨a1, r1, s1, h1, hs1, e1⟩ : ∃ a1 r1 s1, PenAt n ns a1 r1 s1 ∧ (∀ c, s1.set n c = s.set n c) ∧ gIf (fB (f2 ltD (fIxC (fVar 0) (fC (.int 2))) (fVar 1))) (gPutC (fCall 1 zfresh_r (fCons (fVar 0) fNil)) (fVar 0) (fC (.int 2))) gNx
      [some (.c n), some (.d (.int m)), none] s = .nx [some (.c n), some (.d (.int m)), none] s1 := by
    by_cases hr : r < m
    · obtain ⟨f, hf⟩ := zfresh_is h
      have h2 := h.set (a + 1) r
      have hx : noX zfresh_r [.c n] s = .ok (.d (.int f)) (s.set n (.lst [.list (ns.map .int), .int (a + 1), .int r])) := by
        unfold noX
        rw [hf]
      refine ⟨a + 1, f, (s.set n (.lst [.list (ns.map .int), .int (a + 1), .int r])).set n (.lst [.list (ns.map .int), .int (a + 1), .int f]), h2.set (a + 1) f, fun c => by rw [List.set_set, List.set_set], ?_⟩
      unfold PenAt at h h2
      have ei : ixN 3 2 = some 2 := rfl
      simp [gIf, fB, f2, fIxC, fVar, fC, R.bind, R.toT, ixC, h, atI2, lift2, ltD, cmpD, toB, hr, gPutC, fCall, fCons, fNil, hx, h2, ei]
    · refine ⟨a, r, s, h, fun c => rfl, ?_⟩
      unfold PenAt at h
      simp [gIf, fB, f2, fIxC, fVar, fC, R.bind, R.toT, ixC, h, atI2, lift2, ltD, cmpD, toB, hr, gNx]
  have e2 : modD (.int r1) (.int m) = some (.int (r1 % m)) := by
    simp only [modD]
    rw [if_pos hm]
  have e3 : fdivD (.int r1) (.int m) = some (.int (r1 / m)) := by
    simp only [fdivD]
    rw [if_pos ⟨hm, hm2⟩]
  refine ⟨r1 % m, a1, r1 / m, Int.emod_nonneg _ (by omega), Int.emod_lt_of_pos _ hm, ?_⟩
  show (if [W.c n, W.d (.int m)].length = 2 then _ else _) = _
  rw [if_pos (show [W.c n, W.d (.int m)].length = 2 from rfl)]
  have e0 : startE 3 [W.c n, W.d (.int m)] = [some (.c n), some (.d (.int m)), none] := rfl
  rw [e0]
  unfold zdraw_g
  rw [gSeq, e1]
  have h1' := h1
  unfold PenAt at h1
  have ei : ixN 3 2 = some 2 := rfl
  rw [← hs1]
  simp [gSeq, gAsg, hN, f2, fN, fCons, fNil, fIxC, fVar, fC, R.bind, R.toT, ixC, h1, atI2, liftN, allD, intD, lift2, e2, e3, gPutC, ei, gRet]
theorem zpen_is (ns : List Int) (h : ns.length ≤ 63) : ∃ ms : List Int, zpen_r [.sc ns] [] = .ok (.c 0) [.lst [.list (ms.map .int), .int 0, .int 0]] := by
  refine ⟨ns, ?_⟩
  have e : cutD (ns.map PyData.int) none (some 63) = ns.map PyData.int := by
    unfold cutD
    have h1 : HT.sIx (ns.map PyData.int).length 0 none = 0 := rfl
    have h2 : HT.sIx (ns.map PyData.int).length (ns.map PyData.int).length (some 63) = (ns.map PyData.int).length := by
      rw [List.length_map]
      show min (63 : Int).toNat ns.length = ns.length
      omega
    rw [h1, h2, List.drop_zero, Nat.sub_zero, List.take_length]
  show (if [W.sc ns].length = 1 then _ else _) = _
  rw [if_pos (show [W.sc ns].length = 1 from rfl)]
  have e0 : startE 1 [W.sc ns] = [some (.sc ns)] := rfl
  rw [e0]
  have hl : 3 ≤ line := by decide
  simp [zpen_g, gRet, fNew, fCons, fN, fSl, fVar, fO0, fO1, fC, R.bind, R.toT, toO, liftS, e, fNil, liftN, allD, listD, hl]
end DL
namespace DL
open PySem PySem.Spec PyProof.Rows L2
/-! ### enumerate over a tuple -/
theorem enum_new1 {v : Value} {o : Obj} {H : Heap → Prop} (B : Begins v o H) :
    Meets (Builtin.«enumerate.__new__» ⟨[.type "enumerate", v], []⟩) (fun _ R s => H s.heap ∧
      R (.ok (.ret (.ref (s.heap.push o).objs.size))) { s with heap := (s.heap.push o).push { cls := .type "enumerate", data := .fields #[.none, .bool false, .ref s.heap.objs.size, rawInt 0, .none, .none] } }) :=
  .of_wp fun prog w A R s h => by
    obtain ⟨hp, g, d, tk, os⟩ := s
    obtain ⟨h1, h⟩ := h
    have hsub := sub_enumerate
    have q1 : ∀ {A' : Around} {E : Value → Shared → Prop} {Q : Value → Shared → Prop}, Q (.ref hp.objs.size) ⟨hp.push o, g, d, tk, os⟩ → wpAny (model prog w) A' (pyIter v) Q E ⟨hp, g, d, tk, os⟩ :=
      fun q => B.iter prog w _ _ ⟨hp, g, d, tk, os⟩ _ h1 q
    wp_walk using q1
    refine wpAny_stack_any fun st => wpAny_pure ?_
    split
    · rename_i c _ _ _ _ _
      cases (c == Value.type "enumerate")
      · wp_walk using q1
        exact ⟨_, rfl, h⟩
      · wp_walk using q1
        exact ⟨_, rfl, h⟩
    · wp_walk using q1
      exact ⟨_, rfl, h⟩
theorem call_enum1 {prog : Program} {w : World} {A : Around} {E : Value → Shared → Prop} {s : Shared} {v : Value} {o : Obj} {H : Heap → Prop} {Q : Value → Shared → Prop} (B : Begins v o H) (h1 : H s.heap)
    (h : ∀ h', IsEnum h' (s.heap.objs.size + 1) s.heap.objs.size 0 .none → h'.get? s.heap.objs.size = some o → h'.objs.size = s.heap.objs.size + 2 →
      (∀ b o, s.heap.get? b = some o → h'.get? b = some o) → Q (.ref (s.heap.objs.size + 1)) { s with heap := h' }) :
    wpAny (model prog w) A (call (.type "enumerate") [v]) Q E s := by
  refine callType_new F.called_enumerate (by decide) (F.typeCall_enumerate_1 _) (F.newCall_enumerate_1 _) (fun obj => F.args_object_init_2 obj _) F.entry_enumerate_new
    (enum_new1 B) ⟨h1, ?_⟩
  have hz : (s.heap.push o).objs.size = s.heap.objs.size + 1 := Heap.size_push ..
  show _ ∧ _
  rw [hz]
  have he : IsEnum ((s.heap.push o).push { cls := .type "enumerate", data := .fields #[.none, .bool false, .ref s.heap.objs.size, rawInt 0, .none, .none] }) (s.heap.objs.size + 1) s.heap.objs.size 0 .none := by
    have := Heap.get?_push_size (s.heap.push o) (o := { cls := .type "enumerate", data := .fields #[.none, .bool false, .ref s.heap.objs.size, rawInt 0, .none, .none] }) rfl
    rw [hz] at this
    exact this
  exact ⟨⟨_, he, rfl⟩, h _ he (Heap.get?_push_of_some _ (Heap.get?_push_size _ B.free)) (by rw [Heap.size_push, hz]) fun b o x => Heap.get?_push_of_some _ (Heap.get?_push_of_some _ x)⟩
theorem enumT_end {prog : Program} {w : World} {A : Around} {E : Value → Shared → Prop} {s : Shared} {e it a : Addr} {i : Int} {k : Nat} {items : Array Value} {old : Value} {Q : Option Value → Shared → Prop} (hh : A.handled = none)
    (he : IsEnum s.heap e it i old) (hit : s.heap.IsTupleIter it a k) (ht : s.heap.IsTuple a items) (hx : items[k]? = none) (hQ : ∀ h', Heap.ExtBut it s.heap h' → Q none { s with heap := h' }) : wpAny (model prog w) A (pyNext (.ref e)) Q E s := by
  have hT : s.TypeIs (.ref e) "enumerate" := ⟨_, he, rfl⟩
  unfold pyNext
  refine wpAny_bind (wpAny_attempt (wpAny_callSpecial?_slot (name := Str.ofString "__next__") hT F.slot_enumerate_next
    (wpAny_call_entry F.slot_enumerate_next hT F.entry_enumerate_next ?_ (F.args_enumerate_next_1 _))))
  show wpAny _ _ (field (.ref e) 2 >>= _) _ _ _
  refine wpAny_bind (wpAny_field he rfl (x := .ref it) rfl ?_)
  refine wpAny_bind (wpAny_nextOf_tuple_end (A := A.in1) hh hit ht hx fun h' x he' hx' => ?_)
  obtain ⟨o, ho, hc⟩ := hx'
  refine wpAny_bind (wpAny_isInstance (T := "StopIteration") (b := true) ⟨o, ho, hc⟩ isSubtype_stop ?_)
  exact wpAny_pure (hQ _ he')
/-- the tuple at a as it stands at each turn, each item in a new pair -/
def IteT (K : PySem.W.Frag) (a : Addr) : It :=
  ⟨fun i H => ∃ (xs : List V) (x : V), SqT K H a xs ∧ xs[i]? = some x, fun i H v H' => ∃ T x, v = .ref T ∧ H T = none ∧ H' = upd H T (.tup [.int (i : Nat), x]) ∧ ∀ xs, SqT K H a xs → xs[i]? = some x,
    fun i H => ∃ xs : List V, SqT K H a xs ∧ xs.length ≤ i⟩
theorem turn_enumT {P : Program} {w : World} {K : PySem.W.Frag} {elts : List Expr} {kk : Nat} {tpos : Pos} (a e it : Addr) :
    Turn P w K (.Tuple elts kk tpos) (IteT K a) [e, it] e (fun i h => (∃ old, IsEnum h e it ((i : Nat) : Int) old) ∧ h.IsTupleIter it a i ∧ e ≠ it ∧ a ≠ it ∧ a ≠ e) where
  mem := by simp
  obj := fun i h st b hb => by
    obtain ⟨⟨old, he⟩, ⟨o, ho, hc, hd⟩, _⟩ := st
    have e' : b = e ∨ b = it := by simpa using hb
    rcases e' with z | z
    · rw [z]; exact ⟨_, he, fun v q => nomatch q⟩
    · rw [z]; exact ⟨o, ho, fun v q => by rw [hd] at q; cases q⟩
  keep := fun i h h' st k => let ⟨⟨old, he⟩, hi, hne, h2, h3⟩ := st; ⟨⟨old, k e (by simp) _ he⟩, hi.at fun o q => k it (by simp) o q, hne, h2, h3⟩
  item := by
    intro X hP hw hK hc i pins s σ H E I hf st hg
    subst hP hw hK
    obtain ⟨⟨old, he⟩, hit, hne, hai, hae⟩ := st
    obtain ⟨xs, x, hq, hx⟩ := hg
    obtain ⟨its, rv, p, hz⟩ := I.tuple hq
    have p : s.heap.IsTuple a its.toArray := p
    obtain ⟨u, hu, ru⟩ := rv.get hx
    have hel : e < s.heap.objs.size := Heap.lt_size he
    have hil : it < s.heap.objs.size := by obtain ⟨_, q, _⟩ := hit; exact Heap.lt_size q
    have hlt : i < its.toArray.size := by
      have := (List.getElem?_eq_some_iff.mp hu).1
      simpa using this
    refine wpAny_pyNext_enum_itemD (n := its.toArray.size) (fp := [it, a]) (P := fun i v => its.toArray[i]? = some v) (St := fun i h => h.IsTupleIter it a i ∧ h.IsTuple a its.toArray)
      (Draws.tuple (A := X.A.in1) (show X.A.in1.handled = none from I.ok.hd hc) it a hai its.toArray) he ⟨hit, p⟩ hlt hne (by simp [hne, Ne.symm hae]) fun x' h' tk hP ho hit' hT hsz hk => ?_
    have ex : x' = u := by
      have h2 : its.toArray[i]? = some u := by simpa using hu
      rw [h2] at hP
      exact (Option.some.inj hP).symm
    subst ex
    refine ⟨_, rfl, wpAny_letOwnedTupleGo_enum (s := { s with heap := h', toks := tk + 1 }) ho fun h'' he' sb => ?_⟩
    have hT2 : h''.get? s.heap.objs.size = some { cls := .type "tuple", data := .seq #[.int i tk, x'] } := (sb.2 _ (Nat.ne_of_gt hel)).trans hT
    have new : ObjOk X.prog X.w (upd H s.heap.objs.size (.tup [.int (i : Nat), x])) h'' s.heap.objs.size (.tup [.int (i : Nat), x]) :=
      ⟨by show 2 ≤ sizeLine; decide, [.int i tk, x'], .cons ⟨_, rfl⟩ (.cons ru .nil), ⟨_, hT2, rfl, _, rfl⟩⟩
    have I1 : Inv X pins σ (upd H s.heap.objs.size (.tup [.int (i : Nat), x])) { s with heap := h'', toks := tk + 1 } :=
      I.turnedNew (ch := [e, it]) (fun b ob hb q => (sb.2 b (fun z => hb (by simp [z]))).trans (hk b ob (fun z => hb (by simp [z])) (fun z => hb (by simp [z])) q)) hf (Nat.le_refl _) new
    refine ⟨.ref s.heap.objs.size, _, I1, rfl, ⟨_, x, rfl, I.hok.fresh (Nat.le_refl _), rfl, fun ys hy => by rw [I.tuple_inj hy hq]; exact hx⟩, ⟨⟨x', ?_⟩, hit'.1.at fun o q => (sb.2 it (Ne.symm hne)).trans q, hne, hai, hae⟩, fun b hb => ?_⟩
    · have e1 : ((i + 1 : Nat) : Int) = (i : Int) + 1 := by omega
      rw [e1]
      exact he'
    · have hb' : b < s.heap.objs.size := by
        have e' : b = e ∨ b = it := by simpa using hb
        rcases e' with z | z
        · rw [z]; exact hel
        · rw [z]; exact hil
      rw [upd_ne (Nat.ne_of_lt hb')]
      exact (hf b hb).1
  done := by
    intro X hP hw hK hc i pins s σ H E I hf st hg
    subst hP hw hK
    obtain ⟨⟨old, he⟩, hit, hne, hai, hae⟩ := st
    obtain ⟨xs, hq, hx⟩ := hg
    obtain ⟨its, rv, p, hz⟩ := I.tuple hq
    have p : s.heap.IsTuple a its.toArray := p
    obtain ⟨f0, f1, f2, f3, f4, f5⟩ := hf it (by simp)
    have hl := rv.length
    have hn : its.toArray[i]? = none := by simp; omega
    exact enumT_end (I.ok.hd hc) he hit p hn fun h' eb => ⟨rfl, I.turned (t' := s.toks) (fun b o hb q => eb b o hb q) f0 f1 f3 f4 f5⟩
  self := fun A i s Q E st h => let ⟨⟨_, he⟩, _⟩ := st; wpAny_pyIter_enum he h
section
variable [KFrag]
def iEn (K : PySem.W.Frag) (ta : TA) : TI := fun σ H R => ta σ H fun vs H1 => ∃ a xs, vs = [.ref a] ∧ ((SqL K H1 a xs ∧ R (Ite K a) H1) ∨ (SqT K H1 a xs ∧ R (IteT K a) H1))
theorem pi_en {X : Cx} {e : Expr} {ta : TA} {p pos tpos : Pos} {elts : List Expr} {kk : Nat} (hg : Gl X "enumerate") (hm : X.mg "enumerate" = none) (ha : PA X [e] ta) (hs : starEach [e] X.env = [(false, eval e X.env)] := by rfl) :
    PI X (.Tuple elts kk tpos) (.Call (.Name "enumerate" p) [e] [] pos) (iEn X.K ta) := by
  refine ⟨fun pins s σ H R I h => ?_⟩
  refine Call_ (ld_blt I hg hm boot_enumerate (PyProof.Rows.callWith_type1 (thn (ha.run pos pins s σ H _ I h) fun us s1 ⟨vs, H1, I1, r1, q1⟩ => ?_) hs rfl))
  obtain ⟨a, xs, ex, q⟩ := q1
  subst ex
  cases r1 with
  | cons r rr =>
    cases rr
    cases r
    have fresh : ∀ b ∈ [s1.heap.objs.size + 1, s1.heap.objs.size], FpOk X pins H1 b := fun b hb => by
      have e' : b = s1.heap.objs.size + 1 ∨ b = s1.heap.objs.size := by simpa using hb
      have hle : s1.heap.objs.size ≤ b := by
        rcases e' with z | z
        · rw [z]; exact Nat.le_add_right _ _
        · rw [z]; exact Nat.le_refl _
      exact I1.fpOk hle (I1.hok.fresh hle)
    rcases q with ⟨hq, q⟩ | ⟨hq, q⟩
    · obtain ⟨its, rv, p', hz⟩ := I1.list hq
      refine call_enumerate_list p'.isList fun h' he hit hsz hk => wpAny_pyIter_enum he ?_
      exact ⟨_, _, _, _, H1, rfl, I1.kept (t' := s1.toks) hk, turn_enum a (s1.heap.objs.size + 1) s1.heap.objs.size, ⟨⟨.none, he⟩, hit, Nat.succ_ne_self _⟩, fresh, q⟩
    · obtain ⟨its, rv, p', hz⟩ := I1.tuple hq
      have p' : s1.heap.IsTuple a its.toArray := p'
      have la : a < s1.heap.objs.size := by obtain ⟨o, ho, _⟩ := id p'; exact Heap.lt_size ho
      refine call_enum1 (begins_tuple a its.toArray) p' fun h' he hit hsz hk => wpAny_pyIter_enum he ?_
      exact ⟨_, _, _, _, H1, rfl, I1.kept (t' := s1.toks) hk, turn_enumT a (s1.heap.objs.size + 1) s1.heap.objs.size, ⟨⟨.none, he⟩, ⟨_, hit, rfl, rfl⟩, Nat.succ_ne_self _, Nat.ne_of_lt la, Nat.ne_of_lt (Nat.lt_succ_of_lt la)⟩, fresh, q⟩
theorem walk_enumT {K : PySem.W.Frag} {a : Addr} {xs : List V} : Walk (IteT K a) xs.length (fun H => SqT K H a xs) (YPair (fun i => some (.int (i : Nat))) (fun i => xs[i]?)) := by
  refine ⟨fun i _ hi q => ⟨xs, xs[i], q, by simp [hi]⟩, fun _ q => ⟨xs, q, Nat.le_refl _⟩, fun i H v H' _ q y => ?_⟩
  obtain ⟨T, x, h1, h2, h3, h4⟩ := y
  exact ⟨T, .int (i : Nat), x, h1, h2, h3, rfl, h4 xs q⟩
theorem walk_zipT {K : PySem.W.Frag} {a b : Addr} {xs ys : List V} {n : Nat} (hn : n = min xs.length ys.length) : Walk (RZ.ItzT K a b) n (fun H => SqT K H a xs ∧ SqT K H b ys) (YPair (fun i => xs[i]?) (fun i => ys[i]?)) := by
  subst hn
  refine ⟨fun i _ hi q => ?_, fun _ q => ⟨xs, ys, q.1, q.2, by omega⟩, fun i H v H' _ q y => ?_⟩
  · have h1 : i < xs.length := by omega
    have h2 : i < ys.length := by omega
    exact ⟨xs, ys, xs[i], ys[i], q.1, q.2, by simp [h1], by simp [h2]⟩
  · obtain ⟨T, x, z, h1, h2, h3, h4, h5⟩ := y
    exact ⟨T, x, z, h1, h2, h3, h4 xs q.1, h5 ys q.2⟩
def enuD : Nat → List D → List D
  | _, [] => []
  | n, x :: r => .tuple [.int (n : Nat), x] :: enuD (n + 1) r
theorem enuD_len : ∀ {n : Nat} {ds : List D}, (enuD n ds).length = ds.length
  | _, [] => rfl
  | n, x :: r => by unfold enuD; rw [List.length_cons, List.length_cons, enuD_len]
theorem enuD_at : ∀ {n : Nat} {ds : List D} {i : Nat} {x : D}, ds[i]? = some x → (enuD n ds)[i]? = some (.tuple [.int ((n + i : Nat) : Int), x])
  | _, [], _, _, e => by simp at e
  | n, y :: r, 0, x, e => by simp at e; subst e; simp [enuD]
  | n, y :: r, i + 1, x, e => by
    have := enuD_at (n := n + 1) (ds := r) (i := i) (x := x) (by simpa using e)
    unfold enuD
    rw [List.getElem?_cons_succ, this]
    have : n + 1 + i = n + (i + 1) := by omega
    rw [this]
def zipD : List D → List D → List D
  | x :: r, y :: t => .tuple [x, y] :: zipD r t
  | _, _ => []
theorem zipD_len : ∀ {xs ys : List D}, (zipD xs ys).length = min xs.length ys.length
  | [], _ => by simp [zipD]
  | _ :: _, [] => by simp [zipD]
  | x :: r, y :: t => by
    have := zipD_len (xs := r) (ys := t)
    simp only [zipD, List.length_cons, this]
    omega
theorem zipD_at : ∀ {xs ys : List D} {i : Nat} {x y : D}, xs[i]? = some x → ys[i]? = some y → (zipD xs ys)[i]? = some (.tuple [x, y])
  | [], _, _, _, _, e, _ => by simp at e
  | _ :: _, [], _, _, _, _, e => by simp at e
  | a :: r, b :: t, 0, x, y, e, e2 => by simp at e e2; subst e; subst e2; simp [zipD]
  | a :: r, b :: t, i + 1, x, y, e, e2 => by
    have := zipD_at (xs := r) (ys := t) (i := i) (x := x) (y := y) (by simpa using e) (by simpa using e2)
    simpa [zipD] using this
theorem itr_enuL {K : PySem.W.Frag} {B : Addr → Prop} {μ : List Addr} {s : CS} {H : Hp} {a : Addr} {xs : List V} {ds : List D} (h : FL H (Av B μ s) a xs) (f : Fzs H (Av B μ s) xs ds) : ItR B μ s H (Ite K a) (enuD 0 ds) := by
  refine ⟨fun H => SqL K H a xs, YPair (fun i => some (.int (i : Nat))) (fun i => xs[i]?), ?_, fun H' A' k bt => .of (k.keep _ _ h.1 h.2), fun i H' A' v H'' k bt hi y => ?_⟩
  · rw [enuD_len, ← f.len]
    exact walk_enum
  · obtain ⟨T, x, y, rfl, hT, rfl, e1, e2⟩ := y
    cases e1
    obtain ⟨d, e3, e4⟩ := (f.kp k).getV e2
    refine ⟨same_upd hT, _, enuD_at e3, ?_⟩
    rw [Nat.zero_add]
    exact Fz.newT bt hT (.cons (.int _) (.cons e4 .nil))
theorem itr_enuT {X : Cx} [HK X] {B : Addr → Prop} {μ : List Addr} {s : CS} {H : Hp} {a : Addr} {xs : List V} {ds : List D} (h : FT H (Av B μ s) a xs) (f : Fzs H (Av B μ s) xs ds) : ItR B μ s H (IteT X.K a) (enuD 0 ds) := by
  refine ⟨fun H => SqT X.K H a xs, YPair (fun i => some (.int (i : Nat))) (fun i => xs[i]?), ?_, fun H' A' k bt => (h.kp k.keep k.new).sq, fun i H' A' v H'' k bt hi y => ?_⟩
  · rw [enuD_len, ← f.len]
    exact walk_enumT
  · obtain ⟨T, x, y, rfl, hT, rfl, e1, e2⟩ := y
    cases e1
    obtain ⟨d, e3, e4⟩ := (f.kp k).getV e2
    refine ⟨same_upd hT, _, enuD_at e3, ?_⟩
    rw [Nat.zero_add]
    exact Fz.newT bt hT (.cons (.int _) (.cons e4 .nil))
theorem itr_zipL {K : PySem.W.Frag} {B : Addr → Prop} {μ : List Addr} {s : CS} {H : Hp} {a b : Addr} {xs ys : List V} {ds es : List D} (h : FL H (Av B μ s) a xs) (f : Fzs H (Av B μ s) xs ds) (h2 : FL H (Av B μ s) b ys) (f2 : Fzs H (Av B μ s) ys es) : ItR B μ s H (Itz K a b) (zipD ds es) := by
  refine ⟨fun H => SqL K H a xs ∧ SqL K H b ys, YPair (fun i => xs[i]?) (fun i => ys[i]?), ?_, fun H' A' k bt => ⟨.of (k.keep _ _ h.1 h.2), .of (k.keep _ _ h2.1 h2.2)⟩, fun i H' A' v H'' k bt hi y => ?_⟩
  · exact walk_zip (by rw [zipD_len, f.len, f2.len])
  · obtain ⟨T, x, y, rfl, hT, rfl, e1, e2⟩ := y
    obtain ⟨d, e3, e4⟩ := (f.kp k).getV e1
    obtain ⟨d2, e5, e6⟩ := (f2.kp k).getV e2
    exact ⟨same_upd hT, _, zipD_at e3 e5, Fz.newT bt hT (.cons e4 (.cons e6 .nil))⟩
theorem itr_zipT {X : Cx} [HK X] {B : Addr → Prop} {μ : List Addr} {s : CS} {H : Hp} {a b : Addr} {xs ys : List V} {ds es : List D} (h : FT H (Av B μ s) a xs) (f : Fzs H (Av B μ s) xs ds) (h2 : FT H (Av B μ s) b ys) (f2 : Fzs H (Av B μ s) ys es) : ItR B μ s H (RZ.ItzT X.K a b) (zipD ds es) := by
  refine ⟨fun H => SqT X.K H a xs ∧ SqT X.K H b ys, YPair (fun i => xs[i]?) (fun i => ys[i]?), ?_, fun H' A' k bt => ⟨(h.kp k.keep k.new).sq, (h2.kp k.keep k.new).sq⟩, fun i H' A' v H'' k bt hi y => ?_⟩
  · exact walk_zipT (by rw [zipD_len, f.len, f2.len])
  · obtain ⟨T, x, y, rfl, hT, rfl, e1, e2⟩ := y
    obtain ⟨d, e3, e4⟩ := (f.kp k).getV e1
    obtain ⟨d2, e5, e6⟩ := (f2.kp k).getV e2
    exact ⟨same_upd hT, _, zipD_at e3 e5, Fz.newT bt hT (.cons e4 (.cons e6 .nil))⟩
def enuW : List W → CS → R (List D)
  | [.d (.list ds)], s => .ok (enuD 0 ds) s
  | [.d (.tuple ds)], s => .ok (enuD 0 ds) s
  | _, _ => .bad
def zipW : List W → CS → R (List D)
  | [.d (.list a), .d (.list b)], s => .ok (zipD a b) s
  | [.d (.tuple a), .d (.tuple b)], s => .ok (zipD a b) s
  | _, _ => .bad
def fEnu (fs : En → CS → R (List W)) (ρ : En) (s : CS) : R (List D) := (fs ρ s).bind enuW
def fZip (fs : En → CS → R (List W)) (ρ : En) (s : CS) : R (List D) := (fs ρ s).bind zipW
section
variable {X : Cx} [HK X] {T : TX} {Wx : WXc} {e e2 : Expr} {fs : En → CS → R (List W)} {p pos tpos : Pos} {elts : List Expr} {kk : Nat}
theorem di_enu (hg : Gl X "enumerate") (hm : X.mg "enumerate" = none) (ha : DA X T Wx [e] fs) (hs : starEach [e] X.env = [(false, eval e X.env)] := by rfl) : DI X T Wx (.Tuple elts kk tpos) (.Call (.Name "enumerate" p) [e] [] pos) (fEnu fs) :=
  PI_imp (pi_en hg hm ha hs) fun σ H Q ⟨B, μ, s, ρ, r, e, q⟩ => tD_bind r e q fun w s1 v μ1 H1 st1 r1 e1 rel1 q1 => by
    have rel1 : RWs B μ1 s1 H1 v w := rel1
    unfold enuW at q1
    split at q1
    · cases rel1 with
      | cons g t =>
        cases t
        have g : Fz H1 (Av B μ1 s1) _ (.list _) := g
        cases g with
        | @lst a xs _ h1 f1 => exact ⟨a, xs, rfl, .inl ⟨h1.sq, Fin.here (a := List D) q1 r1 (itr_enuL h1 f1)⟩⟩
    · cases rel1 with
      | cons g t =>
        cases t
        have g : Fz H1 (Av B μ1 s1) _ (.tuple _) := g
        cases g with
        | @tup a xs _ h1 f1 => exact ⟨a, xs, rfl, .inr ⟨h1.sq, Fin.here (a := List D) q1 r1 (itr_enuT h1 f1)⟩⟩
    · exact q1.elim
theorem di_zip (hg : Gl X "zip") (hm : X.mg "zip" = none) (ha : DA X T Wx [e, e2] fs) (hs : starEach [e, e2] X.env = (false, eval e X.env) :: starEach [e2] X.env := by rfl) (hpl : (backTo pos (starEach [e2] X.env)).any (·.1) = false := by rfl) :
    DI X T Wx (.Tuple elts kk tpos) (.Call (.Name "zip" p) [e, e2] [] pos) (fZip fs) :=
  PI_imp (RZ.pi_zipA hg hm ha hs hpl) fun σ H Q ⟨B, μ, s, ρ, r, e, q⟩ => tD_bind r e q fun w s1 v μ1 H1 st1 r1 e1 rel1 q1 => by
    have rel1 : RWs B μ1 s1 H1 v w := rel1
    unfold zipW at q1
    split at q1
    · cases rel1 with
      | cons g t =>
        cases t with
        | cons g2 t =>
          cases t
          have g : Fz H1 (Av B μ1 s1) _ (.list _) := g
          have g2 : Fz H1 (Av B μ1 s1) _ (.list _) := g2
          cases g with
          | @lst a xs _ h1 f1 =>
            cases g2 with
            | @lst b ys _ h2 f2 => exact ⟨a, b, xs, ys, rfl, .inl ⟨h1.sq, h2.sq, Fin.here (a := List D) q1 r1 (itr_zipL h1 f1 h2 f2)⟩⟩
    · cases rel1 with
      | cons g t =>
        cases t with
        | cons g2 t =>
          cases t
          have g : Fz H1 (Av B μ1 s1) _ (.tuple _) := g
          have g2 : Fz H1 (Av B μ1 s1) _ (.tuple _) := g2
          cases g with
          | @tup a xs _ h1 f1 =>
            cases g2 with
            | @tup b ys _ h2 f2 => exact ⟨a, b, xs, ys, rfl, .inr ⟨h1.sq, h2.sq, Fin.here (a := List D) q1 r1 (itr_zipT h1 f1 h2 f2)⟩⟩
    · exact q1.elim
end
end
end DL
namespace DL
open PySem PySem.Spec PyProof.Rows L2
section
variable [KFrag]
theorem lt64 {a c : Nat} (h : a + 64 < c) : a < c := by omega
/-! ### t < u, numbers or tuples of numbers -/
def intsD : List D → Option (List Int)
  | [] => some []
  | .int i :: r => match intsD r with
    | some l => some (i :: l)
    | none => none
  | _ :: _ => none
def ltA : D → D → Option D
  | .int i, .int j => some (.bool (decide (i < j)))
  | .tuple a, .tuple b => match intsD a, intsD b with
    | some n, some m => some (.bool (HT.lexLt n m))
    | _, _ => none
  | _, _ => none
theorem ints_fz {H : Hp} {A : Addr → Prop} : ∀ {xs : List V} {ds : List D} {ns : List Int}, Fzs H A xs ds → intsD ds = some ns → xs = ns.map V.int
  | _, _, _, .nil, e => by cases e; rfl
  | _, d :: ds, ns, .cons h t, e => by
    cases h with
    | int i =>
      unfold intsD at e
      cases z : intsD ds with
      | none => rw [z] at e; cases e
      | some l => rw [z] at e; cases e; rw [List.map_cons, ints_fz t z]
    | _ => cases e
section
variable {X : Cx} [HK X]
theorem dop_ltA (hu : X.A.units < cLine) : DOp X (compareOp .Lt) ltA := by
  intro pins s σ H x y v u Q I rx ry h
  obtain ⟨A, dx, dy, z, bt, fx, fy, e, q⟩ := h
  cases fx with
  | int i =>
    cases fy with
    | int j => cases e; exact op_lt pins s σ H _ _ v u Q I rx ry ⟨i, j, rfl, rfl, q _ _ (Same.refl _) (.bl _)⟩
    | _ => cases e
  | @tup a xs ds h1 f1 =>
    cases fy with
    | @tup b ys es h2 f2 =>
      simp only [ltA] at e
      cases z1 : intsD ds with
      | none => rw [z1] at e; cases e
      | some n =>
        cases z2 : intsD es with
        | none => rw [z1, z2] at e; cases e
        | some m =>
          rw [z1, z2] at e
          cases e
          have e1 := ints_fz f1 z1
          have e2 := ints_fz f2 z2
          subst e1
          subst e2
          exact op_ltT hu pins s σ H _ _ v u Q I rx ry ⟨a, b, n, m, rfl, rfl, h1.sq, h2.sq, q _ _ (Same.refl _) (.bl _)⟩
    | _ => cases e
  | _ => cases fy <;> cases e
end
end
section
variable [KFrag]
/-! ### a def that may raise, called with data alone -/
def pureX (h : List W → CS → R W) (ws : List W) (s : CS) : R W := match h ws [] with
  | .ok (.d x) _ => .ok (.d x) s
  | .exc e _ => .exc e s
  | _ => .bad
def fCallX (m : Nat) (h : List W → CS → R W) (fs : En → CS → R (List W)) (ρ : En) (s : CS) : R W := (fs ρ s).bind fun ws s => if ws.length = m then (match allD ws with
  | some _ => pureX h ws s
  | none => .bad) else .bad
theorem ExV.mono {T : TX} {A A' : Addr → Prop} {H : Hp} {e : Exn} {c : Value} {d : Option Addr} (k : ∀ a, A' a → A a) (h : ExV T A H e c d) : ExV T A' H e c d :=
  ⟨h.1, let ⟨dd, v, a, b, f⟩ := h.2; ⟨dd, v, a, b, f.mono k⟩⟩
theorem pureX_fin {T : TX} {Wx : WXc} {B : Addr → Prop} {μ : List Addr} {s : CS} {H : Hp} {σ σ' : L2.St} {Q : VK} {h : List W → CS → R W} {ws : List W} (r : SR B μ s H) (q : Fin T Wx B μ s H σ Q (pureX h ws s)) :
    Fin T (fun c d _ H' => Wx c d σ H') (Av B μ s) [] [] H σ' Q (h ws []) := by
  unfold pureX at q
  cases z : h ws [] with
  | bad => simp only [z] at q; exact q.elim
  | exc e s1 =>
    simp only [z] at q
    intro μ' H' c d st sr ex
    have k : Same H H' := fun a o e => st.keep a o e lv_nil
    exact q μ H' c d (Stp.same k) (r.same k) (ex.mono fun a z => .inl z)
  | ok w s1 =>
    cases w with
    | c n => simp only [z] at q; exact q.elim
    | sc n => simp only [z] at q; exact q.elim
    | fd n => simp only [z] at q; exact q.elim
    | rg n m => simp only [z] at q; exact q.elim
    | d y =>
      simp only [z] at q
      intro v μ' H' st sr rel
      have rel : Fz H' (Av (Av B μ s) μ' s1) v y := rel
      exact Fin.use (a := W) (w := .d y) q (fun a o e => st.keep a o e lv_nil) r (Fz.mono (fun a z => .inl z) rel)
section
variable {X : Cx} [HK X] {T : TX} {Wx : WXc} {f : Addr} {fd : FuncData} {ps : List Str} {k m : Nat} {h : List W → CS → R W} {x : Str} {p pos : Pos} {e : Expr} {es : List Expr} {fs : En → CS → R (List W)}
theorem de_callX (tk : Takes X Wx) (F : FnOk X.prog X.w X.K X.mg X.base (L2.CX X.prog X.w) k f fd ps (spD T m h)) (hr : Room k X.A) (hg : Gl X x) (hm : X.mg x = some (.ref f)) (hk : PySem.W.keepIn X.K (.ref f) = true) (hb : Binds X.K fd ps [])
    (ha : DA X T Wx (e :: es) fs) (hdb : (x == ("__debug__" : Str)) = false := by decide) (he : starEach (e :: es) X.env = (false, eval e X.env) :: starEach es X.env := by rfl) (hpl : (backTo pos (starEach es X.env)).any (·.1) = false := by rfl) :
    DE X T Wx (.Call (.Name x p) (e :: es) [] pos) (fCallX m h fs) := PE_imp (pe_callS F hr hg hm hk hb (fun σ => passAt tk σ) ha hdb he hpl) fun σ H Q ⟨B, μ, s, ρ, r, e, q⟩ =>
  tD_bind r e q fun w s1 v μ1 H1 st1 r1 e1 rel1 q1 => by
    split at q1
    · rename_i hl
      have rel1 : RWs B μ1 s1 H1 v w := rel1
      split at q1
      · rename_i ds hd
        exact ⟨by rw [rel1.len]; exact hl, Av B μ1 s1, [], [], w, σ, r1.pure, allD_rws (fun a z => z.elim id fun z => absurd z lv_nil) hd rel1, pureX_fin r1 q1⟩
      · exact q1.elim
    · exact q1.elim
end
/-! ### raise C(x) -/
def tMk (fld : Str) (C : Addr) (ta : TA) : L2.St → Hp → XK → Prop := fun σ H Q => ta σ H fun vs H1 => ∃ v, vs = [v] ∧ ∀ d, H1 d = none → Q (.ref C) (some d) (upd H1 d (.xd [(fld, v)]))
def gRaise (c : Nat) (fs : En → CS → R (List W)) (ρ : En) (s : CS) : RT := (fs ρ s).toT ρ fun ws s => match ws with
  | [.d x] => .exc ⟨c, x⟩ ρ s
  | _ => .bad
theorem ds_raise {X : Cx} {T : TX} {Wx : WXc} {st : Stmt} {fs : En → CS → R (List W)} (c : Nat) {C : Addr} {fld : Str} (hT : T c = (C, fld)) (h : PS X st (fun _ σ H => tMk fld C (tD T Wx fs) σ H fun cls d H' => Wx cls d σ H')) : DS X T Wx st (gRaise c fs) :=
  PS_imp h fun D σ H ⟨B, μ, s, ρ, r, e, q⟩ => tD_bindT r e q fun w s1 v μ1 H1 st1 r1 e1 rel1 q1 => by
    have rel1 : RWs B μ1 s1 H1 v w := rel1
    split at q1
    · cases rel1 with
      | cons g t =>
        cases t
        have g : Fz H1 (Av B μ1 s1) _ _ := g
        refine ⟨_, rfl, fun d hd => q1 σ μ1 _ _ _ (Stp.same (same_upd hd)) (r1.same (same_upd hd)) (e1.stp (Stp.same (same_upd hd))) ⟨by rw [hT], d, _, rfl, ?_, g.same (same_upd hd)⟩⟩
        rw [hT]
        exact upd_same
    · exact q1.elim
/-! ### except C as e -/
def rst (i : Nat) : RT → RT
  | .nx ρ s => .nx (ρ.set i none) s
  | .bk ρ s => .bk (ρ.set i none) s
  | .ct ρ s => .ct (ρ.set i none) s
  | .rt w s => .rt w s
  | _ => .bad
def gTry (i cs : Nat) (g : En → CS → RT) (h : D → En → CS → RT) (ρ : En) (s : CS) : RT := match g ρ s with
  | .exc e ρ1 s1 => if e.cls = cs ∧ i < ρ1.length then rst i (h e.arg (ρ1.set i none) s1) else .bad
  | r => r
theorem ER.unset {B : Addr → Prop} {μ : List Addr} {s : CS} {H : Hp} {σ : L2.St} {ρ : En} (h : ER B μ s H σ ρ) (i : Nat) (o : Option V) : ER B μ s H (σ.set i o) (ρ.set i none) := by
  refine ⟨by rw [List.length_set, List.length_set]; exact h.len, fun j u e => ?_⟩
  by_cases hij : i = j
  · subst hij
    rw [List.getElem?_set] at e
    simp only [if_true] at e
    split at e <;> cases e
  · rw [List.getElem?_set_ne hij] at e
    rw [List.getElem?_set_ne hij]
    exact h.at_ j u e
/-- the suite's wishes: the exception x in slot i, at a -/
def tSu (T : TX) (cs i : Nat) (a : Addr) (cls : Value) (d : Option Addr) (h : D → En → CS → RT) : TS := fun D σ H => ∃ B μ s ρ x, SR B μ s H ∧ ER B μ s H σ ρ ∧ σ[i]? = some (some (.ref a)) ∧ ExV T (Av B μ s) H ⟨cs, x⟩ cls d ∧ FinT T Wx0 B μ s H D (h x ρ s)
def tXs {a b : Type} [Rp a b] (T : TX) (cs i : Nat) (ad : Addr) (cls : Value) (d : Option Addr) (f : D → En → CS → R a) : L2.St → Hp → (b → Hp → Prop) → Prop := fun σ H Q =>
  ∃ B μ s ρ x, SR B μ s H ∧ ER B μ s H σ ρ ∧ σ[i]? = some (some (.ref ad)) ∧ ExV T (Av B μ s) H ⟨cs, x⟩ cls d ∧ Fin T Wx0 B μ s H σ Q (f x ρ s)
theorem FinT.rst {T : TX} {Wx : WXc} {B : Addr → Prop} {μ : List Addr} {s : CS} {H : Hp} {D : Ends} {i : Nat} {r : RT} (q : FinT T Wx B μ s H D (rst i r)) :
    FinT T Wx0 B μ s H { nx := fun σ' H' => D.nx (σ'.set i none) H', rt := D.rt, bk := fun σ' H' => D.bk (σ'.set i none) H', ct := fun σ' H' => D.ct (σ'.set i none) H' } r := by
  cases r with
  | nx ρ t => exact fun σ' m h1 b c d => q _ m h1 b c (d.unset i none)
  | rt w t => exact q
  | bk ρ t => exact fun σ' m h1 b c d => q _ m h1 b c (d.unset i none)
  | ct ρ t => exact fun σ' m h1 b c d => q _ m h1 b c (d.unset i none)
  | exc e ρ t => exact q.elim
  | bad => exact q
theorem ds_try {X : Cx} {T : TX} {Wx : WXc} {x n : Str} {i cs : Nat} {C : Addr} {fld : Str} {body suite : List Stmt} {b₀ : Stmt} {np pos pos' : Pos} {g : En → CS → RT} {h : D → En → CS → RT}
    (hT : T cs = (C, fld)) (hx : PySem.W.exmOne X.K (.ref C) (.ref C) = some true)
    (hs : X.stack = X.env :: X.outer) (hf : X.env.frame = some X.env.locals) (hN : X.N.Nodup) (hi : X.N[i]? = some n) (hln : X.env.kindOf n = some .local) (hc : Names X x (.ref C)) (tk : Takes X Wx)
    (hb : ∀ (W : WXc) (pn : List (Addr × Obj)) (xe : Value → Shared → Prop), Takes (X.tr pn xe) W → PassesOwn (model X.prog X.w) X.A X.env xe → DSs (X.tr pn xe) T W body g)
    (hsu : ∀ (a : Addr) (oe : Obj) (cls : Value) (d : Option Addr) (pn : List (Addr × Obj)), Zc cls d oe → (∃ vs, oe.data = .fields vs) → PSs (X.suite a ((a, oe) :: pn)) (b₀ :: suite) (tSu T cs i a cls d h)) :
    DS X T Wx (.Try body [.ExceptHandler (some (.Name x np)) (some n) (b₀ :: suite) pos'] [] [] pos) (gTry i cs g h) :=
  PS_imp (ps_try_as (tb := fun W => tT T W g) (ts := fun a cls d => tSu T cs i a cls d h) (Wout := Wx) hs hf hN hi hln hc tk hb hsu) fun D σ H ⟨B, μ, s, ρ, r, e, q⟩ => by
    refine ⟨B, μ, s, ρ, r, e, ?_⟩
    unfold gTry at q
    cases z : g ρ s with
    | exc x ρ1 s1 =>
      simp only [z] at q
      split at q
      · rename_i hcl
        intro σ1 μ1 H1 c d st r1 e1 ex
        refine ⟨true, ?_, fun _ a ha => ⟨B, μ1, s1, ρ1.set i none, x.arg, r1, e1.unset i _, ?_, hcl.1 ▸ ex, (FinT.stp st q).rst⟩, fun z => Bool.noConfusion z⟩
        · rw [ex.1, hcl.1, hT]
          exact hx
        · exact List.getElem?_set_self (by rw [e1.len]; exact hcl.2)
      · exact q.elim
    | nx ρ1 s1 => simp only [z] at q; exact q
    | rt w s1 => simp only [z] at q; exact q
    | bk w s1 => simp only [z] at q; exact q
    | ct w s1 => simp only [z] at q; exact q
    | bad => simp only [z] at q; exact q
/-! the suite -/
theorem ExV.stp {T : TX} {B : Addr → Prop} {μ μ' : List Addr} {s s' : CS} {H H' : Hp} {e : Exn} {c : Value} {d : Option Addr} (r : SR B μ s H) (st : Stp μ s H μ' s' H') (h : ExV T (Av B μ s) H e c d) : ExV T (Av B μ' s') H' e c d := by
  obtain ⟨h1, dd, v, hd, hx, f⟩ := h
  refine ⟨h1, dd, v, hd, st.keep dd _ hx fun ⟨n, cl, e1, e2, ne⟩ => ?_, f.kp st.kp⟩
  have q := r.cell n dd cl e1 e2
  cases cl with
  | dead => exact ne rfl
  | lst ds =>
    obtain ⟨xs, e, _⟩ := q
    rw [hx] at e
    cases e
  | dct ds =>
    rcases q with ⟨xs, e, _⟩ | ⟨ks, t, _, e, _⟩
    · rw [hx] at e
      unfold DObj at e
      cases e
    · rw [hx] at e
      cases e
  | dcr ds =>
    rcases q with ⟨es, e, _⟩ | ⟨ks, t, _, e, _⟩
    · rw [hx] at e
      unfold DObj at e
      cases e
    · rw [hx] at e
      cases e
section
variable {a b c d : Type} [Rp a b] [Rp c d] {T : TX} {B : Addr → Prop} {μ μ' : List Addr} {s s' : CS} {H H' : Hp} {σ : L2.St} {ρ : En} {Qc : d → Hp → Prop} {cs i : Nat} {ad : Addr} {cls : Value} {dx : Option Addr}
theorem tX_bind {x : D} {f : D → En → CS → R a} {g : a → CS → R c} {k : b → Hp → Prop} (r : SR B μ s H) (e : ER B μ s H σ ρ) (hσ : σ[i]? = some (some (.ref ad))) (hx : ExV T (Av B μ s) H ⟨cs, x⟩ cls dx) (q : Fin T Wx0 B μ s H σ Qc ((f x ρ s).bind g))
    (h : ∀ w s1 v μ1 H1, Stp μ s H μ1 s1 H1 → SR B μ1 s1 H1 → ER B μ1 s1 H1 σ ρ → ExV T (Av B μ1 s1) H1 ⟨cs, x⟩ cls dx → Rp.rel B μ1 s1 H1 v w → Fin T Wx0 B μ1 s1 H1 σ Qc (g w s1) → k v H1) : tXs T cs i ad cls dx f σ H k := by
  refine ⟨B, μ, s, ρ, x, r, e, hσ, hx, ?_⟩
  cases z : f x ρ s with
  | ok w s1 =>
    rw [z] at q
    intro v μ1 H1 st1 r1 rel
    exact h w s1 v μ1 H1 st1 r1 (e.stp st1) (hx.stp r st1) rel (Fin.stp st1 q)
  | exc y s1 => rw [z] at q; exact q
  | bad => rw [z] at q; exact q
theorem tX_bindT {x : D} {f : D → En → CS → R a} {g : a → CS → RT} {k : b → Hp → Prop} {D : Ends} (r : SR B μ s H) (e : ER B μ s H σ ρ) (hσ : σ[i]? = some (some (.ref ad))) (hx : ExV T (Av B μ s) H ⟨cs, x⟩ cls dx) (q : FinT T Wx0 B μ s H D ((f x ρ s).toT ρ g))
    (h : ∀ w s1 v μ1 H1, Stp μ s H μ1 s1 H1 → SR B μ1 s1 H1 → ER B μ1 s1 H1 σ ρ → ExV T (Av B μ1 s1) H1 ⟨cs, x⟩ cls dx → Rp.rel B μ1 s1 H1 v w → FinT T Wx0 B μ1 s1 H1 D (g w s1) → k v H1) : tXs T cs i ad cls dx f σ H k := by
  refine ⟨B, μ, s, ρ, x, r, e, hσ, hx, ?_⟩
  cases z : f x ρ s with
  | ok w s1 =>
    rw [z] at q
    intro v μ1 H1 st1 r1 rel
    exact h w s1 v μ1 H1 st1 r1 (e.stp st1) (hx.stp r st1) rel (FinT.stp st1 q)
  | exc y s1 => rw [z] at q; exact fun μ1 H1 c d st r1 ex => q σ μ1 H1 c d st r1 (e.stp st) ex
  | bad => rw [z] at q; exact q
end
section
variable {X : Cx} [HK X] {T : TX} {cs i : Nat} {ad : Addr} {cls : Value} {dx : Option Addr} {e : Expr} {es : List Expr} {f : D → En → CS → R W} {fs : D → En → CS → R (List W)} {pos : Pos}
abbrev XE1 (X : Cx) (T : TX) (cs i : Nat) (ad : Addr) (cls : Value) (dx : Option Addr) (e : Expr) (f : D → En → CS → R W) : Prop := PE X e (tXs T cs i ad cls dx f)
abbrev XA1 (X : Cx) (T : TX) (cs i : Nat) (ad : Addr) (cls : Value) (dx : Option Addr) (e : List Expr) (f : D → En → CS → R (List W)) : Prop := PA X e (tXs T cs i ad cls dx f)
theorem xe_of {g : En → CS → R W} (h : DE X T Wx0 e g) : XE1 X T cs i ad cls dx e (fun _ => g) := PE_imp h fun σ H Q ⟨B, μ, s, ρ, x, r, e, _, _, q⟩ => ⟨B, μ, s, ρ, r, e, q⟩
/-- e.f, e the slot i -/
def tBy (fld : Str) (C : Addr) (a : Addr) (cls : Value) (d : Option Addr) (te : TE) : TE := fun σ H Q => te σ H fun x H1 => x = .ref a ∧ cls = .ref C ∧ ∃ (dd : Addr) (v : V), d = some dd ∧ H1 dd = some (.xd [(fld, v)]) ∧ Q v H1
def fX (x : D) (_ : En) (s : CS) : R W := .ok (.d x) s
theorem xe_by {C : Addr} {fld : Str} (hT : T cs = (C, fld)) (h : PE X e (tBy fld C ad cls dx (tVar i))) : XE1 X T cs i ad cls dx e fX := PE_imp h fun σ H Q ⟨B, μ, s, ρ, x, r, e, hσ, hx, q⟩ => by
  obtain ⟨h1, dd, v, hd, hy, f⟩ := hx
  simp only [hT] at h1 hy
  exact ⟨.ref ad, hσ, rfl, h1, dd, v, hd, hy, q v μ H Stp.refl r f⟩
theorem xa_nil : XA1 X T cs i ad cls dx [] (fun _ => fNil) := PA_imp pa_nil fun σ H Q ⟨B, μ, s, ρ, x, r, e, _, _, q⟩ => Fin.here (a := List W) (w := []) q r RWs.nil
theorem xa_cons (h1 : XE1 X T cs i ad cls dx e f) (h2 : XA1 X T cs i ad cls dx es fs) (he : starEach (e :: es) X.env = (false, eval e X.env) :: starEach es X.env := by rfl) : XA1 X T cs i ad cls dx (e :: es) (fun x => fCons (f x) (fs x)) :=
  PA_imp (pa_cons h1 h2 he) fun σ H Q ⟨B, μ, s, ρ, x, r, e, hσ, hx, q⟩ => tX_bind r e hσ hx q fun w s1 v μ1 H1 _ r1 e1 x1 rel1 q1 => tX_bind r1 e1 hσ x1 q1 fun w2 s2 v2 μ2 H2 st2 r2 _ _ rel2 q2 =>
    Fin.here (a := List W) q2 r2 (RWs.cons (Rp.stp (a := W) (b := V) st2 rel1) rel2)
theorem xe_lst (h : XA1 X T cs i ad cls dx es fs) : XE1 X T cs i ad cls dx (.List es pos) (fun x => fN lstD (fs x)) := PE_imp (pe_lst h) fun σ H Q ⟨B, μ, s, ρ, x, r, e, hσ, hx, q⟩ =>
  tX_bind r e hσ hx q fun w s1 v μ1 H1 _ r1 e1 x1 rel1 q1 => by
    obtain ⟨A, ds, z, bt, fz, e, q⟩ := liftN_use r1 rel1 q1
    unfold lstD at e
    split at e
    · rename_i hl
      cases e
      exact ⟨by rw [fz.len, line_eq]; exact hl, fun p hp => q _ _ (same_upd hp) (Fz.newL bt hp fz)⟩
    · cases e
theorem xs_ret (h : XE1 X T cs i ad cls dx e f) : PSs X [.Return (some e) pos] (tSu T cs i ad cls dx (fun x => gRet (f x))) := PSs_imp (pss_one (ps_ret h)) fun D σ H ⟨B, μ, s, ρ, x, r, e, hσ, hx, q⟩ =>
  tX_bindT r e hσ hx q fun w s1 v μ1 H1 _ r1 e1 x1 rel1 q1 => q1 v μ1 H1 Stp.refl r1 rel1
end
end
end DL
namespace DL
open PySem PySem.Spec PyProof.Rows L2
/-! ### defs run where nothing is being shown -/
/-- a def's promise, wherever no text of an object is under way -/
structure FnG (P : Program) (w : World) (K : PySem.W.Frag) (mg : Str → Option Value) (base : Heap) (k : Nat) (f : Addr) (fd : FuncData) (ps : List Str) (sp : Sp) : Prop where
  len : ∀ vs H Q E, sp vs H Q E → vs.length = ps.length
  run : ∀ (A : Around) (outer : List Env) (s : Shared) (H : Hp) (args : Args) (us : List Value) (vs : List V) (Q : VK) (E : XK), A.guards = some [] → Room k A → Env0 P w K mg base A outer s H →
    BindsTo s fd args (ps.zip us) → Vals vs us → sp vs H Q E → codeAny (model P w) A (.call (.ref f) args) (CR (L2.CX P w) outer P w H s Q E) s
theorem FnG.imp {P : Program} {w : World} {K : PySem.W.Frag} {mg : Str → Option Value} {base : Heap} {k : Nat} {f : Addr} {fd : FuncData} {ps : List Str} {sp sp' : Sp} (F : FnG P w K mg base k f fd ps sp)
    (h : ∀ vs H Q E, sp' vs H Q E → sp vs H Q E) : FnG P w K mg base k f fd ps sp' where
  len := fun vs H Q E q => F.len vs H Q E (h _ _ _ _ q)
  run := fun A outer s H args us vs Q E g hr he hb hv hs => F.run A outer s H args us vs Q E g hr he hb hv (h _ _ _ _ hs)
theorem name_kind {scope : Scope} {N ps : List Str} (S : FnScope N ps scope) (n0 : Nat) (us : List Value) : ∀ y ∈ ps.zip us, scope.names.lookup y.1 = some .local ∨ (scope.names.lookup y.1 = some .cell ∧ ((cellsFrom n0 scope.names []).lookup y.1).isSome = true) := by
  rintro ⟨n, v⟩ hy
  cases S.par n (List.of_mem_zip hy).1 with
  | inl q => exact .inl q
  | inr q => exact .inr ⟨q, PySem.W.cellsFrom_some _ _ _ (.inl q)⟩
theorem call_end {P : Program} {w : World} {K : PySem.W.Frag} {mg : Str → Option Value} {base : Heap} {N : List Str} {qual : Str} {scope : Scope} {f : Addr} {cd : Value} {A : Around} {outer : List Env} {s s' : Shared} {H : Hp} {Q : VK} {E : XK} {fl : Flow}
    (h : SP (cxOf (L2.CX P w) P w K mg base N qual scope f cd A outer s H E) [] { nx := fun _ H' => Q .non H', rt := Q } fl s') : match fl with
      | .ret u => CE outer P w H s Q u s'
      | .next => CE outer P w H s Q .none s'
      | _ => False := by
  cases fl with
  | ret u =>
    obtain ⟨v, σ', H', J, rv, q⟩ := h
    exact ⟨v, H', J.os, J.bare, J.base, J.hok, rv, q⟩
  | next =>
    obtain ⟨σ', H', J, q⟩ := h
    exact ⟨.non, H', J.os, J.bare, J.base, J.hok, rfl, q⟩
  | brk => obtain ⟨_, _, _, q⟩ := h; exact q
  | cont => obtain ⟨_, _, _, q⟩ := h; exact q
section
variable {P : Program} {w : World} {K : PySem.W.Frag} {mg : Str → Option Value} {base : Heap} {x qual : Str} {st : Stmt} {f : Addr} {fd : FuncData} {N ps : List Str} {k : Nat}
theorem fnG_of {sp : Sp} (F : Fun K x qual st f fd) (S : FnScope N ps (defScope st)) (len : ∀ vs H Q E, sp vs H Q E → vs.length = ps.length)
    (hb : ∀ (cdv : Value) (A : Around) (outer : List Env) (s : Shared) (H : Hp) (vs : List V) (Q : VK) (E : XK), A.guards = some [] → Room k (A.deeper (envOfC qual (defScope st) s.heap.objs.size f cdv)) → sp vs H Q E →
      ∃ t, PSs (cxOf (L2.CX P w) P w K mg base N qual (defScope st) f cdv A outer s H E) (defBody st) t ∧ t { nx := fun _ H' => Q .non H', rt := Q } (start N vs) H) : FnG P w K mg base (k + 1) f fd ps sp := by
  obtain ⟨oc, od, kV, doc, pm, an, cdv, ct, osl, rfl, lk, hcd⟩ := F.ex
  refine ⟨len, fun A outer s H args us vs Q E g hr e0 bd r hsp => ?_⟩
  have up : ∀ b o, base.get? b = some o → s.heap.get? b = some o := fun b o e => (e0.bs b o e).1
  have KX : K.In s.heap := e0.mod.kin.keeps up
  refine codeAny_call_function hr.depth (KX _ _ lk) rfl S.co S.gen rfl (PySem.W.codeRec_of KX hcd) (bd _ _ _ _ (wpAny_newFunctionEnv_cells S.kind (name_kind S _ us) fun env he s1 y => ?_))
  subst he
  refine ⟨(e0.mod.nolimit.keeps up).keeps y.toInCall.keep, codeAny_func ?_⟩
  obtain ⟨t, ht, hq⟩ := hb cdv A outer s H vs Q E g (hr.deeper _) hsp
  refine wpAny_mono (ht.run [] s1 (start N vs) H _ (inv_start S hr.hd e0 (len _ _ _ _ hsp) r y) hq) (fun fl s' hs => ?_) fun e s' hs => hs
  have z := call_end hs
  cases fl with
  | ret u => exact z
  | next => exact z
  | brk => exact z.elim
  | cont => exact z.elim
end
section
variable {X : Cx} {Wx : WXc} {f : Addr} {fd : FuncData} {ps : List Str} {k : Nat} {sp : Sp} {x : Str} {p pos : Pos} {e : Expr} {es : List Expr} {t : TA}
theorem pe_callG (hgd : X.A.guards = some []) (tk : Takes X Wx) (F : FnG X.prog X.w X.K X.mg X.base k f fd ps sp) (hr : Room k X.A) (hg : Gl X x) (hm : X.mg x = some (.ref f)) (hk : PySem.W.keepIn X.K (.ref f) = true) (hb : Binds X.K fd ps [])
    (ha : PA X (e :: es) t) (hdb : (x == ("__debug__" : Str)) = false := by decide) (he : starEach (e :: es) X.env = (false, eval e X.env) :: starEach es X.env := by rfl) (hpl : (backTo pos (starEach es X.env)).any (·.1) = false := by rfl) :
    PE X (.Call (.Name x p) (e :: es) [] pos) (tCallS sp (WE Wx) t) where
  run := fun pins s σ H Q I h => by
    refine wpAny_Call_Name_kw (ld_glob I hg hm (PySem.W.callWith_K (h₀ := X.base) I.ok.mod.kin hk (thn (ha.run pos pins s σ H _ I h) fun us s1 z => ?_) he hpl) hdb)
    obtain ⟨vs, H1, I1, r, q⟩ := z
    have hl : us.length = ps.length := by rw [← r.length]; exact F.len _ _ _ _ q
    have bd := hb s1 us I1.kIn (by rw [List.append_nil]; exact hl)
    rw [List.append_nil] at bd
    refine ⟨I1.kIn, wpAny_call (codeAny_mono (F.run X.A X.stack s1 H1 ⟨us, []⟩ us vs Q (WE Wx σ) hgd hr I1.env0 bd r q) fun z s2 hz => ?_)⟩
    cases z with
    | error u => exact passAt tk σ pins H1 s1 u s2 I1 hz
    | ok fl =>
      cases fl with
      | ret u => exact I1.after hz
      | next => exact hz.elim
      | brk => exact hz.elim
      | cont => exact hz.elim
end
section
variable [KFrag]
section
variable {P : Program} {w : World} {K : PySem.W.Frag} {mg : Str → Option Value} {base : Heap} {x qual : Str} {st : Stmt} {f : Addr} {fd : FuncData} {N ps : List Str} {k : Nat} {T : TX} {g : En → CS → RT}
theorem fnG {m n : Nat} (F : Fun K x qual st f fd) (S : FnScope N ps (defScope st)) (hm : ps.length = m) (hn : N.length = n)
    (hb : ∀ (cdv : Value) (A : Around) (outer : List Env) (s : Shared) (H : Hp) (E : XK), (A.deeper (envOfC qual (defScope st) s.heap.objs.size f cdv)).guards = some [] → Room k (A.deeper (envOfC qual (defScope st) s.heap.objs.size f cdv)) →
      DSs (cxOf (L2.CX P w) P w K mg base N qual (defScope st) f cdv A outer s H E) T (fun c d _ H' => E c d H') (defBody st) g) :
    FnG P w K mg base (k + 1) f fd ps (spD T m (fnR m n g)) := by
  subst hm
  subst hn
  refine fnG_of F S spD_len fun cdv A outer s H vs Q E gd hr h => ?_
  obtain ⟨_, B, μ, t, ws, σ, r, rw_, q⟩ := h
  exact ⟨_, hb cdv A outer s H E gd hr, fn_run (Wx := fun c d _ H' => E c d H') (E := E) (fun _ _ _ _ z => z) r rw_ q⟩
end
section
variable {X : Cx} [HK X] {T : TX} {Wx : WXc} {f : Addr} {fd : FuncData} {ps : List Str} {k m : Nat} {h : List W → CS → R W} {x : Str} {p pos : Pos} {e : Expr} {es : List Expr} {fs : En → CS → R (List W)}
theorem Fin.wx {a b : Type} [Rp a b] {T : TX} {Wx Wy : WXc} {B : Addr → Prop} {μ : List Addr} {s : CS} {H : Hp} {σ σ' : L2.St} {Q : b → Hp → Prop} {r : R a} (k : ∀ c d H, Wx c d σ H → Wy c d σ' H) (q : Fin T Wx B μ s H σ Q r) : Fin T Wy B μ s H σ' Q r := by
  cases r with
  | ok w s1 => exact q
  | exc e s1 => exact fun μ' H' c d a b z => k _ _ _ (q μ' H' c d a b z)
  | bad => exact q
/-- a call whose def may change cells; it lets nothing out -/
theorem de_callG (hgd : X.A.guards = some []) (tk : Takes X Wx) (F : FnG X.prog X.w X.K X.mg X.base k f fd ps (spD T m h)) (hr : Room k X.A) (hg : Gl X x) (hm : X.mg x = some (.ref f)) (hk : PySem.W.keepIn X.K (.ref f) = true) (hb : Binds X.K fd ps [])
    (ha : DA X T Wx (e :: es) fs) (hdb : (x == ("__debug__" : Str)) = false := by decide) (he : starEach (e :: es) X.env = (false, eval e X.env) :: starEach es X.env := by rfl) (hpl : (backTo pos (starEach es X.env)).any (·.1) = false := by rfl) :
    DE X T Wx (.Call (.Name x p) (e :: es) [] pos) (fCall m h fs) := PE_imp (pe_callG hgd tk F hr hg hm hk hb ha hdb he hpl) fun σ H Q ⟨B, μ, s, ρ, r, e, q⟩ =>
  tD_bind r e q fun w s1 v μ1 H1 st1 r1 e1 rel1 q1 => by
    have rel1 : RWs B μ1 s1 H1 v w := rel1
    split at q1
    · rename_i hl
      exact ⟨rel1.len.trans hl, B, μ1, s1, w, σ, r1, rel1, noX_un q1⟩
    · exact q1.elim
/-- a call with data alone -/
theorem de_callPG (hgd : X.A.guards = some []) (tk : Takes X Wx) (F : FnG X.prog X.w X.K X.mg X.base k f fd ps (spD T m h)) (hr : Room k X.A) (hg : Gl X x) (hm : X.mg x = some (.ref f)) (hk : PySem.W.keepIn X.K (.ref f) = true) (hb : Binds X.K fd ps [])
    (ha : DA X T Wx (e :: es) fs) (hdb : (x == ("__debug__" : Str)) = false := by decide) (he : starEach (e :: es) X.env = (false, eval e X.env) :: starEach es X.env := by rfl) (hpl : (backTo pos (starEach es X.env)).any (·.1) = false := by rfl) :
    DE X T Wx (.Call (.Name x p) (e :: es) [] pos) (fCallP m (noX h) fs) := PE_imp (pe_callG hgd tk F hr hg hm hk hb ha hdb he hpl) fun σ H Q ⟨B, μ, s, ρ, r, e, q⟩ =>
  tD_bind r e q fun w s1 v μ1 H1 st1 r1 e1 rel1 q1 => by
    have rel1 : RWs B μ1 s1 H1 v w := rel1
    split at q1
    · rename_i hl
      split at q1
      · rename_i ds hd
        exact ⟨rel1.len.trans hl, Av B μ1 s1, [], [], w, σ, r1.pure, allD_rws (fun a z => z.elim id fun z => absurd z lv_nil) hd rel1, noX_un (pure_fin (Wy := fun _ _ _ _ => False) (σ' := σ) r1 q1)⟩
      · exact q1.elim
    · exact q1.elim
/-- .. that may raise -/
theorem de_callXG (hgd : X.A.guards = some []) (tk : Takes X Wx) (F : FnG X.prog X.w X.K X.mg X.base k f fd ps (spD T m h)) (hr : Room k X.A) (hg : Gl X x) (hm : X.mg x = some (.ref f)) (hk : PySem.W.keepIn X.K (.ref f) = true) (hb : Binds X.K fd ps [])
    (ha : DA X T Wx (e :: es) fs) (hdb : (x == ("__debug__" : Str)) = false := by decide) (he : starEach (e :: es) X.env = (false, eval e X.env) :: starEach es X.env := by rfl) (hpl : (backTo pos (starEach es X.env)).any (·.1) = false := by rfl) :
    DE X T Wx (.Call (.Name x p) (e :: es) [] pos) (fCallX m h fs) := PE_imp (pe_callG hgd tk F hr hg hm hk hb ha hdb he hpl) fun σ H Q ⟨B, μ, s, ρ, r, e, q⟩ =>
  tD_bind r e q fun w s1 v μ1 H1 st1 r1 e1 rel1 q1 => by
    have rel1 : RWs B μ1 s1 H1 v w := rel1
    split at q1
    · rename_i hl
      split at q1
      · rename_i ds hd
        exact ⟨rel1.len.trans hl, Av B μ1 s1, [], [], w, σ, r1.pure, allD_rws (fun a z => z.elim id fun z => absurd z lv_nil) hd rel1, pureX_fin r1 q1⟩
      · exact q1.elim
    · exact q1.elim
end
end
/-! ### the law, called behind the top -/
section
variable {P : Program} {w : World} {K : PySem.W.Frag} {mg mb : Str → Option Value} {k : Nat} {fa a : Addr} {fd : FuncData} {x : Str} {s : Shared} {ns : List Int} {ob : Obj}
/-- nothing is tracked but the object at a, which is no dict; the ground hides it -/
theorem env_law {H : Hp} (KX : K.In s.heap) (hns : s.heap.Ns mainGlobals mg) (hb : s.heap.Ns builtinsNs mb) (hbb : ∀ x : Str, x ≠ "__name__" → mb x = bootBuiltins x) (hlim : s.heap.NoLimit) (hg : s.gens = #[]) (ha : s.heap.get? a = some ob) (hd : ∀ es n, ob.data ≠ .dict es n)
    (hok : HOk P w H s.heap) (hA : ∀ b, H b ≠ none → b = a) (hK : H a ≠ none → K.lookup a = none) : K.In (hidT s.heap H) ∧ (hidT s.heap H).Ns mainGlobals mg ∧ Env0 P w K mg (hidT s.heap H) callerA [] s H := by
  have free : ∀ {b : Addr} {o : Obj} {es : Array DictEntry} {n : Nat}, s.heap.get? b = some o → o.data = .dict es n → H b = none := by
    intro b o es n e q
    cases z : H b with
    | none => rfl
    | some u =>
      have y := hA b (by rw [z]; simp)
      subst y
      rw [ha] at e
      cases e
      exact absurd q (hd es n)
  have ns' : ∀ {b : Addr} {m : Str → Option Value}, s.heap.Ns b m → (hidT s.heap H).Ns b m := by
    rintro b m ⟨o, es, n, e, q, r⟩
    exact ⟨o, es, n, hidT_get e (free e q), q, r⟩
  have kin : K.In (hidT s.heap H) := by
    intro b o e
    refine hidT_get (KX b o e) ?_
    cases z : H b with
    | none => rfl
    | some u =>
      have y := hA b (by rw [z]; simp)
      subst y
      rw [hK (by rw [z]; simp)] at e
      cases e
  refine ⟨kin, ns' hns, ⟨rfl, ⟨kin, ns' hns, ⟨mb, ns' hb, hbb⟩, ?_⟩, fun b o e => of_hidT e, Nat.le_of_eq (hidT_size _ _), trivial, ?_, hok, .of_eq hg⟩⟩
  · obtain ⟨mc, h1, h2⟩ := hlim
    exact ⟨mc, ns' h1, h2⟩
  · intro b hb
    cases hb
theorem law_endG {H : Hp} {r : Result} {s' : Shared} (hO : Only H) (hok : HOk P w H s.heap) (h : CR (L2.CX P w) [] P w H s (fun v _ => v = .bl true) (fun _ _ _ => False) r s') :
    r = .ok (.ret (.bool true)) ∧ PySem.OldK s.heap s'.heap ∧ s'.os = s.os ∧ AllBare s'.gens := by
  cases r with
  | error e =>
    obtain ⟨_, _, _, _, _, _, _, _, _, _, _, _, z⟩ := h
    exact z.elim
  | ok fl =>
    cases fl with
    | next => exact h.elim
    | brk => exact h.elim
    | cont => exact h.elim
    | ret u =>
      obtain ⟨v, H', os, bare, un, hok', rv, rfl⟩ := h
      cases rv
      refine ⟨rfl, PySem.OldK.of_keep fun b o e => ?_, os, bare⟩
      cases q : H b with
      | none => exact un.keep b o e q (fun z => by cases z) (by simp)
      | some v =>
        rcases hO b with z | ⟨oo, xs, z⟩
        · rw [q] at z
          cases z
        · have e1 := (hok b _ z).1
          have e2 := (hok' b _ (un.frzs b oo _ z)).1
          rw [e] at e1
          cases e1
          exact e2
theorem law_callG {sp : Sp} {vs : List Value} (KX : K.In s.heap) (hns : s.heap.Ns mainGlobals mg) (hb : s.heap.Ns builtinsNs mb) (hbb : ∀ x : Str, x ≠ "__name__" → mb x = bootBuiltins x) (hlim : s.heap.NoLimit) (hg : s.gens = #[])
    (ha : s.heap.get? a = some { cls := .type "list", data := .seq vs.toArray }) (hi : IntsAre vs ns) (hl : ns.length ≤ sizeLine) (hr : Room k callerA)
    (F : ∀ base : Heap, K.In base → base.Ns mainGlobals mg → FnG P w K mg base k fa fd [x] sp) (bd : ∀ (s : Shared) (u : Value), BindsTo s fd ⟨[u], []⟩ [(x, u)])
    (hsp : ∀ H : Hp, Only H → SqL K H a (ns.map V.int) → sp [.ref a] H (fun v _ => v = .bl true) fun _ _ _ => False) :
    codeAny (model P w) callerA (.call (.ref fa) ⟨[.ref a], []⟩) (fun r s' => r = .ok (.ret (.bool true)) ∧ PySem.OldK s.heap s'.heap ∧ s'.os = s.os ∧ AllBare s'.gens) s := by
  have go : ∀ H : Hp, Only H → SqL K H a (ns.map V.int) → HOk P w H s.heap → (∀ b, H b ≠ none → b = a) → (H a ≠ none → K.lookup a = none) → codeAny (model P w) callerA (.call (.ref fa) ⟨[.ref a], []⟩) (fun r s' => r = .ok (.ret (.bool true)) ∧ PySem.OldK s.heap s'.heap ∧ s'.os = s.os ∧ AllBare s'.gens) s := by
    intro H hO hS hok hA hK
    obtain ⟨e1, e2, e3⟩ := env_law KX hns hb hbb hlim hg ha (fun es n z => by cases z) hok hA hK
    exact codeAny_mono ((F _ e1 e2).run callerA [] s H ⟨[.ref a], []⟩ [.ref a] [.ref a] _ _ rfl hr e3 (bd s (.ref a)) (.cons rfl .nil) (hsp H hO hS)) fun r s' h => law_endG hO hok h
  have rv := vals_ints hi
  have lv := hi.length
  cases hk : K.lookup a with
  | some o =>
    have e := KX a o hk
    rw [ha] at e
    cases e
    exact go (fun _ => none) (fun _ => .inl rfl) (.inr ⟨_, vs.toArray, _, hk, rfl, rfl, rfl, by rw [List.size_toArray, lv]; exact hl, by simpa using rv⟩) (fun b u z => by cases z) (fun b z => absurd rfl z) fun z => absurd rfl z
  | none =>
    have at_ : ∀ b u, (fun b => if b = a then some (HO.frz { cls := .type "list", data := .seq vs.toArray } (.lst (ns.map V.int))) else none) b = some u → b = a ∧ u = HO.frz { cls := .type "list", data := .seq vs.toArray } (.lst (ns.map V.int)) := by
      intro b u z
      by_cases hb : b = a
      · exact ⟨hb, (Option.some.inj ((if_pos hb).symm.trans z)).symm⟩
      · cases (if_neg hb).symm.trans z
    refine go (fun b => if b = a then some (.frz { cls := .type "list", data := .seq vs.toArray } (.lst (ns.map V.int))) else none) (fun b => ?_) (.inl (.inr ⟨{ cls := .type "list", data := .seq vs.toArray }, if_pos rfl⟩)) (fun b u z => ?_) (fun b z => ?_) fun _ => hk
    · by_cases hb : b = a
      · exact .inr ⟨_, _, if_pos hb⟩
      · exact .inl (if_neg hb)
    · obtain ⟨e1, e2⟩ := at_ b u z
      subst e1
      subst e2
      exact ⟨ha, by rw [List.length_map]; exact hl, vs, _, rv, ha⟩
    · by_cases hb : b = a
      · exact hb
      · exact absurd (if_neg hb) z
end
theorem walkG {l : PySem.W.OpenLaw} {n k : Nat} {q : Program} {loose : List Str} {XP : (Str → Option Value) → Heap → Prop} {YP : World → Heap → Prop} {d : DefRec} {K : Params → PySem.W.Frag} {sp : PySem.W.Frag → Sp} {x : Str}
    (hn : l.most = some n) (hn2 : n ≤ sizeLine) (hdf : d.params.defaults = []) (hr : Room k callerA) (hY : ∀ (w : World) (h : Heap), YP w h → (K w.params).In h)
    (F : ∀ (w : World) (mg : Str → Option Value) (fa : Addr) (h : Heap), (K w.params).In h → h.Ns mainGlobals mg → mg d.name = some (.ref fa) →
      ∃ fd : FuncData, (∀ (s : Shared) (u : Value), BindsTo s fd ⟨[u], []⟩ [(x, u)]) ∧ ∀ base : Heap, (K w.params).In base → base.Ns mainGlobals mg → FnG l.prog w (K w.params) mg base k fa fd [x] (sp (K w.params)))
    (hsp : ∀ (K : PySem.W.Frag) (H : Hp) (a : Addr) (ns : List Int), ns.length ≤ n → Only H → SqL K H a (ns.map V.int) → sp K [.ref a] H (fun v _ => v = .bl true) fun _ _ _ => False) :
    PySem.W.WalkO q loose XP YP l.row.toRowW d [] (fun f vs => PySem.call f vs) := by
  refine Att.attach_call hn hdf fun w s₀ s₁ mg mb fa o pm cd doc a vs ns G Y ho hd hcd hmg hobj hints hlen hg => ?_
  obtain ⟨fd, hb, hF⟩ := F w mg fa _ (hY w _ Y) G.T.g hmg
  exact law_callG (hY w _ Y) G.T.g G.T.b G.T.builtins G.T.nolimit hg hobj hints (Nat.le_trans hlen hn2) hr hF hb fun H hO hS => hsp _ H a ns hlen hO hS
section
variable [KFrag] {X : Cx} [HK X]
/-- repr(x) of data without dicts -/
def reprOk (d : D) : Bool := d.showable && !d.hasDict && decide (d.shown.length ≤ line) && decide (d.depth ≤ 60)
def reprD : List D → Option D
  | [.str x] => if (reprText x).length ≤ line then some (.str (reprText x)) else none
  | [.int i] => if i.natAbs.log2 < 1920 then some (.str (toString i)) else none
  | [.bool b] => some (.str (if b then "True" else "False"))
  | [.none] => some (.str "None")
  | [.list ds] => if reprOk (.list ds) = true then some (.str (PyData.shown (.list ds))) else none
  | [.tuple ds] => if reprOk (.tuple ds) = true then some (.str (PyData.shown (.tuple ds))) else none
  | _ => none
theorem reprOk_of {d : D} (h : reprOk d = true) : d.showable = true ∧ d.hasDict = false ∧ d.shown.length ≤ line ∧ d.depth ≤ 60 := by
  unfold reprOk at h
  simp only [Bool.and_eq_true, Bool.not_eq_true', decide_eq_true_eq] at h
  exact ⟨h.1.1.1, h.1.1.2, h.1.2, h.2⟩
theorem repr_ref {pins : List (Addr × Obj)} {s : Shared} {σ : L2.St} {H : Hp} {Q : VK} {A : Addr → Prop} {a : Addr} {d : D} (hgd : X.A.guards = some []) (hu : X.A.units + 64 < cLine) (I : Inv X pins σ H s) (f : Fz H A (.ref a) d) (ok : reprOk d = true)
    (q : Q (.str d.shown) H) : wpAny (model X.prog X.w) X.A (call (.builtin "repr") [.ref a]) (EP X pins σ Q) X.xe s := by
  obtain ⟨as, rd⟩ := Dp.reads I d (.ref a) (.ref a) f.dp rfl
  obtain ⟨h1, h2, h3, h4⟩ := reprOk_of ok
  exact repr_of_reads' rd h1 (fun z => by rw [h2] at z; cases z) hgd (by omega) (fun _ _ e => e) (fun h' u tk hk => ⟨.str d.shown, H, I.kept (t' := tk) hk, ⟨u, rfl⟩, q⟩) (by rw [line_eq]; exact h3)
theorem dc_repr (hgd : X.A.guards = some []) (hu : X.A.units + 64 < cLine) : DCall X (.builtin "repr") reprD := by
  intro pins s σ H xs us Q I r h
  obtain ⟨A, ds, z, bt, fz, e, q⟩ := h
  cases fz with
  | nil => cases e
  | cons h1 t =>
    cases t with
    | cons _ _ => cases h1 <;> cases e
    | nil =>
      obtain ⟨u, rfl, ru⟩ := vals1 r
      cases h1 with
      | non => cases e; cases ru; exact PySem.P.repr_of_none ⟨.str _, H, I.tok _, ⟨_, rfl⟩, q _ _ (Same.refl _) (.str _)⟩
      | bl b => cases e; cases ru; exact PySem.P.repr_of_bool ⟨.str _, H, I.tok _, ⟨_, rfl⟩, q _ _ (Same.refl _) (.str _)⟩
      | int i =>
        obtain ⟨t, rfl⟩ := ru
        simp only [reprD] at e
        split at e
        · rename_i hi
          cases e
          exact PySem.P.repr_of_int hi ⟨.str _, H, I.tok _, ⟨_, rfl⟩, q _ _ (Same.refl _) (.str _)⟩
        · cases e
      | str x =>
        obtain ⟨t, rfl⟩ := ru
        simp only [reprD] at e
        split at e
        · rename_i hi
          cases e
          exact PySem.P.repr_of_str ⟨.str _, H, I.tok _, ⟨_, rfl⟩, q _ _ (Same.refl _) (.str _)⟩ (by rw [line_eq]; exact hi)
        · cases e
      | @lst a xs ds f1 f2 =>
        cases ru
        simp only [reprD] at e
        split at e
        · rename_i hi
          cases e
          exact repr_ref hgd hu I (.lst f1 f2) hi (q _ _ (Same.refl _) (.str _))
        · cases e
      | @tup a xs ds f1 f2 =>
        cases ru
        simp only [reprD] at e
        split at e
        · rename_i hi
          cases e
          exact repr_ref hgd hu I (.tup f1 f2) hi (q _ _ (Same.refl _) (.str _))
        · cases e
end
end DL
namespace DL
open PySem PySem.Spec PyProof.Rows L2
/-! ### zip(t, u, strict=True), tuples of one length -/
abbrev IsZipS (h : Heap) (z TI TO : Addr) (f0 : Value) : Prop :=
  h.get? z = some { cls := .type "zip", dict := none, data := .fields #[f0, .bool false, .bool true, .ref TI, .ref TO], slots := #[] }
section
variable {prog : Program} {w : World} {A : Around} {E : Value → Shared → Prop} {s : Shared}
theorem noe_item {it l : Addr} {i : Nat} {items : Array Value} {x : Value} {Q : Option Value → Shared → Prop} (hit : s.heap.IsTupleIter it l i) (hl : s.heap.IsTuple l items) (hx : items[i]? = some x)
    (hQ : ∀ h', h'.IsTupleIter it l (i + 1) → Heap.SameBut it s.heap h' → Q (some x) { s with heap := h' }) : wpAny (model prog w) A (Builtin.SmallTypes.nextOrEnd (.ref it)) Q E s := by
  unfold Builtin.SmallTypes.nextOrEnd
  exact wpAny_bind (wpAny_attempt (RZ.nextOf_tuple_item hit hl hx fun h' a b => wpAny_pure (hQ h' a b)))
theorem noe_end {it l : Addr} {i : Nat} {items : Array Value} {Q : Option Value → Shared → Prop} (hh : A.handled = none) (hit : s.heap.IsTupleIter it l i) (hl : s.heap.IsTuple l items) (hx : items[i]? = none)
    (hQ : ∀ h', Heap.ExtBut it s.heap h' → Q none { s with heap := h' }) : wpAny (model prog w) A (Builtin.SmallTypes.nextOrEnd (.ref it)) Q E s := by
  unfold Builtin.SmallTypes.nextOrEnd
  refine wpAny_bind (wpAny_attempt (RZ.nextOf_tuple_end hh hit hl hx fun h' e hk he => ?_))
  obtain ⟨o, ho, hc⟩ := he
  exact wpAny_bind (wpAny_isInstance (T := "StopIteration") (b := true) ⟨o, ho, hc⟩ isSubtype_stop (wpAny_pure (hQ h' hk)))
theorem zipS_item {z TI TO i1 i2 l1 l2 : Addr} {k : Nat} {xs ys : Array Value} {x y a b : Value} {Q : Value → Shared → Prop} (D : ZipApart z TI TO i1 i2 l1 l2)
    (hz : IsZipS s.heap z TI TO .none) (hTI : IsPair s.heap TI (.ref i1) (.ref i2)) (hTO : IsPair s.heap TO a b)
    (h1 : s.heap.IsTupleIter i1 l1 k) (h2 : s.heap.IsTupleIter i2 l2 k) (hl1 : s.heap.IsTuple l1 xs) (hl2 : s.heap.IsTuple l2 ys) (hx : xs[k]? = some x) (hy : ys[k]? = some y)
    (hQ : ∀ h', IsZipS h' z TI TO (rawInt s.heap.objs.size) → IsPair h' TO x y → h'.IsTupleIter i1 l1 (k + 1) → h'.IsTupleIter i2 l2 (k + 1) → IsPair h' s.heap.objs.size x y → h'.objs.size = s.heap.objs.size + 1 →
      (∀ c o, c ≠ z → c ≠ TO → c ≠ i1 → c ≠ i2 → s.heap.get? c = some o → h'.get? c = some o) → Q (.ref s.heap.objs.size) { s with heap := h' }) :
    wpAny (model prog w) A (Builtin.«zip.__next__» ⟨[.ref z], []⟩) (fun fin s' => ∃ v, fin = .done (.ret v) ∧ Q v s') E s := by
  show wpAny _ _ (field (.ref z) 2 >>= _) _ _ _
  refine wpAny_bind (wpAny_field hz rfl (x := .bool true) rfl ?_)
  show wpAny _ _ (field (.ref z) 3 >>= _) _ _ _
  refine wpAny_bind (wpAny_field hz rfl (x := .ref TI) rfl (wpAny_bind (wpAny_seqItems hTI rfl ?_)))
  show wpAny _ _ (Builtin.SmallTypes.ownedTupleIsFree (.ref z) >>= _) _ _ _
  refine wpAny_bind ?_
  unfold Builtin.SmallTypes.ownedTupleIsFree
  refine wpAny_bind (wpAny_field hz rfl (x := .none) rfl (wpAny_pure ?_))
  simp only [if_true]
  refine wpAny_bind (wpAny_rule (wpAny_bind (wpAny_field hz rfl (x := .ref TO) rfl (wpAny_bind (wpAny_setField_rec hz (by simp) fun g1 hz1 hs1 => ?_)))))
  replace hz1 : IsZipS g1 z TI TO .ellipsis := hz1
  refine wpAny_bind ?_
  simp only [List.zipIdx_cons, List.zipIdx_nil, List.forIn_cons, List.forIn_nil]
  refine wpAny_bind (wpAny_bind (wpAny_onRaise ?_))
  show wpAny _ _ (Builtin.SmallTypes.nextOrEnd (.ref i1)) _ _ _
  refine noe_item (h1.extBut hs1.extBut D.i1z) (hl1.extBut hs1.extBut D.l1z) hx fun g2 h12 hs2 => ?_
  have hT2 : IsPair g2 TO a b := hs2.extBut _ _ D.TOi1 (hs1.extBut _ _ D.TOz hTO)
  refine wpAny_bind (wpAny_seqItems hT2 rfl (wpAny_bind (wpAny_updateSeq_pair hT2 fun g3 hT3 hs3 => ?_)))
  replace hT3 : IsPair g3 TO x b := hT3
  refine wpAny_bind (wpAny_letGo (wpAny_pure ?_))
  refine wpAny_bind (wpAny_bind (wpAny_onRaise ?_))
  show wpAny _ _ (Builtin.SmallTypes.nextOrEnd (.ref i2)) _ _ _
  refine noe_item (((h2.extBut hs1.extBut D.i2z).extBut hs2.extBut D.i12.symm).extBut hs3.extBut D.TOi2.symm) (((hl2.extBut hs1.extBut D.l2z).extBut hs2.extBut D.l2i1).extBut hs3.extBut D.l2TO) hy fun g4 h24 hs4 => ?_
  have hT4 : IsPair g4 TO x b := hs4.extBut _ _ D.TOi2 hT3
  refine wpAny_bind (wpAny_seqItems hT4 rfl (wpAny_bind (wpAny_updateSeq_pair hT4 fun g5 hT5 hs5 => ?_)))
  replace hT5 : IsPair g5 TO x y := hT5
  refine wpAny_bind (wpAny_letGo (wpAny_pure (wpAny_pure ?_)))
  refine wpAny_bind (wpAny_seqItems hT5 rfl (wpAny_bind (wpAny_newTuple ?_)))
  have hsz : g5.objs.size = s.heap.objs.size := by rw [hs5.1, hs4.1, hs3.1, hs2.1, hs1.1]
  have hz5 : IsZipS g5 z TI TO .ellipsis := hs5.extBut _ _ D.TOz.symm (hs4.extBut _ _ D.i2z.symm (hs3.extBut _ _ D.TOz.symm (hs2.extBut _ _ D.i1z.symm hz1)))
  have hk5 : ∀ c o, c ≠ z → c ≠ TO → c ≠ i1 → c ≠ i2 → s.heap.get? c = some o → g5.get? c = some o := fun c o c1 c2 c3 c4 e =>
    hs5.extBut _ _ c2 (hs4.extBut _ _ c4 (hs3.extBut _ _ c2 (hs2.extBut _ _ c3 (hs1.extBut _ _ c1 e))))
  have h15 : g5.IsTupleIter i1 l1 (k + 1) := ((h12.extBut hs3.extBut D.TOi1.symm).extBut hs4.extBut D.i12).extBut hs5.extBut D.TOi1.symm
  have h25 : g5.IsTupleIter i2 l2 (k + 1) := h24.extBut hs5.extBut D.TOi2.symm
  have hzlt : z < g5.objs.size := Heap.lt_size hz5
  show wpAny _ _ (Builtin.SmallTypes.ownedTupleHandOut (.ref z) (.ref g5.objs.size) >>= _) _ _ _
  refine wpAny_bind ?_
  unfold Builtin.SmallTypes.ownedTupleHandOut
  have hz6 : IsZipS (g5.push { cls := .type "tuple", data := .seq #[x, y] }) z TI TO .ellipsis := Heap.get?_push_of_some _ hz5
  refine wpAny_bind (wpAny_setField_rec hz6 (by simp) fun g7 hz7 hs7 => ?_)
  replace hz7 : IsZipS g7 z TI TO (rawInt g5.objs.size) := hz7
  refine wpAny_setField_rec hz7 (by simp) fun g8 hz8 hs8 => ?_
  replace hz8 : IsZipS g8 z TI TO (rawInt g5.objs.size) := hz8
  have up : ∀ c o, c ≠ z → g5.get? c = some o → g8.get? c = some o := fun c o c1 e => hs8.extBut _ _ c1 (hs7.extBut _ _ c1 (Heap.get?_push_of_some _ e))
  have hT8 : IsPair g8 g5.objs.size x y := hs8.extBut _ _ (Nat.ne_of_gt hzlt) (hs7.extBut _ _ (Nat.ne_of_gt hzlt) (Heap.get?_push_size _ rfl))
  have n8 : g8.objs.size = g5.objs.size + 1 := by rw [hs8.1, hs7.1, Heap.size_push]
  rw [hsz] at hz8 hT8 n8
  refine wpAny_pure ⟨_, rfl, ?_⟩
  show Q (.ref g5.objs.size) _
  rw [hsz]
  exact hQ g8 hz8 (up _ _ D.TOz hT5) (h15.at fun o e => up _ o D.i1z e) (h25.at fun o e => up _ o D.i2z e) hT8 n8 fun c o c1 c2 c3 c4 e => up c o c1 (hk5 c o c1 c2 c3 c4 e)
theorem zipS_end {z TI TO i1 i2 l1 l2 : Addr} {k : Nat} {xs ys : Array Value} {a b : Value} {Q : PySem.Fin → Shared → Prop} (hh : A.handled = none) (D : ZipApart z TI TO i1 i2 l1 l2)
    (hz : IsZipS s.heap z TI TO .none) (hTI : IsPair s.heap TI (.ref i1) (.ref i2)) (hTO : IsPair s.heap TO a b)
    (h1 : s.heap.IsTupleIter i1 l1 k) (h2 : s.heap.IsTupleIter i2 l2 k) (hl1 : s.heap.IsTuple l1 xs) (hl2 : s.heap.IsTuple l2 ys) (hx : xs[k]? = none) (hy : ys[k]? = none)
    (hE : ∀ h' e, (∀ c o, c ≠ z → c ≠ TO → c ≠ i1 → c ≠ i2 → s.heap.get? c = some o → h'.get? c = some o) → (∃ o, h'.get? e = some o ∧ o.cls = .type "StopIteration") → E (.ref e) { s with heap := h' }) :
    wpAny (model prog w) A (Builtin.«zip.__next__» ⟨[.ref z], []⟩) Q E s := by
  show wpAny _ _ (field (.ref z) 2 >>= _) _ _ _
  refine wpAny_bind (wpAny_field hz rfl (x := .bool true) rfl ?_)
  show wpAny _ _ (field (.ref z) 3 >>= _) _ _ _
  refine wpAny_bind (wpAny_field hz rfl (x := .ref TI) rfl (wpAny_bind (wpAny_seqItems hTI rfl ?_)))
  show wpAny _ _ (Builtin.SmallTypes.ownedTupleIsFree (.ref z) >>= _) _ _ _
  refine wpAny_bind ?_
  unfold Builtin.SmallTypes.ownedTupleIsFree
  refine wpAny_bind (wpAny_field hz rfl (x := .none) rfl (wpAny_pure ?_))
  simp only [if_true]
  refine wpAny_bind (wpAny_rule (wpAny_bind (wpAny_field hz rfl (x := .ref TO) rfl (wpAny_bind (wpAny_setField_rec hz (by simp) fun g1 hz1 hs1 => ?_)))))
  replace hz1 : IsZipS g1 z TI TO .ellipsis := hz1
  refine wpAny_bind ?_
  simp only [List.zipIdx_cons, List.zipIdx_nil, List.forIn_cons, List.forIn_nil]
  refine wpAny_bind (wpAny_bind (wpAny_onRaise ?_))
  show wpAny _ _ (Builtin.SmallTypes.nextOrEnd (.ref i1)) _ _ _
  refine noe_end hh (h1.extBut hs1.extBut D.i1z) (hl1.extBut hs1.extBut D.l1z) hx fun g2 hs2 => ?_
  have hz2 : IsZipS g2 z TI TO .ellipsis := hs2 _ _ D.i1z.symm hz1
  refine wpAny_bind (wpAny_setField_rec hz2 (by simp) fun g3 hz3 hs3 => ?_)
  have k3 : ∀ c o, c ≠ z → c ≠ i1 → s.heap.get? c = some o → g3.get? c = some o := fun c o c1 c2 e => hs3.extBut _ _ c1 (hs2 _ _ c2 (hs1.extBut _ _ c1 e))
  have e2 : ∀ {Q : Option Value → Shared → Prop}, (∀ g4, (∀ c o, c ≠ i2 → g3.get? c = some o → g4.get? c = some o) → Q none { s with heap := g4 }) → wpAny (model prog w) A (Builtin.SmallTypes.nextOrEnd (.ref i2)) Q E { s with heap := g3 } := fun {Q} q =>
    noe_end (s := { s with heap := g3 }) hh (h2.at fun o e => k3 i2 o D.i2z D.i12.symm e) (hl2.at fun o e => k3 l2 o D.l2z D.l2i1 e) hy fun g4 h4 => q g4 fun c o hc e => h4 c o hc e
  refine wpAny_bind ?_
  wp_walk using e2
  intro g4 k4
  rw [if_neg (show ¬ ((none : Option Value).isSome = true) from Bool.false_ne_true)]
  refine wpAny_pure ?_
  show wpAny _ _ (pure _) _ _ _
  refine wpAny_pure (wpAny_bind (wpAny_rule ?_))
  show wpAny _ _ (newExc (.type "StopIteration") [] >>= _) _ _ _
  refine wpAny_bind ?_
  simp only [newExc, newTuple]
  refine wpAny_bind (wpAny_newObj_type ?_ (by size_fits))
  refine wpAny_bind (m := firstArgMember _ _) (wpAny_of_eq (a := Value.none) (by first | rfl | (simp only [firstArgMember]; rfl)) ?_)
  refine wpAny_newObj_type ?_ (by size_fits)
  simp only [raiseNew]
  refine wpAny_bind (wpAny_handled ?_)
  first | rw [show A.in1.handled = none from hh] | rw [hh]
  refine wpAny_bind (wpAny_pure (wpAny_throw ?_))
  exact hE _ _ (fun c o c1 c2 c3 c4 e => Heap.get?_push_of_some _ (Heap.get?_push_of_some _ (k4 c o c4 (k3 c o c1 c3 e)))) ⟨_, Heap.get?_push_size _ rfl, rfl⟩
theorem nextS_item {z TI TO i1 i2 l1 l2 : Addr} {k : Nat} {xs ys : Array Value} {x y a b : Value} {Q : Option Value → Shared → Prop} (D : ZipApart z TI TO i1 i2 l1 l2)
    (hz : IsZipS s.heap z TI TO .none) (hTI : IsPair s.heap TI (.ref i1) (.ref i2)) (hTO : IsPair s.heap TO a b)
    (h1 : s.heap.IsTupleIter i1 l1 k) (h2 : s.heap.IsTupleIter i2 l2 k) (hl1 : s.heap.IsTuple l1 xs) (hl2 : s.heap.IsTuple l2 ys) (hx : xs[k]? = some x) (hy : ys[k]? = some y)
    (hQ : ∀ h', IsZipS h' z TI TO (rawInt s.heap.objs.size) → IsPair h' TO x y → h'.IsTupleIter i1 l1 (k + 1) → h'.IsTupleIter i2 l2 (k + 1) → IsPair h' s.heap.objs.size x y → h'.objs.size = s.heap.objs.size + 1 →
      (∀ c o, c ≠ z → c ≠ TO → c ≠ i1 → c ≠ i2 → s.heap.get? c = some o → h'.get? c = some o) → Q (some (.ref s.heap.objs.size)) { s with heap := h' }) : wpAny (model prog w) A (pyNext (.ref z)) Q E s := by
  have hT : s.TypeIs (.ref z) "zip" := ⟨_, hz, rfl⟩
  unfold pyNext
  exact wpAny_bind (wpAny_attempt (wpAny_callSpecial?_slot (name := Str.ofString "__next__") hT PySem.F.slot_zip_next (wpAny_call_entry PySem.F.slot_zip_next hT PySem.F.entry_zip_next
    (zipS_item D hz hTI hTO h1 h2 hl1 hl2 hx hy fun h' a1 a2 a3 a4 a5 a6 a7 => wpAny_pure (hQ h' a1 a2 a3 a4 a5 a6 a7)) (PySem.F.args_zip_next_1 _))))
theorem nextS_end {z TI TO i1 i2 l1 l2 : Addr} {k : Nat} {xs ys : Array Value} {a b : Value} {Q : Option Value → Shared → Prop} (hh : A.handled = none) (D : ZipApart z TI TO i1 i2 l1 l2)
    (hz : IsZipS s.heap z TI TO .none) (hTI : IsPair s.heap TI (.ref i1) (.ref i2)) (hTO : IsPair s.heap TO a b)
    (h1 : s.heap.IsTupleIter i1 l1 k) (h2 : s.heap.IsTupleIter i2 l2 k) (hl1 : s.heap.IsTuple l1 xs) (hl2 : s.heap.IsTuple l2 ys) (hx : xs[k]? = none) (hy : ys[k]? = none)
    (hQ : ∀ h', (∀ c o, c ≠ z → c ≠ TO → c ≠ i1 → c ≠ i2 → s.heap.get? c = some o → h'.get? c = some o) → Q none { s with heap := h' }) : wpAny (model prog w) A (pyNext (.ref z)) Q E s := by
  have hT : s.TypeIs (.ref z) "zip" := ⟨_, hz, rfl⟩
  unfold pyNext
  refine wpAny_bind (wpAny_attempt (wpAny_callSpecial?_slot (name := Str.ofString "__next__") hT PySem.F.slot_zip_next (wpAny_call_entry PySem.F.slot_zip_next hT PySem.F.entry_zip_next
    (zipS_end (A := A.in1) hh D hz hTI hTO h1 h2 hl1 hl2 hx hy fun h' e hk he => ?_) (PySem.F.args_zip_next_1 _))))
  obtain ⟨o, ho, hc⟩ := he
  exact wpAny_bind (wpAny_isInstance (T := "StopIteration") (b := true) ⟨o, ho, hc⟩ isSubtype_stop (wpAny_pure (hQ _ hk)))
end
theorem ty_zip_strict (a b c : Value) : checkTypeCall "zip" ⟨[a, b], [(Str.ofString "strict", c)]⟩ = pure () := by kernel_rfl
theorem new_zip_strict (a b c : Value) : checkBuiltinCall "zip.__new__" ⟨[.type "zip", a, b], [(Str.ofString "strict", c)]⟩ = pure () := by kernel_rfl
theorem init_zip_strict (o a b c : Value) : argsOk "object.__init__" ⟨[o, a, b], [(Str.ofString "strict", c)]⟩ := by unfold argsOk; kernel_rfl
abbrev zs1 (h : Heap) (l1 : Addr) : Heap := h.push { cls := .type "tuple_iterator", data := .fields #[.ref l1, .int 0 0] }
abbrev zs2 (h : Heap) (l1 l2 : Addr) : Heap := (zs1 h l1).push { cls := .type "tuple_iterator", data := .fields #[.ref l2, .int 0 0] }
abbrev zs3 (h : Heap) (l1 l2 : Addr) : Heap := (zs2 h l1 l2).push { cls := .type "tuple", data := .seq #[.ref h.objs.size, .ref (zs1 h l1).objs.size] }
abbrev zs4 (h : Heap) (l1 l2 : Addr) : Heap := (zs3 h l1 l2).push { cls := .type "tuple", data := .seq #[.none, .none] }
abbrev zs5 (h : Heap) (l1 l2 : Addr) : Heap := (zs4 h l1 l2).push { cls := .type "zip", data := .fields #[.none, .bool false, .bool true, .ref (zs2 h l1 l2).objs.size, .ref (zs3 h l1 l2).objs.size] }
theorem meets_zipS (l1 l2 : Addr) (xs ys : Array Value) :
    Meets (Builtin.«zip.__new__» ⟨[.type "zip", .ref l1, .ref l2], [(Str.ofString "strict", .bool true)]⟩) (fun _ R s => s.heap.IsTuple l1 xs ∧ s.heap.IsTuple l2 ys ∧
      R (.ok (.ret (.ref (zs4 s.heap l1 l2).objs.size))) { s with heap := zs5 s.heap l1 l2 }) :=
  .of_wp fun prog w A R s h => by
    obtain ⟨hp, g, d, tk, os⟩ := s
    obtain ⟨hl1, hl2, h⟩ := h
    have hsub := sub_zip
    have hL1 : Heap.IsTuple (Shared.heap ⟨hp, g, d, tk, os⟩) l1 xs := hl1
    have hL2 : Heap.IsTuple (Shared.heap ⟨hp.push { cls := .type "tuple_iterator", data := .fields #[.ref l1, .int 0 0] }, g, d, tk, os⟩) l2 ys := Heap.IsTuple.push hl2 _
    have e2 : (Str.ofString "strict" != ("strict" : Str)) = false := by decide +kernel
    wp_walk using wpAny_pyIter_tuple hL1, wpAny_pyIter_tuple hL2
    exact ⟨_, rfl, h⟩
theorem call_zipS {prog : Program} {w : World} {A : Around} {E : Value → Shared → Prop} {s : Shared} {l1 l2 : Addr} {xs ys : Array Value} {Q : Value → Shared → Prop} (hl1 : s.heap.IsTuple l1 xs) (hl2 : s.heap.IsTuple l2 ys)
    (h : ∀ h', IsZipS h' (s.heap.objs.size + 4) (s.heap.objs.size + 2) (s.heap.objs.size + 3) .none → IsPair h' (s.heap.objs.size + 2) (.ref s.heap.objs.size) (.ref (s.heap.objs.size + 1)) →
      IsPair h' (s.heap.objs.size + 3) .none .none → h'.IsTupleIter s.heap.objs.size l1 0 → h'.IsTupleIter (s.heap.objs.size + 1) l2 0 →
      (∀ c o, s.heap.get? c = some o → h'.get? c = some o) → Q (.ref (s.heap.objs.size + 4)) { s with heap := h' }) :
    wpAny (model prog w) A (call (.type "zip") [.ref l1, .ref l2] [(Str.ofString "strict", .bool true)]) Q E s := by
  refine callType_newKw PySem.F.called_zip (by decide) (ty_zip_strict _ _ _) (new_zip_strict _ _ _) (fun obj => init_zip_strict obj _ _ _) PySem.F.entry_zip_new (meets_zipS l1 l2 xs ys) ⟨hl1, hl2, ?_⟩
  have z1 : (zs1 s.heap l1).objs.size = s.heap.objs.size + 1 := Heap.size_push ..
  have z2 : (zs2 s.heap l1 l2).objs.size = s.heap.objs.size + 2 := by rw [Heap.size_push, z1]
  have z3 : (zs3 s.heap l1 l2).objs.size = s.heap.objs.size + 3 := by rw [Heap.size_push, z2]
  have z4 : (zs4 s.heap l1 l2).objs.size = s.heap.objs.size + 4 := by rw [Heap.size_push, z3]
  have g5 : (zs5 s.heap l1 l2).get? (zs4 s.heap l1 l2).objs.size = some _ := Heap.get?_push_size _ rfl
  have g4 : (zs5 s.heap l1 l2).get? (zs3 s.heap l1 l2).objs.size = some _ := Heap.get?_push_of_some _ (Heap.get?_push_size _ rfl)
  have g3 : (zs5 s.heap l1 l2).get? (zs2 s.heap l1 l2).objs.size = some _ := Heap.get?_push_of_some _ (Heap.get?_push_of_some _ (Heap.get?_push_size _ rfl))
  have g2 : (zs5 s.heap l1 l2).get? (zs1 s.heap l1).objs.size = some _ := Heap.get?_push_of_some _ (Heap.get?_push_of_some _ (Heap.get?_push_of_some _ (Heap.get?_push_size _ rfl)))
  have g1 : (zs5 s.heap l1 l2).get? s.heap.objs.size = some _ := Heap.get?_push_of_some _ (Heap.get?_push_of_some _ (Heap.get?_push_of_some _ (Heap.get?_push_of_some _ (Heap.get?_push_size _ rfl))))
  show _ ∧ _
  rw [z2, z3, z4] at g5
  rw [z1, z2] at g3
  rw [z3] at g4
  rw [z1] at g2
  rw [z4]
  exact ⟨⟨_, g5, rfl⟩, h _ g5 g3 g4 ⟨_, g1, rfl, rfl⟩ ⟨_, g2, rfl, rfl⟩ fun c o x =>
    Heap.get?_push_of_some _ (Heap.get?_push_of_some _ (Heap.get?_push_of_some _ (Heap.get?_push_of_some _ (Heap.get?_push_of_some _ x))))⟩
section
variable {prog : Program} {w : World} {A : Around} {E : Value → Shared → Prop} {s : Shared}
theorem wpAny_letGoS {elts : List Expr} {x1 : Nat} {pos : Pos} {z TI TO T : Addr} {Q : Unit → Shared → Prop} (hz : IsZipS s.heap z TI TO (rawInt T))
    (hQ : ∀ h', IsZipS h' z TI TO .none → Heap.SameBut z s.heap h' → Q () { s with heap := h' }) : wpAny (model prog w) A (letOwnedTupleGo (.Tuple elts x1 pos) (.ref z) (.ref T)) Q E s := by
  unfold letOwnedTupleGo
  refine wpAny_bind (wpAny_load hz ?_)
  show wpAny _ _ (if (["enumerate", "zip", "dict_itemiterator", "dict_reverseitemiterator", "odict_iterator", "itertools.zip_longest", "itertools.pairwise"].contains "zip" &&
      (#[rawInt T, .bool false, .bool true, .ref TI, .ref TO] : Array Value)[0]? == some (rawInt T)) = true then _ else _) Q E s
  rw [if_pos (by simp)]
  refine wpAny_bind (wpAny_rule ?_)
  show wpAny _ _ (setField (.ref z) 0 .none) Q E s
  exact wpAny_setField_rec hz (by simp) fun h' a b => hQ h' a b
theorem wpAny_iterS {z TI TO : Addr} {f0 : Value} {Q : Value → Shared → Prop} (hz : IsZipS s.heap z TI TO f0) (h : Q (.ref z) s) : wpAny (model prog w) A (pyIter (.ref z)) Q E s := by
  have hT : s.TypeIs (.ref z) "zip" := ⟨_, hz, rfl⟩
  refine wpAny_pyIter_slot hT PySem.F.slot_zip_iter (wpAny_call_entry PySem.F.slot_zip_iter hT PySem.F.entry_zip_iter ?_ (PySem.F.args_zip_iter_1 _))
  show wpAny _ _ (ret (.ref z)) _ _ s
  exact wpAny_pure ⟨_, rfl, "zip", _, hT, PySem.F.slot_zip_next.lookup, h⟩
end
/-! what is walked -/
theorem min_none {us : List Value} {i : Nat} (h : us.length ≤ i) : us.toArray[i]? = none := by
  simp
  omega
def ItzS (K : PySem.W.Frag) (a b : Addr) : It :=
  ⟨fun i H => ∃ (xs ys : List V) (x y : V), SqT K H a xs ∧ SqT K H b ys ∧ xs[i]? = some x ∧ ys[i]? = some y,
    fun i H v H' => ∃ T x y, v = .ref T ∧ H T = none ∧ H' = upd H T (.tup [x, y]) ∧ (∀ xs, SqT K H a xs → xs[i]? = some x) ∧ ∀ ys, SqT K H b ys → ys[i]? = some y,
    fun i H => ∃ xs ys : List V, SqT K H a xs ∧ SqT K H b ys ∧ xs.length ≤ i ∧ ys.length ≤ i⟩
theorem of5 {c z TI TO i1 i2 : Addr} (h : c ∈ [z, TI, TO, i1, i2]) : c = z ∨ c = TI ∨ c = TO ∨ c = i1 ∨ c = i2 := by simpa using h
theorem turn_zipS {P : Program} {w : World} {K : PySem.W.Frag} {elts : List Expr} {kk : Nat} {tpos : Pos} {a b z TI TO i1 i2 : Addr} (D : ZipApart z TI TO i1 i2 a b) :
    Turn P w K (.Tuple elts kk tpos) (ItzS K a b) [z, TI, TO, i1, i2] z (fun i h => IsZipS h z TI TO .none ∧ IsPair h TI (.ref i1) (.ref i2) ∧ (∃ x y, IsPair h TO x y) ∧ h.IsTupleIter i1 a i ∧ h.IsTupleIter i2 b i) where
  mem := by simp
  obj := fun i h st c hc => by
    obtain ⟨hz, hTI, ⟨x, y, hTO⟩, ⟨o1, e1, _, d1⟩, ⟨o2, e2, _, d2⟩⟩ := st
    rcases of5 hc with q | q | q | q | q
    · rw [q]; exact ⟨_, hz, fun v q => nomatch q⟩
    · rw [q]; exact ⟨_, hTI, fun v q => nomatch q⟩
    · rw [q]; exact ⟨_, hTO, fun v q => nomatch q⟩
    · rw [q]; exact ⟨o1, e1, fun v q => by rw [d1] at q; cases q⟩
    · rw [q]; exact ⟨o2, e2, fun v q => by rw [d2] at q; cases q⟩
  keep := fun i h h' st k => by
    obtain ⟨hz, hTI, ⟨x, y, hTO⟩, h1, h2⟩ := st
    exact ⟨k z (by simp) _ hz, k TI (by simp) _ hTI, ⟨x, y, k TO (by simp) _ hTO⟩, h1.at fun o q => k i1 (by simp) o q, h2.at fun o q => k i2 (by simp) o q⟩
  item := by
    intro X hP hw hK hc i pins s σ H E I hf st hg
    subst hP hw hK
    obtain ⟨hz, hTI, ⟨x0, y0, hTO⟩, h1, h2⟩ := st
    obtain ⟨xs, ys, x, y, hqx, hqy, hx, hy⟩ := hg
    obtain ⟨its, rv, p, _⟩ := I.tuple hqx
    obtain ⟨its2, rv2, p2, _⟩ := I.tuple hqy
    obtain ⟨u, hu, ru⟩ := rv.get hx
    obtain ⟨u2, hu2, ru2⟩ := rv2.get hy
    have hzl : z < s.heap.objs.size := Heap.lt_size hz
    refine nextS_item D hz hTI hTO h1 h2 p p2 (x := u) (y := u2) (by simpa using hu) (by simpa using hu2) fun h' z' TO' h1' h2' hT hsz hk => ?_
    refine ⟨_, rfl, wpAny_letGoS z' fun h'' z'' sb => ?_⟩
    have hT2 : h''.get? s.heap.objs.size = some { cls := .type "tuple", data := .seq #[u, u2] } := (sb.2 _ (Nat.ne_of_gt hzl)).trans hT
    have new : ObjOk X.prog X.w (upd H s.heap.objs.size (.tup [x, y])) h'' s.heap.objs.size (.tup [x, y]) :=
      ⟨by show 2 ≤ sizeLine; decide, [u, u2], .cons ru (.cons ru2 .nil), ⟨_, hT2, rfl, _, rfl⟩⟩
    have I1 : Inv X pins σ (upd H s.heap.objs.size (.tup [x, y])) { s with heap := h'' } :=
      I.turnedNew (t' := s.toks) (ch := [z, TI, TO, i1, i2]) (fun c o hb q => (sb.2 c (fun q' => hb (by simp [q']))).trans (hk c o (fun q' => hb (by simp [q'])) (fun q' => hb (by simp [q'])) (fun q' => hb (by simp [q'])) (fun q' => hb (by simp [q'])) q)) hf (Nat.le_refl _) new
    refine ⟨.ref s.heap.objs.size, _, I1, rfl, ⟨_, x, y, rfl, I.hok.fresh (Nat.le_refl _), rfl, fun l hl => by rw [I.tuple_inj hl hqx]; exact hx, fun l hl => by rw [I.tuple_inj hl hqy]; exact hy⟩, ⟨z'', ?_, ⟨u, u2, ?_⟩, ?_, ?_⟩, fun c hcm => ?_⟩
    · exact (sb.2 _ D.TIz).trans (hk _ _ D.TIz D.TITO D.TIi1 D.TIi2 hTI)
    · exact (sb.2 _ D.TOz).trans TO'
    · exact h1'.at fun o q => (sb.2 _ D.i1z).trans q
    · exact h2'.at fun o q => (sb.2 _ D.i2z).trans q
    · have hlt : c < s.heap.objs.size := by
        rcases of5 hcm with q | q | q | q | q
        · rw [q]; exact hzl
        · rw [q]; exact Heap.lt_size hTI
        · rw [q]; exact Heap.lt_size hTO
        · rw [q]; obtain ⟨_, e1, _⟩ := h1; exact Heap.lt_size e1
        · rw [q]; obtain ⟨_, e2, _⟩ := h2; exact Heap.lt_size e2
      rw [upd_ne (Nat.ne_of_lt hlt)]
      exact (hf c hcm).1
  done := by
    intro X hP hw hK hc i pins s σ H E I hf st hg
    subst hP hw hK
    obtain ⟨hz, hTI, ⟨x0, y0, hTO⟩, h1, h2⟩ := st
    obtain ⟨xs, ys, hqx, hqy, n1, n2⟩ := hg
    obtain ⟨its, rv, p, _⟩ := I.tuple hqx
    obtain ⟨its2, rv2, p2, _⟩ := I.tuple hqy
    have l1 := rv.length
    have l2 := rv2.length
    exact nextS_end (I.ok.hd hc) D hz hTI hTO h1 h2 p p2 (min_none (by omega)) (min_none (by omega)) fun h' hk => ⟨rfl, I.turnedL (t' := s.toks) (ch := [z, TI, TO, i1, i2]) (fun c o hb q =>
      hk c o (fun q' => hb (by simp [q'])) (fun q' => hb (by simp [q'])) (fun q' => hb (by simp [q'])) (fun q' => hb (by simp [q'])) q) hf⟩
  self := fun A i s Q E st h => wpAny_iterS st.1 h
section
variable {M : Model} {A : Around} {E : Value → Shared → Prop} {s : Shared} {env : Env}
/-- a type called with names -/
theorem callWith_tyK {pos : Pos} {T : String} {e : Expr} {rest : List Expr} {kws : List Keyword} {Q : Value → Shared → Prop}
    (h : wpAny M A (spliced (backTo pos (starEach (e :: rest) env))) (fun vs s₁ => wpAny M A (evalAll ((backToKw pos (keywordEach kws env)).map (·.2)))
      (fun kvs s₂ => wpAny M A (call (.type T) vs (((backToKw pos (keywordEach kws env)).filterMap (·.1)).zip kvs)) Q E s₂) E s₁) E s)
    (he : backTo pos (starEach (e :: rest) env) = (false, eval e env) :: backTo pos (starEach rest env)) (hp : (backTo pos (starEach (e :: rest) env)).any (·.1) = false)
    (ha : (backToKw pos (keywordEach kws env)).all (·.1.isSome) = true) (hk : (backToKw pos (keywordEach kws env)).any (·.1.isNone) = false) :
    wpAny M A (callWith pos (.type T) [] (backTo pos (starEach (e :: rest) env)) (backToKw pos (keywordEach kws env))) Q E s := by
  unfold callWith
  have h2 : wpAny M A (evalArgs (.type T) true (backTo pos (starEach (e :: rest) env)) (backToKw pos (keywordEach kws env))) (fun a s₁ => wpAny M A (call (.type T) ([] ++ a.pos) a.kw) Q E s₁) E s := by
    rw [he] at h ⊢
    exact evalArgs_kwB ha h
  refine wpAny_bind (wpAny_holding (wpAny_mono h2 (fun a s₁ h₁ => wpAny_bind (wpAny_standAt ?_)) fun _ _ x => x))
  simp only [hp, hk, Bool.or_false]
  exact wpAny_bind (wpAny_pure (wpAny_bind (wpAny_mono h₁ (fun r s₂ hr => wpAny_bind (wpAny_holding (wpAny_point (wpAny_pure hr)))) fun _ _ x => x)))
end
def iZipS (K : PySem.W.Frag) (ta : TA) : TI := fun σ H R => ta σ H fun vs H1 => ∃ a b xs ys, vs = [.ref a, .ref b] ∧ SqT K H1 a xs ∧ SqT K H1 b ys ∧ R (ItzS K a b) H1
theorem pi_zipS {X : Cx} {e e2 : Expr} {ta : TA} {p pos tpos kp cp : Pos} {elts : List Expr} {kk kc : Nat} (hg : Gl X "zip") (hm : X.mg "zip" = none) (ha : PA X [e, e2] ta)
    (he : backTo pos (starEach [e, e2] X.env) = (false, eval e X.env) :: backTo pos (starEach [e2] X.env) := by rfl) (hp : (backTo pos (starEach [e, e2] X.env)).any (·.1) = false := by rfl) :
    PI X (.Tuple elts kk tpos) (.Call (.Name "zip" p) [e, e2] [⟨some "strict", .Constant (.bool true) kc cp, kp⟩] pos) (iZipS X.K ta) := by
  refine ⟨fun pins s σ H R I h => ?_⟩
  refine wpAny_Call_Name_kw (ld_blt I hg hm PyProof.Rows.boot_zip ?_)
  refine callWith_tyK (thn (ha.run pos pins s σ H _ I h) fun us s1 ⟨vs, H1, I1, r1, q1⟩ => ?_) he hp rfl rfl
  refine kws_cons (wpAny_pure (kws_nil ?_))
  obtain ⟨a, b, xs, ys, ex, hqx, hqy, q⟩ := q1
  subst ex
  cases r1 with
  | cons r rr =>
    cases rr with
    | cons r' rr =>
      cases rr
      cases r
      cases r'
      have fresh5 : ∀ c, c ∈ [s1.heap.objs.size + 4, s1.heap.objs.size + 2, s1.heap.objs.size + 3, s1.heap.objs.size, s1.heap.objs.size + 1] → FpOk X pins H1 c := fun c hcm => by
        have hle : s1.heap.objs.size ≤ c := by
          rcases of5 hcm with z | z | z | z | z
          · rw [z]; exact Nat.le_add_right _ _
          · rw [z]; exact Nat.le_add_right _ _
          · rw [z]; exact Nat.le_add_right _ _
          · rw [z]; exact Nat.le_refl _
          · rw [z]; exact Nat.le_add_right _ _
        exact I1.fpOk hle (I1.hok.fresh hle)
      obtain ⟨its, rv, p1, _⟩ := I1.tuple hqx
      obtain ⟨its2, rv2, p2, _⟩ := I1.tuple hqy
      obtain ⟨o1, ho1, _⟩ := id p1
      obtain ⟨o2, ho2, _⟩ := id p2
      refine call_zipS (show s1.heap.IsTuple a its.toArray from p1) (show s1.heap.IsTuple b its2.toArray from p2) fun h' hz hTI hTO h1 h2 hk => wpAny_iterS hz ?_
      exact ⟨s1.heap.objs.size + 4, [s1.heap.objs.size + 4, s1.heap.objs.size + 2, s1.heap.objs.size + 3, s1.heap.objs.size, s1.heap.objs.size + 1], _, _, H1, rfl, I1.kept (t' := s1.toks) hk, turn_zipS (PySem.W.ktu_apart s1.heap.objs.size a b (Heap.lt_size ho1) (Heap.lt_size ho2)), ⟨hz, hTI, ⟨_, _, hTO⟩, h1, h2⟩, fresh5, q⟩
theorem walk_zipS {K : PySem.W.Frag} {a b : Addr} {xs ys : List V} {n : Nat} (h1 : xs.length = n) (h2 : ys.length = n) : Walk (ItzS K a b) n (fun H => SqT K H a xs ∧ SqT K H b ys) (YPair (fun i => xs[i]?) (fun i => ys[i]?)) := by
  refine ⟨fun i _ hi q => ?_, fun _ q => ⟨xs, ys, q.1, q.2, by omega, by omega⟩, fun i H v H' _ q y => ?_⟩
  · have h1 : i < xs.length := by omega
    have h2 : i < ys.length := by omega
    exact ⟨xs, ys, xs[i], ys[i], q.1, q.2, by simp [h1], by simp [h2]⟩
  · obtain ⟨T, x, z, h1, h2, h3, h4, h5⟩ := y
    exact ⟨T, x, z, h1, h2, h3, h4 xs q.1, h5 ys q.2⟩
section
variable [KFrag]
theorem itr_zipS {X : Cx} [HK X] {B : Addr → Prop} {μ : List Addr} {s : CS} {H : Hp} {a b : Addr} {xs ys : List V} {ds es : List D} (hl : ds.length = es.length) (h : FT H (Av B μ s) a xs) (f : Fzs H (Av B μ s) xs ds) (h2 : FT H (Av B μ s) b ys) (f2 : Fzs H (Av B μ s) ys es) : ItR B μ s H (ItzS X.K a b) (zipD ds es) := by
  refine ⟨fun H => SqT X.K H a xs ∧ SqT X.K H b ys, YPair (fun i => xs[i]?) (fun i => ys[i]?), ?_, fun H' A' k bt => ⟨(h.kp k.keep k.new).sq, (h2.kp k.keep k.new).sq⟩, fun i H' A' v H'' k bt hi y => ?_⟩
  · exact walk_zipS (by rw [zipD_len, f.len]; omega) (by rw [zipD_len, f2.len]; omega)
  · obtain ⟨T, x, y, rfl, hT, rfl, e1, e2⟩ := y
    obtain ⟨d, e3, e4⟩ := (f.kp k).getV e1
    obtain ⟨d2, e5, e6⟩ := (f2.kp k).getV e2
    exact ⟨same_upd hT, _, zipD_at e3 e5, Fz.newT bt hT (.cons e4 (.cons e6 .nil))⟩
def zipSW : List W → CS → R (List D)
  | [.d (.tuple a), .d (.tuple b)], s => if a.length = b.length then .ok (zipD a b) s else .bad
  | _, _ => .bad
def fZipS (fs : En → CS → R (List W)) (ρ : En) (s : CS) : R (List D) := (fs ρ s).bind zipSW
theorem di_zipS {X : Cx} [HK X] {T : TX} {Wx : WXc} {e e2 : Expr} {fs : En → CS → R (List W)} {p pos tpos kp cp : Pos} {elts : List Expr} {kk kc : Nat} (hg : Gl X "zip") (hm : X.mg "zip" = none) (ha : DA X T Wx [e, e2] fs)
    (he : backTo pos (starEach [e, e2] X.env) = (false, eval e X.env) :: backTo pos (starEach [e2] X.env) := by rfl) (hp : (backTo pos (starEach [e, e2] X.env)).any (·.1) = false := by rfl) :
    DI X T Wx (.Tuple elts kk tpos) (.Call (.Name "zip" p) [e, e2] [⟨some "strict", .Constant (.bool true) kc cp, kp⟩] pos) (fZipS fs) :=
  PI_imp (pi_zipS hg hm ha he hp) fun σ H Q ⟨B, μ, s, ρ, r, e, q⟩ => tD_bind r e q fun w s1 v μ1 H1 st1 r1 e1 rel1 q1 => by
    have rel1 : RWs B μ1 s1 H1 v w := rel1
    unfold zipSW at q1
    split at q1
    · split at q1
      · rename_i hl
        cases rel1 with
        | cons g t =>
          cases t with
          | cons g2 t =>
            cases t
            have g : Fz H1 (Av B μ1 s1) _ (.tuple _) := g
            have g2 : Fz H1 (Av B μ1 s1) _ (.tuple _) := g2
            cases g with
            | @tup a xs _ h1 f1 =>
              cases g2 with
              | @tup b ys _ h2 f2 => exact ⟨a, b, xs, ys, rfl, h1.sq, h2.sq, Fin.here (a := List D) q1 r1 (itr_zipS hl h1 f1 h2 f2)⟩
      · exact q1.elim
    · exact q1.elim
end
end DL
namespace DL
open PySem PySem.Spec PyProof.Rows L2
/-! ### min of a list or a tuple of numbers -/
def minI : Int → List Int → Int
  | n, [] => n
  | n, x :: r => minI (if x < n then x else n) r
theorem minI_mem : ∀ (n : Int) (r : List Int), minI n r = n ∨ minI n r ∈ r
  | n, [] => .inl rfl
  | n, x :: r => by
    unfold minI
    rcases minI_mem (if x < n then x else n) r with h | h
    · rw [h]
      split
      · exact .inr List.mem_cons_self
      · exact .inl rfl
    · exact .inr (List.mem_cons_of_mem _ h)
theorem minI_le : ∀ (n : Int) (r : List Int), minI n r ≤ n ∧ ∀ y ∈ r, minI n r ≤ y
  | n, [] => ⟨Int.le_refl _, fun y h => by cases h⟩
  | n, x :: r => by
    obtain ⟨h1, h2⟩ := minI_le (if x < n then x else n) r
    unfold minI
    have h3 : (if x < n then x else n) ≤ n ∧ (if x < n then x else n) ≤ x := by split <;> omega
    refine ⟨Int.le_trans h1 h3.1, fun y hy => ?_⟩
    rcases List.mem_cons.mp hy with rfl | hy
    · exact Int.le_trans h1 h3.2
    · exact h2 y hy
theorem minI_is {n m : Int} {r : List Int} (h1 : m ∈ n :: r) (h2 : ∀ y, y ∈ n :: r → m ≤ y) : m = minI n r := by
  obtain ⟨a, b⟩ := minI_le n r
  have c : m ≤ minI n r := by
    rcases minI_mem n r with h | h
    · rw [h]; exact h2 n List.mem_cons_self
    · exact h2 _ (List.mem_cons_of_mem _ h)
  rcases List.mem_cons.mp h1 with rfl | h
  · omega
  · have := b m h
    omega
def minA : List D → Option D
  | [.int i, .int j] => some (.int (if j < i then j else i))
  | [.tuple ds] => match intsD ds with
    | some (n :: r) => some (.int (minI n r))
    | _ => none
  | [.list ds] => match intsD ds with
    | some (n :: r) => some (.int (minI n r))
    | _ => none
  | _ => none
section
variable {prog : Program} {w : World} {A : Around} {E : Value → Shared → Prop} {s : Shared} {l : Addr} {its : List Value} {ns : List Int} {Q : Value → Shared → Prop}
theorem min_tup (hh : A.handled = none) (hl : s.heap.IsTuple l its.toArray) (hi : IntsAre its ns) (hne : 0 < ns.length)
    (h : ∀ h' tk M t', (∀ b o, s.heap.get? b = some o → h'.get? b = some o) → M ∈ ns → (∀ a, a ∈ ns → M ≤ a) → Q (.int M t') { s with heap := h', toks := tk }) : wpAny (model prog w) A (call (.builtin "min") [.ref l]) Q E s := by
  obtain ⟨xs, e⟩ := hi.allInts.items
  have hn : numsOf (intItems xs).toList = ns := by rw [← e]; exact hi.numsOf
  rw [nums_intItems] at hn
  subst hn
  rw [e] at hl
  have hsz : 0 < xs.size := by simpa using hne
  have hlt : l < s.heap.objs.size := by
    obtain ⟨_, q, _⟩ := id hl
    exact Heap.lt_size q
  refine call_min_walk (wpAny_pyIter_tuple hl ?_)
  refine ⟨s.heap.objs.size, [s.heap.objs.size, l], [s.heap.objs.size], _, _, _, _, rfl, Walks.tuple (A := A.in1) hh s.heap.objs.size l (Nat.ne_of_lt hlt) (intItems xs), ⟨⟨_, Heap.get?_push_size _ rfl, rfl, rfl⟩, Heap.IsTuple.push hl _⟩, fun b hb => ?_, by simpa [intItems] using hsz, CmpOf.ints_lt (numAt xs) (fun _ _ => intItems_at), fun v h' tk hP hk => ?_⟩
  · show b < (s.heap.push _).objs.size
    rw [Heap.size_push]
    have q : b = s.heap.objs.size ∨ b = l := by simpa using hb
    rcases q with q | q
    · rw [q]; exact Nat.lt_succ_self _
    · rw [q]; exact Nat.lt_succ_of_lt hlt
  · obtain ⟨t, rfl⟩ := intItems_at (by simpa [intItems] using hP)
    obtain ⟨h1, h2⟩ := argBest_lt (numAt xs) (xs.size - 1)
    refine h h' tk _ t (fun b o e => hk b o (fun hm => ?_) (Heap.get?_push_of_some _ e)) ?_ fun a ha => ?_
    · have := Heap.lt_size e
      have q : b = s.heap.objs.size := by simpa using hm
      rw [q] at this
      exact Nat.lt_irrefl _ this
    · rw [numAt_eq]; exact PySem.getD_mem (by rw [List.length_map, Array.length_toList]; omega)
    · obtain ⟨j, hj, rfl⟩ := mem_getD ha
      rw [List.length_map, Array.length_toList] at hj
      rw [← numAt_eq]; exact h2 j (by omega)
end
section
variable [KFrag] {X : Cx} [HK X]
theorem dc_minA (hc : X.calm = true) : DCall X (.builtin "min") minA := by
  intro pins s σ H xs us Q I r h
  obtain ⟨A, ds, z, bt, fz, e, q⟩ := h
  cases fz with
  | nil => cases e
  | cons h1 t =>
    cases t with
    | cons h2 t2 =>
      cases t2 with
      | cons _ _ => cases h1 <;> cases h2 <;> cases e
      | nil =>
        cases h1 with
        | int i =>
          cases h2 with
          | int j => cases e; exact call_min2 hc pins s σ H _ us Q I r ⟨i, j, rfl, q _ _ (Same.refl _) (.int _)⟩
          | _ => cases e
        | _ => cases h2 <;> cases e
    | nil =>
      cases h1 with
      | @tup a xs ds f1 f2 =>
        simp only [minA] at e
        cases zi : intsD ds with
        | none => rw [zi] at e; cases e
        | some l =>
          cases l with
          | nil => rw [zi] at e; cases e
          | cons n r2 =>
            rw [zi] at e
            cases e
            have ex := ints_fz f2 zi
            subst ex
            obtain ⟨its, rv, hl, _⟩ := I.tuple (f1.sq (X := X))
            rw [Vals.ref1 r]
            exact min_tup (I.ok.hd hc) (show s.heap.IsTuple a its.toArray from hl) rv.ints (by simp) fun h' tk m t' hk h1 h2 => ⟨.int _, H, I.kept hk, ⟨_, rfl⟩, minI_is h1 h2 ▸ q _ _ (Same.refl _) (.int _)⟩
      | @lst a xs ds f1 f2 =>
        simp only [minA] at e
        cases zi : intsD ds with
        | none => rw [zi] at e; cases e
        | some l =>
          cases l with
          | nil => rw [zi] at e; cases e
          | cons n r2 =>
            rw [zi] at e
            cases e
            have ex := ints_fz f2 zi
            subst ex
            exact cr_min hc pins s σ H _ us Q I r ⟨a, n :: r2, rfl, f1.sq, by simp, fun m h1 h2 => minI_is h1 h2 ▸ q _ _ (Same.refl _) (.int _)⟩
      | _ => cases e
/-! ### x in a list or a tuple of data -/
def inDD (d e : D) : Option D := match e with
  | .list ds => if SeqAt.shaped d = true ∧ SeqAt.shaped (.list ds) = true then some (.bool (ds.any fun z => eqF 8 z d)) else none
  | .tuple ds => if SeqAt.shaped d = true ∧ SeqAt.shaped (.tuple ds) = true then some (.bool (ds.any fun z => eqF 8 z d)) else none
  | _ => none
def ninDD (d e : D) : Option D := match inDD d e with
  | some (.bool b) => some (.bool (!b))
  | _ => none
theorem dop_in (hu : X.A.units + 65 < cLine) : DOp X (compareOp .In) inDD := by
  intro pins s σ H x y v u Q I rx ry h
  obtain ⟨A, dx, dy, z, bt, fx, fy, e, q⟩ := h
  cases fy with
  | @lst b ys es h2 f2 =>
    simp only [inDD, eqF_eq] at e
    split at e
    · rename_i hs
      cases e
      exact op_inD hu pins s σ H _ _ v u Q I rx ry ⟨dx, es, fx.dp, .lst h2.sq f2.dp, hs.1, hs.2, q _ _ (Same.refl _) (.bl _)⟩
    · cases e
  | @tup b ys es h2 f2 =>
    simp only [inDD, eqF_eq] at e
    split at e
    · rename_i hs
      cases e
      obtain ⟨as, r1⟩ := Dp.reads I dx x v fx.dp rx
      obtain ⟨bs, r2⟩ := Dp.reads I (.tuple es) (.ref b) u (Fz.dp (.tup h2 f2)) ry
      exact SeqAt.in_tuple_reads r2 r1 (SeqAt.canLay_of_shaped hs.2) (SeqAt.canLay_of_shaped hs.1) (room_in_shaped hs.1 hu) ⟨.bl _, H, I, rfl, q _ _ (Same.refl _) (.bl _)⟩
    · cases e
  | _ => cases e
theorem dop_nin (hu : X.A.units + 65 < cLine) : DOp X (compareOp .NotIn) ninDD := by
  intro pins s σ H x y v u Q I rx ry h
  obtain ⟨A, dx, dy, z, bt, fx, fy, e, q⟩ := h
  cases fy with
  | @lst b ys es h2 f2 =>
    simp only [ninDD, inDD, eqF_eq] at e
    split at e
    · rename_i z1 hz
      split at hz
      · rename_i hs
        cases hz
        cases e
        exact op_notInD hu pins s σ H _ _ v u Q I rx ry ⟨dx, es, fx.dp, .lst h2.sq f2.dp, hs.1, hs.2, q _ _ (Same.refl _) (.bl _)⟩
      · cases hz
    · cases e
  | @tup b ys es h2 f2 =>
    simp only [ninDD, inDD, eqF_eq] at e
    split at e
    · rename_i z1 hz
      split at hz
      · rename_i hs
        cases hz
        cases e
        obtain ⟨as, r1⟩ := Dp.reads I dx x v fx.dp rx
        obtain ⟨bs, r2⟩ := Dp.reads I (.tuple es) (.ref b) u (Fz.dp (.tup h2 f2)) ry
        exact SeqAt.notIn_tuple_reads r2 r1 (SeqAt.canLay_of_shaped hs.2) (SeqAt.canLay_of_shaped hs.1) (room_in_shaped hs.1 hu) ⟨.bl _, H, I, rfl, q _ _ (Same.refl _) (.bl _)⟩
      · cases hz
    · cases e
  | _ => cases e
end
section
variable [KFrag] {X : Cx} [HK X] {T : TX} {cs i : Nat} {ad : Addr} {cls : Value} {dx : Option Addr} {e : Expr} {f : D → En → CS → R W} {pos : Pos}
/-- name = .. within an except suite -/
theorem xs_set {j : Nat} {x : Str} {pos' : Pos} (hN' : X.N.Nodup) (hi : X.N[j]? = some x) (hx : Loc X.env.scope x) (h : XE1 X T cs i ad cls dx e f) (hs : swapsWith e (some (.Name x pos')) pos.line X.env = pure false := by rfl) (hf : X.fn x = true ∨ X.env.scope.names.lookup x = some .local := by first | exact .inl rfl | exact .inr rfl | assumption) :
    PSs X [.Assign [.Name x pos'] e pos] (tSu T cs i ad cls dx (fun x => gAsg (hN j) (f x))) := PSs_imp (pss_one (ps_set hN' hi hx h hs hf)) fun D σ H ⟨B, μ, s, ρ, x, r, e, hσ, hx, q⟩ =>
  tX_bindT r e hσ hx q fun w s1 v μ1 H1 _ r1 e1 x1 rel1 q1 => q1 _ μ1 H1 Stp.refl r1 (e1.set rel1 j)
end
theorem units65 {k : Nat} {A : Around} (r : Room k A) : A.units + 65 < cLine := by
  have := r.un
  omega
theorem law_spG [KFrag] {T : TX} {K : PySem.W.Frag} {r : List W → CS → R W} (hK : K = KFrag.K) (h : LawTrue r) : ∀ vs H Q E, spLaw K vs H Q E → spD T 1 r vs H Q E := fun vs H Q E z => by
  obtain ⟨e, B, μ, s, ws, σ, a, b, c⟩ := law_sp (T := T) hK h vs H Q E z
  exact ⟨e, B, μ, s, ws, σ, a, b, noX_un c⟩
/-! ### a call without arguments -/
section
variable [KFrag] {X : Cx} [HK X] {T : TX} {Wx : WXc} {f : Addr} {fd : FuncData} {ps : List Str} {k : Nat} {h : List W → CS → R W} {x : Str} {p pos : Pos}
theorem pe_callG0 {sp : Sp} (hgd : X.A.guards = some []) (tk : Takes X Wx) (F : FnG X.prog X.w X.K X.mg X.base k f fd ps sp) (hr : Room k X.A) (hg : Gl X x) (hm : X.mg x = some (.ref f)) (hk : PySem.W.keepIn X.K (.ref f) = true) (hb : Binds X.K fd ps [])
    (hdb : (x == ("__debug__" : Str)) = false := by decide) : PE X (.Call (.Name x p) [] [] pos) (tCallS sp (WE Wx) tNil) where
  run := fun pins s σ H Q I q => by
    refine wpAny_Call_Name_kw (ld_glob I hg hm (PySem.W.callWith_K0 I.kIn hk ?_) hdb)
    have q : sp [] H Q (WE Wx σ) := q
    have bd := hb s [] I.kIn (by simpa using F.len _ _ _ _ q)
    rw [List.append_nil] at bd
    refine wpAny_call (codeAny_mono (F.run X.A X.stack s H ⟨[], []⟩ [] [] Q (WE Wx σ) hgd hr I.env0 bd .nil q) fun z s2 hz => ?_)
    cases z with
    | error u => exact passAt tk σ pins H s u s2 I hz
    | ok fl =>
      cases fl with
      | ret u => exact I.after hz
      | next => exact hz.elim
      | brk => exact hz.elim
      | cont => exact hz.elim
theorem de_callPG0 (hgd : X.A.guards = some []) (tk : Takes X Wx) (F : FnG X.prog X.w X.K X.mg X.base k f fd ps (spD T 0 h)) (hr : Room k X.A) (hg : Gl X x) (hm : X.mg x = some (.ref f)) (hk : PySem.W.keepIn X.K (.ref f) = true) (hb : Binds X.K fd ps [])
    (hdb : (x == ("__debug__" : Str)) = false := by decide) : DE X T Wx (.Call (.Name x p) [] [] pos) (fCallP 0 (noX h) fNil) := PE_imp (pe_callG0 hgd tk F hr hg hm hk hb hdb) fun σ H Q ⟨B, μ, s, ρ, r, e, q⟩ => by
  have q : Fin T Wx B μ s H σ Q (pureR (noX h) [] s) := q
  exact ⟨rfl, Av B μ s, [], [], [], σ, r.pure, .nil, noX_un (pure_fin (Wy := fun _ _ _ _ => False) (σ' := σ) r q)⟩
end
/-! ### a new list out of two, that may change -/
def catC (w u : W) (s : CS) : R W := match w, u with
  | .d (.list a), .d (.list b) => if a.length + b.length ≤ line then .ok (.c s.length) (s ++ [.lst (a ++ b)]) else .bad
  | _, _ => .bad
def fCatC (fa fb : En → CS → R W) (ρ : En) (s : CS) : R W := (fa ρ s).bind fun x s => (fb ρ s).bind fun y s => catC x y s
theorem de_catC [KFrag] {X : Cx} {T : TX} {Wx : WXc} {a b : Expr} {fa fb : En → CS → R W} {pos : Pos} (ha : DE X T Wx a fa) (hb : DE X T Wx b fb) : DE X T Wx (.BinOp a .Add b pos) (fCatC fa fb) := PE_imp (pe_op op_cat ha hb) fun σ H Q ⟨B, μ, s, ρ, r, e, q⟩ =>
  tD_bind r e q fun w s1 v μ1 H1 st1 r1 e1 rel1 q1 => tD_bind r1 e1 q1 fun u s2 v2 μ2 H2 st2 r2 e2 rel2 q2 => by
    unfold catC at q2
    split at q2
    · split at q2
      · rename_i hl
        have ra : Fz H2 (Av B μ2 s2) v (.list _) := Rp.stp (a := W) (b := V) st2 rel1
        have rb : Fz H2 (Av B μ2 s2) v2 (.list _) := rel2
        cases ra with
        | @lst p1 xs _ h1 f1 =>
          cases rb with
          | @lst p2 ys _ h2 f2 =>
            refine ⟨_, _, xs, ys, rfl, rfl, h1.1, h2.1, by rw [f1.len, f2.len, line_eq]; exact hl, fun p hp => ?_⟩
            obtain ⟨sr, st⟩ := newC r2 hp (f1.app f2)
            refine q2 _ _ _ st sr ⟨p, rfl, ?_⟩
            rw [← r2.len]
            simp
      · exact q2.elim
    · exact q2.elim
end DL
namespace DL
open PySem PySem.Spec PyProof.Rows L2
/-! ### dicts whose keys are tuples -/
section
variable [KFrag] {P : Program} {w : World} {H : Hp} {h : Heap} {A : Addr → Prop}
theorem FT.at_ {a : Addr} {xs : List V} (ok : HOk P w H h) (ki : KFrag.K.In h) (f : FT H A a xs) : ∃ (its : List Value), Vals xs its ∧ ∃ (o : Obj) (n : Nat), h.get? a = some o ∧ o.cls = .type "tuple" ∧ o.data = .seq its.toArray n := by
  rcases f with f | ⟨o, its, n, h1, h2, h3, _, h4⟩
  · obtain ⟨_, its, rv, o, h1, h2, n, h3⟩ := (show ObjOk P w H h _ (.tup _) from ok _ _ f.1)
    exact ⟨its, rv, o, n, h1, h2, h3⟩
  · exact ⟨its.toList, h4, o, n, ki _ _ h1, h2, by simpa using h3⟩
mutual
theorem nkey_is (ok : HOk P w H h) (ki : KFrag.K.In h) : ∀ {v : V} {d : D} {u : Value} {k : NestedKey}, Fz H A v d → RelV v u → nkey d = some k → NestedIs h k u
  | _, _, _, _, .non, r, e => by
    simp only [nkey] at e
    cases e
    cases (show _ = Value.none from r)
    exact .none
  | _, _, _, _, .bl b, r, e => by
    simp only [nkey] at e
    cases e
    cases (show _ = Value.bool b from r)
    exact .bool rfl
  | _, _, _, _, .int i, r, e => by
    simp only [nkey] at e
    cases e
    obtain ⟨t, rfl⟩ := (show ∃ t, _ = Value.int i t from r)
    exact .int i t
  | _, _, _, _, .str x, r, e => by
    simp only [nkey] at e
    cases e
    obtain ⟨t, rfl⟩ := (show ∃ t, _ = Value.str x t from r)
    exact .text x t
  | _, _, _, _, .lst _ _, r, e => by
    simp only [nkey] at e
    cases e
  | _, _, _, _, .tup f t, r, e => by
    simp only [nkey] at e
    obtain ⟨ks, e1, rfl⟩ := Option.map_eq_some_iff.mp e
    cases (show _ = Value.ref _ from r)
    obtain ⟨its, rv, o, n, h1, h2, h3⟩ := f.at_ ok ki
    exact .tup h1 h2 h3 (nkeys_is ok ki t (by simpa using rv) e1)
theorem nkeys_is (ok : HOk P w H h) (ki : KFrag.K.In h) : ∀ {v : List V} {d : List D} {u : List Value} {k : List NestedKey}, Fzs H A v d → Vals v u → nkeys d = some k → NestedAll h k u
  | _, _, _, _, .nil, r, e => by
    simp only [nkeys] at e
    cases e
    cases r
    exact .nil
  | _, _, _, _, .cons f t, r, e => by
    simp only [nkeys] at e
    cases r with
    | cons r1 r2 =>
      split at e
      · rename_i z1 z2
        cases e
        exact .cons (nkey_is ok ki f r1 z1) (nkeys_is ok ki t r2 z2)
      · cases e
end
abbrev KR : List (NestedKey × Addr × V) → List (NestedKey × Addr × Value) → Prop := Paired (fun (e : NestedKey × Addr × V) (x : NestedKey × Addr × Value) => e.1 = x.1 ∧ e.2.1 = x.2.1 ∧ RelV e.2.2 x.2.2)
theorem KPs.len {H : Hp} {A : Addr → Prop} : ∀ {es : List (NestedKey × Addr × V)} {ds : List (D × D)}, KPs H A es ds → es.length = ds.length
  | _, _, .nil => rfl
  | _, _, .cons _ _ _ _ t => by rw [List.length_cons, List.length_cons, KPs.len t]
theorem KPs_is (ok : HOk P w H h) (ki : KFrag.K.In h) : ∀ {es : List (NestedKey × Addr × V)} {ds : List (D × D)} {xs : List (NestedKey × Addr × Value)}, KPs H A es ds → KR es xs → ∀ x ∈ xs, (nestedKind P w).is h x.1 x.2.1
  | _, _, _, .nil, .nil, x, hx => nomatch hx
  | _, _, _, .cons e1 e2 f g t, .cons r1 r2, x, hx => by
    rcases List.mem_cons.mp hx with z | z
    · subst z
      rw [← r1.1, ← r1.2.1]
      exact ⟨nkey_is ok ki f (u := .ref _) rfl e1, e2⟩
    · exact KPs_is ok ki t r2 x z
theorem dct_of {a : Addr} {es : List (NestedKey × Addr × V)} {ds : List (D × D)} (ok : HOk P w H h) (ki : KFrag.K.In h) (e : H a = some (DObj w a es)) (kp : KPs H A es ds) :
    es.length ≤ sizeLine ∧ (a == sysModules) = false ∧ ∃ xs, KR es xs ∧ h.DictOfH (nestedKind P w) a xs := by
  obtain ⟨⟨z1, z2, xs, rel, o, eps, ep, h1, h2, h3, h4, h5⟩, _, _⟩ := (show ObjOk P w H h a (DObj w a es) from ok _ _ e)
  exact ⟨z2, z1, xs, rel, o, eps, ep, h1, h2, h3, h4, KPs_is ok ki kp rel, h5⟩
theorem dct_ok {H' : Hp} {h' : Heap} {a : Addr} {es : List (NestedKey × Addr × V)} {xs : List (NestedKey × Addr × Value)} (z : es.length ≤ sizeLine) (hd : (a == sysModules) = false) (rel : KR es xs) (dd : h'.DictOfH (nestedKind P w) a xs) :
    ObjOk P w H' h' a (DObj w a es) := by
  obtain ⟨o, eps, ep, h1, h2, h3, h4, _, h5⟩ := dd
  refine ⟨⟨hd, z, xs, rel, o, eps, ep, h1, h2, h3, h4, h5⟩, ⟨o, h1⟩, fun g1 g2 q k => ?_⟩
  obtain ⟨y1, y2, ys, r, u, fs, fp, e1, e2⟩ := q
  exact ⟨y1, y2, ys, r, u, fs, fp, k _ e1, e2⟩
end

/-! the operations on keys and values -/
mutual
theorem eqv_key : ∀ {x y : D} {k l : NestedKey}, nkey x = some k → nkey y = some l → PyData.eqv x y = NestedKey.beq k l
  | .none, y, k, l, e, f => by
    simp only [nkey] at e; cases e
    cases y <;> simp only [nkey] at f <;> first | (cases f; rfl) | cases f | (obtain ⟨ks, _, rfl⟩ := Option.map_eq_some_iff.mp f; rfl)
  | .bool b, y, k, l, e, f => by
    simp only [nkey] at e; cases e
    cases y with
    | bool c => simp only [nkey] at f; cases f; cases b <;> cases c <;> rfl
    | int j => simp only [nkey] at f; cases f; simp only [PyData.eqv, NestedKey.beq]; cases b <;> rfl
    | tuple ys => simp only [nkey] at f; obtain ⟨ks, _, rfl⟩ := Option.map_eq_some_iff.mp f; rfl
    | none => simp only [nkey] at f; cases f; rfl
    | str s => simp only [nkey] at f; cases f; rfl
    | _ => simp only [nkey] at f; cases f
  | .int i, y, k, l, e, f => by
    simp only [nkey] at e; cases e
    cases y with
    | bool c => simp only [nkey] at f; cases f; simp only [PyData.eqv, NestedKey.beq]; cases c <;> rfl
    | int j => simp only [nkey] at f; cases f; simp only [PyData.eqv, NestedKey.beq]; rfl
    | tuple ys => simp only [nkey] at f; obtain ⟨ks, _, rfl⟩ := Option.map_eq_some_iff.mp f; rfl
    | none => simp only [nkey] at f; cases f; rfl
    | str s => simp only [nkey] at f; cases f; rfl
    | _ => simp only [nkey] at f; cases f
  | .str x, y, k, l, e, f => by
    simp only [nkey] at e; cases e
    cases y with
    | str s =>
      simp only [nkey] at f; cases f; simp only [PyData.eqv, NestedKey.beq]
      exact Bool.eq_iff_iff.mpr (by simp)
    | tuple ys => simp only [nkey] at f; obtain ⟨ks, _, rfl⟩ := Option.map_eq_some_iff.mp f; rfl
    | none => simp only [nkey] at f; cases f; rfl
    | bool c => simp only [nkey] at f; cases f; rfl
    | int c => simp only [nkey] at f; cases f; rfl
    | _ => simp only [nkey] at f; cases f
  | .tuple xs, y, k, l, e, f => by
    simp only [nkey] at e
    obtain ⟨ks, e1, rfl⟩ := Option.map_eq_some_iff.mp e
    cases y with
    | tuple ys =>
      simp only [nkey] at f
      obtain ⟨ls, f1, rfl⟩ := Option.map_eq_some_iff.mp f
      simp only [PyData.eqv, NestedKey.beq]
      exact eqvAll_key e1 f1
    | none => simp only [nkey] at f; cases f; rfl
    | bool c => simp only [nkey] at f; cases f; rfl
    | int c => simp only [nkey] at f; cases f; rfl
    | str c => simp only [nkey] at f; cases f; rfl
    | _ => simp only [nkey] at f; cases f
  | .list xs, y, k, l, e, f => by simp only [nkey] at e; cases e
  | .dict xs, y, k, l, e, f => by simp only [nkey] at e; cases e
theorem eqvAll_key : ∀ {xs ys : List D} {ks ls : List NestedKey}, nkeys xs = some ks → nkeys ys = some ls → PyData.eqvAll xs ys = NestedKey.beqAll ks ls
  | [], ys, ks, ls, e, f => by
    simp only [nkeys] at e; cases e
    cases ys with
    | nil => simp only [nkeys] at f; cases f; rfl
    | cons y ys =>
      simp only [nkeys] at f
      split at f
      · cases f; rfl
      · cases f
  | x :: xs, ys, ks, ls, e, f => by
    simp only [nkeys] at e
    split at e
    · rename_i z1 z2
      cases e
      cases ys with
      | nil => simp only [nkeys] at f; cases f; rfl
      | cons y ys =>
        simp only [nkeys] at f
        split at f
        · rename_i y1 y2
          cases f
          simp only [PyData.eqvAll, NestedKey.beqAll]
          rw [eqv_key z1 y1, eqvAll_key z2 y2]
        · cases f
    · cases e
end
/-- what stands under a key -/
def lookD : List (D × D) → D → Option D
  | [], _ => none
  | p :: r, k => if eqF 8 p.1 k = true then some p.2 else lookD r k
/-- .. put there -/
def putD : List (D × D) → D → D → List (D × D)
  | [], k, v => [(k, v)]
  | p :: r, k, v => if eqF 8 p.1 k = true then (p.1, v) :: r else p :: putD r k v
/-- a key that may be asked for -/
def keyOk (d : D) : Bool := match d with
  | .tuple _ => match nkey d with
    | some k => decide (k.depth ≤ 8)
    | none => false
  | _ => false
theorem keyOk_of {d : D} (h : keyOk d = true) : ∃ xs k, d = .tuple xs ∧ nkey d = some k ∧ k.depth ≤ 8 := by
  unfold keyOk at h
  split at h
  · split at h
    · rename_i z
      exact ⟨_, _, rfl, z, of_decide_eq_true h⟩
    · cases h
  · cases h
section
variable [KFrag] {P : Program} {w : World} {H : Hp} {h : Heap} {A : Addr → Prop}
theorem look_kp : ∀ {es : List (NestedKey × Addr × V)} {ds : List (D × D)} {xs : List (NestedKey × Addr × Value)} {d : D} {k : NestedKey}, KPs H A es ds → KR es xs → nkey d = some k →
    (∀ y, lookD ds d = some y → ∃ p v, atKey xs k = some p ∧ RelV v p.2 ∧ Fz H A v y) ∧ (lookD ds d = none → atKey xs k = none)
  | _, _, _, _, _, .nil, .nil, _ => ⟨fun _ e => (nomatch e), fun _ => rfl⟩
  | _, _, _, d, k, .cons (x := x) (y := z) e1 e2 f g t, .cons (b := b) (l₂ := xs) r1 r2, e => by
    obtain ⟨i1, i2⟩ := look_kp t r2 e
    have q := eqv_key e1 e
    have hb : atKey (b :: xs) k = if decide (b.1 = k) = true then some b.2 else atKey xs k := by
      unfold atKey
      rw [List.find?_cons]
      cases decide (b.1 = k) <;> simp
    rw [hb, ← r1.1, NestedKey.decide_eq, ← q]
    unfold lookD
    rw [eqF_eq]
    cases PyData.eqv x d with
    | true => exact ⟨fun y hy => by cases hy; exact ⟨_, _, rfl, r1.2.2, g⟩, fun hy => by cases hy⟩
    | false => exact ⟨i1, i2⟩
theorem stored_cons {b : NestedKey × Addr × Value} {xs : List (NestedKey × Addr × Value)} {k : NestedKey} {a : Addr} {u : Value} (hn : ((b :: xs).map (·.1)).Nodup) :
    storedH (b :: xs) k a u = if b.1 = k then (b.1, b.2.1, u) :: xs else b :: storedH xs k a u := by
  have hb : atKey (b :: xs) k = if decide (b.1 = k) = true then some b.2 else atKey xs k := by
    unfold atKey
    rw [List.find?_cons]
    cases decide (b.1 = k) <;> simp
  unfold storedH
  rw [hb]
  by_cases h : b.1 = k
  · rw [if_pos h, if_pos (by simp [h]), List.map_cons]
    have e : putAt k u b = (b.1, b.2.1, u) := by unfold putAt; rw [if_pos h]
    rw [e]
    congr 1
    have hn' := (List.nodup_cons.mp (by rw [← List.map_cons]; exact hn)).1
    refine (List.map_congr_left fun x hx => ?_).trans (List.map_id _)
    unfold putAt
    rw [if_neg fun z => hn' (by rw [h, ← z]; exact List.mem_map_of_mem hx)]
    rfl
  · rw [if_neg h, if_neg (show ¬ decide (b.1 = k) = true by simpa using h)]
    split
    · rw [List.map_cons]
      unfold putAt
      rw [if_neg h]
    · rfl
theorem put_kp : ∀ {es : List (NestedKey × Addr × V)} {ds : List (D × D)} {xs : List (NestedKey × Addr × Value)} {d y : D} {k : NestedKey} {a : Addr} {v : V} {u : Value}, KPs H A es ds → KR es xs → (xs.map (·.1)).Nodup →
    nkey d = some k → k.depth ≤ 8 → Fz H A (.ref a) d → Fz H A v y → RelV v u → ∃ es', KPs H A es' (putD ds d y) ∧ KR es' (storedH xs k a u) ∧ es'.length ≤ es.length + 1
  | _, _, _, d, y, k, a, v, u, .nil, .nil, _, e1, e2, f, g, r => ⟨[(k, a, v)], .cons e1 e2 f g .nil, .cons ⟨rfl, rfl, r⟩ .nil, Nat.le_refl _⟩
  | _, _, _, d, y, k, a, v, u, .cons (k := k0) (a := a0) (v := v0) (x := x) (y := z) (es := es) (ds := ds) c1 c2 cf cg t, .cons (b := b) (l₂ := xs) r1 r2, hn, e1, e2, f, g, r => by
    have q := eqv_key c1 e1
    rw [stored_cons hn, ← r1.1]
    unfold putD
    rw [eqF_eq]
    by_cases h : k0 = k
    · have h2 : PyData.eqv x d = true := by rw [q, h]; exact NestedKey.beq_self _
      rw [if_pos h]
      simp only [h2, if_true]
      exact ⟨(k0, a0, v) :: es, .cons c1 c2 cf g t, .cons ⟨rfl, r1.2.1, r⟩ r2, by simp⟩
    · have h2 : PyData.eqv x d = false := by
        rw [q]
        cases w : NestedKey.beq k0 k with
        | false => rfl
        | true => exact absurd (NestedKey.eq_of_beq _ _ w) h
      rw [if_neg h]
      simp only [h2, if_false, Bool.false_eq_true]
      obtain ⟨es', i1, i2, i3⟩ := put_kp t r2 (List.nodup_cons.mp (by rw [← List.map_cons]; exact hn)).2 e1 e2 f g r
      exact ⟨(k0, a0, v0) :: es', .cons c1 c2 cf cg i1, .cons r1 i2, by simp; omega⟩
theorem dct_rd {a : Addr} {es : List (NestedKey × Addr × V)} {ds : List (D × D)} (ok : HOk P w H h) (ki : KFrag.K.In h) (e : Rd H a (DObj w a es)) (kp : KPs H A es ds) :
    es.length ≤ sizeLine ∧ (a == sysModules) = false ∧ ∃ xs, KR es xs ∧ h.DictOfH (nestedKind P w) a xs := by
  obtain ⟨⟨z1, z2, xs, rel, o, eps, ep, h1, h2, h3, h4, h5⟩, _, _⟩ := (show ObjOk P w H h a (DObj w a es) from rd_of ok e)
  exact ⟨z2, z1, xs, rel, o, eps, ep, h1, h2, h3, h4, KPs_is ok ki kp rel, h5⟩
end
/-- a dict that may be read -/
def NRd [KFrag] (w : World) (H : Hp) (A : Addr → Prop) (x : V) (ds : List (D × D)) : Prop := ∃ a es, x = .ref a ∧ Rd H a (DObj w a es) ∧ KPs H A es ds
section
variable [KFrag] {X : Cx} [HK X] {pins : List (Addr × Obj)} {σ : L2.St} {H : Hp} {s : Shared} {B : Around} {E : Value → Shared → Prop} {A : Addr → Prop} {x y : V} {u r : Value} {ds : List (D × D)} {d z : D} {a : Addr}
theorem kin (I : Inv X pins σ H s) : KFrag.K.In s.heap := by rw [← HK.eq (X := X)]; exact I.kIn
theorem nest_room {P : Program} {w : World} (hu : B.units + 64 < cLine) : (nestedKind P w).room B.in1 := by
  show B.units + 1 + 8 < cLine
  omega
theorem n_key (I : Inv X pins σ H s) (f : Fz H A y d) (ry : RelV y u) (hk : keyOk d = true) : ∃ a k, y = .ref a ∧ u = .ref a ∧ nkey d = some k ∧ k.depth ≤ 8 ∧ (nestedKind X.prog X.w).is s.heap k a := by
  obtain ⟨xs, k, rfl, e, hd⟩ := keyOk_of hk
  have q := nkey_is I.hok (kin I) f ry e
  cases f with
  | tup f1 f2 =>
    cases (show u = Value.ref _ from ry)
    exact ⟨_, k, rfl, rfl, e, hd, q, hd⟩
theorem n_get {Q : Value → Shared → Prop} (hu : B.units + 64 < cLine) (I : Inv X pins σ H s) (g : NRd X.w H A (.ref a) ds) (f : Fz H A y d) (ry : RelV y u) (hk : keyOk d = true) (hl : lookD ds d = some z)
    (h : ∀ v w' s', Fz H A v z → Inv X pins σ H s' → RelV v w' → Q w' s') : wpAny (model X.prog X.w) B (getItem (.ref a) u) Q E s := by
  obtain ⟨a', es, e, rd, kp⟩ := g
  cases e
  obtain ⟨b, k, rfl, rfl, e1, e2, hi⟩ := n_key I f ry hk
  obtain ⟨_, hs, xs, rel, dd⟩ := dct_rd I.hok (kin I) rd kp
  obtain ⟨p, v, e3, rv, fv⟩ := (look_kp kp rel e1).1 z hl
  exact wpAny_getItem_heap (nest_room hu) hi dd e3 (h v _ _ fv (I.tok _) rv)
theorem n_in {Q : Value → Shared → Prop} (hu : B.units + 64 < cLine) (I : Inv X pins σ H s) (g : NRd X.w H A (.ref a) ds) (f : Fz H A y d) (ry : RelV y u) (hk : keyOk d = true)
    (h : ∀ s', Inv X pins σ H s' → Q (.bool (lookD ds d).isSome) s') : wpAny (model X.prog X.w) B (compareOp .In u (.ref a)) Q E s := by
  obtain ⟨a', es, e, rd, kp⟩ := g
  cases e
  obtain ⟨b, k, rfl, rfl, e1, e2, hi⟩ := n_key I f ry hk
  obtain ⟨_, hs, xs, rel, dd⟩ := dct_rd I.hok (kin I) rd kp
  refine wpAny_in_heap (nest_room hu) hi hs dd ?_
  have q : (atKey xs k).isSome = (lookD ds d).isSome := by
    cases z : lookD ds d with
    | none => rw [(look_kp kp rel e1).2 z]; rfl
    | some y => obtain ⟨p, v, e3, _⟩ := (look_kp kp rel e1).1 y z; rw [e3]; rfl
  rw [q]
  exact h _ (I.tok _)
theorem n_notIn {Q : Value → Shared → Prop} (hu : B.units + 64 < cLine) (I : Inv X pins σ H s) (g : NRd X.w H A (.ref a) ds) (f : Fz H A y d) (ry : RelV y u) (hk : keyOk d = true)
    (h : ∀ s', Inv X pins σ H s' → Q (.bool (!(lookD ds d).isSome)) s') : wpAny (model X.prog X.w) B (compareOp .NotIn u (.ref a)) Q E s := by
  obtain ⟨a', es, e, rd, kp⟩ := g
  cases e
  obtain ⟨b, k, rfl, rfl, e1, e2, hi⟩ := n_key I f ry hk
  obtain ⟨_, hs, xs, rel, dd⟩ := dct_rd I.hok (kin I) rd kp
  refine wpAny_notIn_heap (nest_room hu) hi hs dd ?_
  have q : (atKey xs k).isSome = (lookD ds d).isSome := by
    cases z : lookD ds d with
    | none => rw [(look_kp kp rel e1).2 z]; rfl
    | some y => obtain ⟨p, v, e3, _⟩ := (look_kp kp rel e1).1 y z; rw [e3]; rfl
  rw [q]
  exact h _ (I.tok _)
theorem n_put {es : List (NestedKey × Addr × V)} {v : V} {Q : Unit → Shared → Prop} (hu : B.units + 64 < cLine) (I : Inv X pins σ H s) (e : H a = some (DObj X.w a es)) (kp : KPs H A es ds) (f : Fz H A y d) (ry : RelV y u) (hk : keyOk d = true)
    (fv : Fz H A v z) (rv : RelV v r) (hz : ds.length < line) (h : ∀ es' s', KPs H A es' (putD ds d z) → Inv X pins σ (upd H a (DObj X.w a es')) s' → Q () s') : wpAny (model X.prog X.w) B (setItem (.ref a) u r) Q E s := by
  obtain ⟨b, k, rfl, rfl, e1, e2, hi⟩ := n_key I f ry hk
  obtain ⟨hl, hs, xs, rel, dd⟩ := dct_of I.hok (kin I) e kp
  have hle : es.length = ds.length := kp.len
  have hxs : xs.length ≤ sizeLine := by rw [← Paired.length rel]; exact hl
  obtain ⟨_, _, _, _, _, _, _, _, hn⟩ := id dd
  obtain ⟨es', k1, k2, k3⟩ := put_kp kp rel hn e1 e2 f fv rv
  refine wpAny_setItem_heap (hsz := hxs) (nest_room hu) hi dd fun h' dd' hsb => h es' _ k1 ?_
  have he : ∃ q, h'.get? a = some q := let ⟨q, _, _, hq, _⟩ := dd'; ⟨q, hq⟩
  refine d_write I (by rw [e]; exact True.intro) hsb he (dct_ok ?_ hs k2 dd')
  rw [sizeLine_eq]
  unfold line at hz
  omega
end
end DL
namespace DL
open PySem PySem.Spec PyProof.Rows L2
/-! ### dicts whose keys are tuples: expressions and statements -/
theorem dobj_empty [KFrag] {P : Program} {w : World} {H : Hp} (h : Heap) (hb : sysModules < h.objs.size) : ObjOk P w H (h.push { cls := .type "dict", data := .dict #[] }) h.objs.size (DObj w h.objs.size []) :=
  dct_ok (P := P) (Nat.zero_le _) (beq_eq_false_iff_ne.mpr (Ne.symm (Nat.ne_of_lt hb))) .nil ⟨_, #[], 0, Heap.get?_push_size _ rfl, ⟨rfl, rfl, rfl⟩, rfl, rfl, (fun _ h => by cases h), List.nodup_nil⟩
section
variable [KFrag] {X : Cx} [HK X] {o i e value : Expr} {pos pos' tpos : Pos} {td ty tv : TE}
theorem pe_nnew : PE X (.Dict [] [] pos) (fun _ H Q => ∀ p, H p = none → Q (.ref p) (upd H p (DObj X.w p []))) := ⟨fun pins s σ H Q I h =>
  wpAny_Dict_empty ⟨.ref s.heap.objs.size, _, I.laid (a := s.heap.objs.size) (o := DObj X.w s.heap.objs.size []) (t' := s.toks) (fun _ _ q => Heap.get?_push_of_some _ q) (Nat.le_refl _) (dobj_empty s.heap I.big), rfl, h _ (I.hok.fresh (Nat.le_refl _))⟩⟩
/-- {k: v} -/
theorem pe_nnew1 (hu : X.A.units + 64 < cLine) (hk : PE X i ty) (hv : PE X value tv) : PE X (.Dict [some i] [value] pos) (fun σ H Q => ∀ p, H p = none → ty σ (upd H p (DObj X.w p [])) fun x H1 => tv σ H1 fun y H2 => H2 p = some (DObj X.w p []) ∧
    ∃ A d z, Fz H2 A x d ∧ keyOk d = true ∧ Fz H2 A y z ∧ ∀ es', KPs H2 A es' [(d, z)] → Q (.ref p) (upd H2 p (DObj X.w p es'))) := by
  refine ⟨fun pins s σ H Q I q => ?_⟩
  have hn := I.hok.fresh (Nat.le_refl s.heap.objs.size)
  have I1 := I.laid (a := s.heap.objs.size) (o := DObj X.w s.heap.objs.size []) (h' := s.heap.push { cls := .type "dict", data := .dict #[] }) (t' := s.toks) (fun _ _ q => Heap.get?_push_of_some _ q) (Nat.le_refl _) (dobj_empty s.heap I.big)
  rw [arm_eval_Dict, show (evalEachOpt [some i] X.env).zip ((evalEach [value] X.env).map fun v => do let x ← v; standAt pos; pure x) = (pairTrees [some i] [value] X.env pos).map (fun p => (some p.1, p.2)) from rfl,
    dictDisplay_pairs (pairTrees [some i] [value] X.env pos) (by simp [pairTrees]) (by simp [pairTrees])]
  refine wpAny_bind (wpAny_standAt (wpAny_bind (wpAny_subDictH (knd := nestedKind X.prog X.w) (Q := fun d s' => wpAny (model X.prog X.w) X.A (pure (Value.ref d)) _ _ s') (by show X.A.units + 8 < cLine; omega) (by simp [pairTrees]) ?_)))
  refine pairTrees_cons_walk (thn (hk.run pins _ σ _ _ I1 (q _ hn)) fun u s1 ⟨x, H1, I1, ru, q1⟩ => thn (hv.run pins s1 σ H1 _ I1 q1) fun w2 s2 ⟨y, H2, I2, rv, ep, A, d, z, fx, hd, fy, q2⟩ => pairTrees_nil_walk ?_)
  obtain ⟨b, k, rfl, rfl, e1, e2, hi⟩ := n_key I2 fx ru hd
  obtain ⟨hl, hs, xs, rel, dd⟩ := dct_of (A := fun _ => False) I2.hok (kin I2) ep .nil
  cases rel
  refine ⟨[(k, b, w2)], ⟨rfl, rfl, hi, True.intro⟩, dd, fun h' tk dd' hsb => wpAny_pure ⟨.ref s.heap.objs.size, _, ?_, rfl, q2 [(k, b, y)] (.cons e1 e2 fx fy .nil)⟩⟩
  have he : ∃ q, h'.get? s.heap.objs.size = some q := let ⟨q, _, _, hq, _⟩ := dd'; ⟨q, hq⟩
  refine d_write I2 (by rw [ep]; exact True.intro) hsb he (dct_ok (by rw [sizeLine_eq]; simp) hs (.cons ⟨rfl, rfl, rv⟩ .nil) dd')
def tNGet [KFrag] (w : World) (td ty : TE) : TE := fun σ H Q => td σ H fun x H1 => ty σ H1 fun y H2 => ∃ A ds d z, NRd w H2 A x ds ∧ Fz H2 A y d ∧ keyOk d = true ∧ lookD ds d = some z ∧ ∀ v, Fz H2 A v z → Q v H2
theorem n_typeIs {pins : List (Addr × Obj)} {σ : L2.St} {H : Hp} {s : Shared} {A : Addr → Prop} {a : Addr} {ds : List (D × D)} (I : Inv X pins σ H s) (g : NRd X.w H A (.ref a) ds) : s.TypeIs (.ref a) "dict" := by
  obtain ⟨a', es, e, rd, kp⟩ := g
  cases e
  obtain ⟨_, _, xs, _, dd⟩ := dct_rd I.hok (kin I) rd kp
  exact dd.typeIs
theorem pe_nget (hu : X.A.units + 64 < cLine) (ho : PE X o td) (hi : PE X i ty) (hs : NoSl i) : PE X (.Subscript o i pos) (tNGet X.w td ty) := by
  refine ⟨fun pins s σ H Q I h => ?_⟩
  refine subD_of PySem.F.slot_dict_getitem.lookup hs (thn (ho.run pins s σ H _ I h) fun u s1 ⟨x, H1, I1, rx, q1⟩ => thn (hi.run pins s1 σ H1 _ I1 q1) fun iv s2 ⟨y, H2, I2, ry, A, ds, d, z, g, f, hk, hl, q2⟩ => ?_)
  obtain ⟨a, es, rfl, g2⟩ := id g
  obtain rfl : u = Value.ref a := rx
  exact ⟨n_typeIs I2 g, n_get hu I2 g f ry hk hl fun v w' s3 fv I3 rw' => ⟨v, H2, I3, rw', q2 v fv⟩⟩
def tNIn [KFrag] (neg : Bool) (w : World) (ty td : TE) : TE := fun σ H Q => ty σ H fun y H1 => td σ H1 fun x H2 => ∃ A ds d, NRd w H2 A x ds ∧ Fz H2 A y d ∧ keyOk d = true ∧ Q (.bl (xor neg (lookD ds d).isSome)) H2
theorem pc_nin (hu : X.A.units + 64 < cLine) (hi : PE X i ty) (ho : PE X o td) : PC X .In i o (tNIn false X.w ty td) := by
  refine ⟨fun pins s σ H Q I h => ?_⟩
  refine thn (hi.run pins s σ H _ I h) fun iv s1 ⟨y, H1, I1, ry, q1⟩ => thn (ho.run pins s1 σ H1 _ I1 q1) fun u s2 ⟨x, H2, I2, rx, A, ds, d, g, f, hk, q2⟩ => ?_
  obtain ⟨a, es, rfl, g2⟩ := id g
  obtain rfl : u = Value.ref a := rx
  refine n_in hu I2 g f ry hk fun s3 I3 => ⟨.bl (lookD ds d).isSome, H2, I3, rfl, ?_⟩
  rw [Bool.false_xor] at q2
  exact q2
theorem pc_nnotin (hu : X.A.units + 64 < cLine) (hi : PE X i ty) (ho : PE X o td) : PC X .NotIn i o (tNIn true X.w ty td) := by
  refine ⟨fun pins s σ H Q I h => ?_⟩
  refine thn (hi.run pins s σ H _ I h) fun iv s1 ⟨y, H1, I1, ry, q1⟩ => thn (ho.run pins s1 σ H1 _ I1 q1) fun u s2 ⟨x, H2, I2, rx, A, ds, d, g, f, hk, q2⟩ => ?_
  obtain ⟨a, es, rfl, g2⟩ := id g
  obtain rfl : u = Value.ref a := rx
  refine n_notIn hu I2 g f ry hk fun s3 I3 => ⟨.bl (!(lookD ds d).isSome), H2, I3, rfl, ?_⟩
  rw [Bool.true_xor] at q2
  exact q2
/-- d[y] = v -/
def sNPut [KFrag] (w : World) (td ty tv : TE) : TS := fun D σ H => tv σ H fun v H1 => td σ H1 fun x H2 => ty σ H2 fun y H3 => ∃ A a es ds d z, x = .ref a ∧ H3 a = some (DObj w a es) ∧ KPs H3 A es ds ∧ Fz H3 A y d ∧ keyOk d = true ∧ Fz H3 A v z ∧ ds.length < line ∧
  ∀ es', KPs H3 A es' (putD ds d z) → D.nx σ (upd H3 a (DObj w a es'))
theorem ps_nput (hu : X.A.units + 64 < cLine) (ho : PE X o td) (hi : PE X i ty) (hv : PE X value tv) (hs : swapsWith value (some (.Subscript o i pos')) pos.line X.env = pure false) :
    PS X (.Assign [.Subscript o i pos'] value pos) (sNPut X.w td ty tv) := by
  refine ⟨fun pins s σ H D I h => ?_⟩
  refine wpAny_Assign_Subscript (thn (hv.run pins s σ H _ I h) fun r s1 ⟨v, H1, I1, rv, q1⟩ => thn (ho.run pins s1 σ H1 _ I1 q1) fun u s2 ⟨x, H2, I2, rx, q2⟩ => thn (hi.run pins s2 σ H2 _ I2 q2) fun iv s3 ⟨y, H3, I3, ry, A, a, es, ds, d, z, ex, e, kp, f, hk, fv, hz, q3⟩ => ?_) hs
  subst ex
  obtain rfl : u = Value.ref a := rx
  exact n_put hu I3 e kp f ry hk fv rv hz fun es' s4 k1 I4 => ⟨σ, _, I4, q3 es' k1⟩
/-- an object that no one changes any more -/
theorem pe_lockV {t : TE} (h : PE X e t) : PE X e (fun σ H Q => t σ H fun v H1 => Q v H1 ∨ ∃ a u, v = .ref a ∧ H1 a = some u ∧ Mut (some u) ∧ ∀ od, Q v (upd H1 a (.frz od u))) := ⟨fun pins s σ H Q I z =>
  thn (h.run pins s σ H _ I z) fun w s1 ⟨v, H1, I1, rv, q⟩ => q.elim (fun q => ⟨v, H1, I1, rv, q⟩) fun ⟨a, u, ev, ea, mu, q⟩ => let ⟨od, I2⟩ := I1.lock ea mu; ⟨v, _, I2, rv, q od⟩⟩
end
/-! walking the keys -/
def Itn (w : World) (d : Addr) (o : Obj) (es : List (NestedKey × Addr × V)) : It :=
  ⟨fun i H => H d = some (.frz o (DObj w d es)) ∧ i < es.length, fun i H x H' => H' = H ∧ ∃ e, es[i]? = some e ∧ x = .ref e.2.1, fun i H => H d = some (.frz o (DObj w d es)) ∧ es.length ≤ i⟩
theorem walk_n {w : World} {d : Addr} {o : Obj} {es : List (NestedKey × Addr × V)} : Walk (Itn w d o es) es.length (fun H => H d = some (.frz o (DObj w d es))) (fun i H x H' => H' = H ∧ ∃ e, es[i]? = some e ∧ x = .ref e.2.1) :=
  ⟨fun _ _ hi q => ⟨q, hi⟩, fun _ q => ⟨q, Nat.le_refl _⟩, fun _ _ _ _ _ _ y => y⟩
theorem frzN [KFrag] {X : Cx} {pins : List (Addr × Obj)} {σ : L2.St} {H : Hp} {s : Shared} {d : Addr} {o : Obj} {es : List (NestedKey × Addr × V)} (I : Inv X pins σ H s) (h : H d = some (.frz o (DObj X.w d es))) :
    (d == sysModules) = false ∧ s.heap.get? d = some o ∧ o.ExactDict ∧ ∃ (eps : Array DictEntry) (ep : Nat), o.data = .dict eps ep ∧ eps.size = es.length ∧ ∀ (i : Nat) e, es[i]? = some e → ∃ en : DictEntry, eps[i]? = some en ∧ en.key = .ref e.2.1 := by
  obtain ⟨hg, ⟨z1, z2, xs, rel, o', eps, ep, h1, h2, h3, h4, h5⟩, _, _⟩ := (show ObjOk X.prog X.w H s.heap d (.frz o (DObj X.w d es)) from I.hok _ _ h)
  rw [hg] at h1
  cases h1
  have hsz : eps.size = xs.length := by rw [← Array.length_toList, h4, List.length_map]
  refine ⟨z1, hg, h2, eps, ep, h3, hsz.trans (Paired.length rel).symm, fun i e he => ?_⟩
  obtain ⟨x, hx, r1, r2, r3⟩ := paired_get rel he
  refine ⟨_, by rw [← Array.getElem?_toList, h4, List.getElem?_map, hx]; rfl, ?_⟩
  show Value.ref x.2.1 = _
  rw [r2]
theorem turn_n [KFrag] {P : Program} {w : World} {K : PySem.W.Frag} {tg : Expr} {d : Addr} {o : Obj} {eps : Array DictEntry} {ep : Nat} {es : List (NestedKey × Addr × V)} (it : Addr) (hod : o.data = .dict eps ep) : Turn P w K tg (Itn w d o es) [it] it (fun i h => h.IsKeyIter it d i es.length ep) where
  mem := by simp
  obj := fun i h st b hb => by
    have e : b = it := by simpa using hb
    subst e
    obtain ⟨oi, e, c, dd⟩ := st
    exact ⟨oi, e, fun v z => by rw [dd] at z; cases z⟩
  keep := fun i h h' st k => st.at fun oi e => k it (by simp) oi e
  item := by
    intro X hP hw hK hc i pins s σ H E I hf st hg
    subst hP hw hK
    obtain ⟨hd, hi⟩ := hg
    obtain ⟨f0, f1, f2, f3, f4, f5⟩ := hf it (by simp)
    obtain ⟨hs, hgd, hx, es', ep', hdt, hsz, ent⟩ := frzN I hd
    obtain ⟨rfl, rfl⟩ := dict_ep hod hdt
    obtain ⟨en, hen, hkey⟩ := ent i es[i] (List.getElem?_eq_getElem hi)
    refine next_key_item st hgd hdt hsz hen fun h' st' sb => ?_
    have I1 : Inv X pins σ H { s with heap := h' } := I.turned (t' := s.toks) (fun b ob hb e => (sb.2 b hb).trans e) f0 f1 f3 f4 f5
    obtain ⟨oi, e, c, dd⟩ := id st'
    exact ⟨en.key, rfl, go_of (s := { s with heap := h' }) e c dd (by decide) ⟨.ref es[i].2.1, H, I1, hkey, ⟨rfl, _, List.getElem?_eq_getElem hi, rfl⟩, st', fun b hb => (hf b hb).1⟩⟩
  done := by
    intro X hP hw hK hc i pins s σ H E I hf st hg
    subst hP hw hK
    obtain ⟨hd, hi⟩ := hg
    obtain ⟨f0, f1, f2, f3, f4, f5⟩ := hf it (by simp)
    obtain ⟨hs, hgd, hx, es', ep', hdt, hsz, ent⟩ := frzN I hd
    obtain ⟨rfl, rfl⟩ := dict_ep hod hdt
    exact next_key_end (I.ok.hd hc) st hgd hdt hsz hi fun h' eb => ⟨rfl, I.turned (t' := s.toks) (fun b ob hb e => eb b ob hb e) f0 f1 f3 f4 f5⟩
  self := fun A i s Q E st h => by
    refine wpAny_pyIter_slot st.typeIs F.slot_dict_keyiterator_iter (wpAny_call_entry F.slot_dict_keyiterator_iter st.typeIs F.entry_dict_keyiterator_iter ?_ (F.args_dict_keyiterator_iter_1 _))
    show wpAny _ _ (ret (.ref it)) _ _ s
    exact wpAny_pure ⟨_, rfl, "dict_keyiterator", _, st.typeIs, F.slot_dict_keyiterator_next.lookup, h⟩
theorem pi_n [KFrag] {X : Cx} {tg e : Expr} {td : TE} (he : PE X e td) : PI X tg e (fun σ H R => td σ H fun x H1 => ∃ d o es, x = .ref d ∧ H1 d = some (.frz o (DObj X.w d es)) ∧ R (Itn X.w d o es) H1) := by
  refine ⟨fun pins s σ H R I h => ?_⟩
  refine thn (he.run pins s σ H _ I h) fun u s1 ⟨x, H1, I1, rx, d, o, es, ex, hd, q⟩ => ?_
  subst ex
  obtain rfl : u = Value.ref d := rx
  obtain ⟨hs, hgd, hx, eps, ep, hdt, hsz, ent⟩ := frzN I1 hd
  refine iter_keys hs hgd hx hdt (pi_one (tk := s1.toks) I1 _ (turn_n _ hdt) ⟨_, Heap.get?_push_size _ rfl, rfl, ?_⟩ q)
  rw [hsz] <;> rfl
end DL
namespace DL
open PySem PySem.Spec PyProof.Rows L2
section
variable [KFrag]
/-! ### dicts whose keys are tuples, over cells -/
def dctOf (w : W) (s : CS) : Option (List (D × D)) := match w with
  | .c n => match s[n]? with
    | some (.dct ds) => if unm ds = true then some ds else none
    | _ => none
  | .fd ds => if unm ds = true then some ds else none
  | _ => none
theorem CellOk.un {μ : List Addr} {H : Hp} {A : Addr → Prop} {a : Addr} {ds : List (D × D)} (h : CellOk μ H A a (.dct ds)) (u : unm ds = true) : ∃ es, H a = some (DObj KFrag.w a es) ∧ KPs H A es ds :=
  h.elim (fun h => h) fun ⟨_, _, e, _⟩ => absurd u (by rw [e]; exact unm_mark)
theorem CellOk.mk {μ : List Addr} {H : Hp} {A : Addr → Prop} {a : Addr} {r : List (D × D)} (h : CellOk μ H A a (.dct (mark :: r))) : ∃ ks, H a = some (.dK ks) ∧ IKs H A ks r := by
  rcases h with ⟨_, _, k⟩ | ⟨ks, r', e, q⟩
  · cases k with
    | cons e1 _ f _ _ => cases f
  · cases e
    exact ⟨ks, q⟩
theorem dctOf_rd {B : Addr → Prop} {μ : List Addr} {s : CS} {H : Hp} {x : V} {w : W} {ds : List (D × D)} (r : SR B μ s H) (h : RW B μ s H x w) (e : dctOf w s = some ds) : NRd KFrag.w H (Av B μ s) x ds := by
  unfold dctOf at e
  split at e
  · rename_i n
    split at e
    · rename_i z
      split at e
      · rename_i hu
        cases e
        obtain ⟨a, rfl, ha⟩ := h
        obtain ⟨es, ea, kp⟩ := CellOk.un (r.cell n a _ ha z) hu
        exact ⟨a, es, rfl, .inl ea, kp⟩
      · cases e
    · cases e
  · split at e
    · rename_i hu
      cases e
      obtain ⟨a, o, es, rfl, ea, _, kp⟩ := FD.un h hu
      exact ⟨a, es, rfl, .inr ⟨o, ea⟩, kp⟩
    · cases e
  · cases e
theorem RW.data {B : Addr → Prop} {μ : List Addr} {s : CS} {H : Hp} {x : V} {d : D} (h : RW B μ s H x (.d d)) : Fz H (Av B μ s) x d := h
def fNewD (_ : En) (s : CS) : R W := .ok (.c s.length) (s ++ [.dct []])
def dNew1 (n : Nat) (u v : W) (s : CS) : R W := match u, v with
  | .d k, .d x => match s[n]? with
    | some (.dct []) => if keyOk k = true then .ok (.c n) (s.set n (.dct [(k, x)])) else .bad
    | _ => .bad
  | _, _ => .bad
def fNewD1 (f g : En → CS → R W) (ρ : En) (s : CS) : R W := (f ρ (s ++ [.dct []])).bind fun u s1 => (g ρ s1).bind fun v s2 => dNew1 s.length u v s2
def dGet (w u : W) (s : CS) : R W := match dctOf w s, u with
  | some ds, .d k => if keyOk k = true then (match lookD ds k with
    | some z => .ok (.d z) s
    | none => .bad) else .bad
  | _, _ => .bad
def fDGet (f g : En → CS → R W) (ρ : En) (s : CS) : R W := (f ρ s).bind fun w s => (g ρ s).bind fun u s => dGet w u s
def dIn (neg : Bool) (u w : W) (s : CS) : R W := match dctOf w s, u with
  | some ds, .d k => if keyOk k = true then .ok (.d (.bool (xor neg (lookD ds k).isSome))) s else .bad
  | _, _ => .bad
def fDIn (neg : Bool) (f g : En → CS → R W) (ρ : En) (s : CS) : R W := (f ρ s).bind fun u s => (g ρ s).bind fun w s => dIn neg u w s
def dPut (v w u : W) (s : CS) (ρ : En) : RT := match v, w, u with
  | .d x, .c n, .d k => match s[n]? with
    | some (.dct ds) => if keyOk k = true ∧ ds.length < line ∧ unm ds = true then .nx ρ (s.set n (.dct (putD ds k x))) else .bad
    | _ => .bad
  | _, _, _ => .bad
def gDPut (fv f g : En → CS → R W) (ρ : En) (s : CS) : RT := (fv ρ s).toT ρ fun v s => (f ρ s).toT ρ fun w s => (g ρ s).toT ρ fun u s => dPut v w u s ρ
def fFrzD (i : Nat) (ρ : En) (s : CS) : R W := match ρ[i]? with
  | some (some (.c n)) => match s[n]? with
    | some (.dct ds) => .ok (.fd ds) (s.set n .dead)
    | _ => .bad
  | some (some w) => .ok w s
  | _ => .bad
def keysW : W → CS → R (List D)
  | .fd ds, s => if unm ds = true then .ok (ds.map (·.1)) s else .bad
  | _, _ => .bad
def fItK (f : En → CS → R W) (ρ : En) (s : CS) : R (List D) := (f ρ s).bind keysW
section
variable {X : Cx} [HK X] {T : TX} {Wx : WXc} {e e2 e3 tg : Expr} {f g fv : En → CS → R W} {pos p2 : Pos}
theorem de_newD (hw : X.w = KFrag.w) : DE X T Wx (.Dict [] [] pos) fNewD := PE_imp pe_nnew fun σ H Q ⟨B, μ, s, ρ, r, e, q⟩ p hp => by
  obtain ⟨a, b⟩ := newCc (o := DObj X.w p []) (c := .dct []) r hp fun H' A' k e => .inl ⟨[], by rw [← hw]; exact e, .nil⟩
  refine q _ _ _ b a ⟨p, rfl, ?_⟩
  rw [← r.len]
  simp
theorem de_newD1 (hw : X.w = KFrag.w) (hu : X.A.units + 64 < cLine) (hf : DE X T Wx e f) (hg : DE X T Wx e2 g) : DE X T Wx (.Dict [some e] [e2] pos) (fNewD1 f g) := PE_imp (pe_nnew1 hu hf hg) fun σ H Q ⟨B, μ, s, ρ, r, er, q⟩ p hp => by
  obtain ⟨a, b⟩ := newCc (o := DObj X.w p []) (c := .dct []) r hp fun H' A' k e => .inl ⟨[], by rw [← hw]; exact e, .nil⟩
  have q : Fin T Wx B (μ ++ [p]) (s ++ [.dct []]) (upd H p (DObj X.w p [])) σ Q ((f ρ (s ++ [.dct []])).bind fun u s1 => (g ρ s1).bind fun v s2 => dNew1 s.length u v s2) := Fin.stp b q
  have hm : (μ ++ [p])[s.length]? = some p := by rw [← r.len]; simp
  refine tD_bind a (er.stp b) q fun u s1 x μ1 H1 st1 r1 e1 rel1 q1 => tD_bind r1 e1 q1 fun v s2 y μ2 H2 st2 r2 e2 rel2 q2 => ?_
  unfold dNew1 at q2
  split at q2
  · rename_i k z
    split at q2
    · rename_i hz
      split at q2
      · rename_i hk
        have hm2 : μ2[s.length]? = some p := by
          obtain ⟨t, rfl⟩ := (st1.trans st2).pre
          rw [List.getElem?_append_left (List.getElem?_eq_some_iff.mp hm).1]
          exact hm
        obtain ⟨es, ea, kp⟩ := CellOk.un (r2.cell _ p _ hm2 hz) rfl
        cases kp
        refine ⟨by rw [hw]; exact ea, Av B μ2 s2, k, z, RW.stp st2 rel1, hk, rel2, fun es' kp' => ?_⟩
        obtain ⟨a1, a2⟩ := putCc (o := DObj X.w p es') (c1 := .dct [(k, z)]) r2 hm2 hz (by simp) fun H' A' kk e => .inl ⟨es', by rw [← hw]; exact e, kp'.kp kk⟩
        exact q2 _ _ _ a2 a1 ⟨p, rfl, hm2⟩
      · exact q2.elim
    · exact q2.elim
  · exact q2.elim
theorem de_dget (hw : X.w = KFrag.w) (hu : X.A.units + 64 < cLine) (ha : DE X T Wx e f) (hb : DE X T Wx e2 g) (hs : NoSl e2 := by exact fun _ _ => rfl) : DE X T Wx (.Subscript e e2 pos) (fDGet f g) :=
  PE_imp (pe_nget hu ha hb hs) fun σ H Q ⟨B, μ, s, ρ, r, e, q⟩ => tD_bind r e q fun w s1 x μ1 H1 st1 r1 e1 rel1 q1 => tD_bind r1 e1 q1 fun u s2 y μ2 H2 st2 r2 e2 rel2 q2 => by
    have rel1 := RW.stp st2 rel1
    unfold dGet at q2
    split at q2
    · rename_i ds k hd
      split at q2
      · rename_i hk
        split at q2
        · rename_i z hz
          exact ⟨Av B μ2 s2, ds, k, z, by rw [hw]; exact dctOf_rd r2 rel1 hd, rel2, hk, hz, fun v fv => Fin.here (a := W) (w := .d z) q2 r2 fv⟩
        · exact q2.elim
      · exact q2.elim
    · exact q2.elim
theorem dIn_use (hw : X.w = KFrag.w) {neg : Bool} {σ : L2.St} {H : Hp} {Q : VK} (q : tD T Wx (fDIn neg f g) σ H Q) : tNIn neg X.w (tD T Wx f) (tD T Wx g) σ H Q := by
  obtain ⟨B, μ, s, ρ, r, e, q⟩ := q
  refine tD_bind r e q fun u s1 y μ1 H1 st1 r1 e1 rel1 q1 => tD_bind r1 e1 q1 fun w s2 x μ2 H2 st2 r2 e2 rel2 q2 => ?_
  unfold dIn at q2
  split at q2
  · rename_i ds k hd
    split at q2
    · rename_i hk
      exact ⟨Av B μ2 s2, ds, k, by rw [hw]; exact dctOf_rd r2 rel2 hd, RW.stp st2 rel1, hk, Fin.here (a := W) q2 r2 (Fz.bl _)⟩
    · exact q2.elim
  · exact q2.elim
theorem de_din (hw : X.w = KFrag.w) (hu : X.A.units + 64 < cLine) (ha : DE X T Wx e f) (hb : DE X T Wx e2 g) (hm : behindInMarks .In e2 = false := by first | exact nomark _ | rfl) : DE X T Wx (.Compare e [.In] [e2] pos) (fDIn false f g) :=
  PE_imp (pe_cmp (pc_nin hu ha hb) hm) fun _ _ _ => dIn_use hw
theorem de_dnin (hw : X.w = KFrag.w) (hu : X.A.units + 64 < cLine) (ha : DE X T Wx e f) (hb : DE X T Wx e2 g) (hm : behindInMarks .NotIn e2 = false := by first | exact nomark _ | rfl) : DE X T Wx (.Compare e [.NotIn] [e2] pos) (fDIn true f g) :=
  PE_imp (pe_cmp (pc_nnotin hu ha hb) hm) fun _ _ _ => dIn_use hw
theorem tB_imp {t t' : TE} (k : ∀ σ H Q, t' σ H Q → t σ H Q) {σ : L2.St} {H : Hp} {Q : Bool → Hp → Prop} (h : tB t' σ H Q) : tB t σ H Q := k _ _ _ h
theorem dt_din (hw : X.w = KFrag.w) (hu : X.A.units + 64 < cLine) (ha : DE X T Wx e f) (hb : DE X T Wx e2 g) (hm : behindInMarks .In e2 = false := by first | exact nomark _ | rfl) : DT X T Wx (.Compare e [.In] [e2] pos) (fB (fDIn false f g)) :=
  PT_imp (pt_cmp (pc_nin hu ha hb) hm) fun _ _ _ q => tB_imp (fun _ _ _ => dIn_use hw) (tB_use q)
theorem dt_dnin (hw : X.w = KFrag.w) (hu : X.A.units + 64 < cLine) (ha : DE X T Wx e f) (hb : DE X T Wx e2 g) (hm : behindInMarks .NotIn e2 = false := by first | exact nomark _ | rfl) : DT X T Wx (.Compare e [.NotIn] [e2] pos) (fB (fDIn true f g)) :=
  PT_imp (pt_cmp (pc_nnotin hu ha hb) hm) fun _ _ _ q => tB_imp (fun _ _ _ => dIn_use hw) (tB_use q)
theorem ds_dput (hw : X.w = KFrag.w) (hu : X.A.units + 64 < cLine) (hv : DE X T Wx e3 fv) (ha : DE X T Wx e f) (hb : DE X T Wx e2 g) (hs : swapsWith e3 (some (.Subscript e e2 p2)) pos.line X.env = pure false := by rfl) : DS X T Wx (.Assign [.Subscript e e2 p2] e3 pos) (gDPut fv f g) :=
  PS_imp (ps_nput hu ha hb hv hs) fun D σ H ⟨B, μ, s, ρ, r, e, q⟩ =>
  tD_bindT r e q fun v s1 x μ1 H1 st1 r1 e1 rel1 q1 => tD_bindT r1 e1 q1 fun w s2 y μ2 H2 st2 r2 e2 rel2 q2 => tD_bindT r2 e2 q2 fun u s3 z μ3 H3 st3 r3 e3 rel3 q3 => by
    unfold dPut at q3
    split at q3
    · rename_i x0 n k
      split at q3
      · rename_i ds hs
        split at q3
        · rename_i hk
          obtain ⟨a, ev, ha⟩ := RW.stp st3 rel2
          obtain ⟨es, ea, kp⟩ := CellOk.un (r3.cell n a _ ha hs) hk.2.2
          refine ⟨Av B μ3 s3, a, es, ds, k, x0, ev, by rw [hw]; exact ea, kp, rel3, hk.1, RW.stp (st2.trans st3) rel1, hk.2.1, fun es' kp' => ?_⟩
          obtain ⟨a1, a2⟩ := putCc (o := DObj X.w a es') (c1 := .dct (putD ds k x0)) r3 ha hs (by simp) fun H' A' kk e => .inl ⟨es', by rw [← hw]; exact e, kp'.kp kk⟩
          exact q3 σ _ _ a2 a1 (e3.stp a2)
        · exact q3.elim
      · exact q3.elim
    · exact q3.elim
theorem de_frzD {i : Nat} (h : PE X e (tVar i)) : DE X T Wx e (fFrzD i) := PE_imp (pe_lockV h) fun σ H Q ⟨B, μ, s, ρ, r, e, q⟩ => by
  unfold fFrzD at q
  cases z : ρ[i]? with
  | none => simp only [z] at q; exact q.elim
  | some o =>
    cases o with
    | none => simp only [z] at q; exact q.elim
    | some w =>
      obtain ⟨v, h1, h2⟩ := e.at_ i w z
      refine ⟨v, h1, ?_⟩
      cases w with
      | d x => simp only [z] at q; exact .inl (Fin.here q r h2)
      | sc ns => simp only [z] at q; exact .inl (Fin.here q r h2)
      | fd ns => simp only [z] at q; exact .inl (Fin.here q r h2)
      | rg ns ms => simp only [z] at q; exact .inl (Fin.here q r h2)
      | c n =>
        simp only [z] at q
        obtain ⟨a, ev, ha⟩ := h2
        subst ev
        split at q
        · rename_i ds hs
          have na : ¬ Av B μ (s.set n .dead) a := fun z => by
            rcases z with z | ⟨m, c, e1, e2, e3⟩
            · exact r.nb n a ha z
            · have hm : n = m := r.inj n m a ha e1
              subst hm
              rw [List.getElem?_set_self (List.getElem?_eq_some_iff.mp hs).1] at e2
              cases e2
              exact e3 rfl
          rcases r.cell n a _ ha hs with ⟨es, ea, kp⟩ | ⟨ks, t, et, ea, kp⟩
          · refine .inr ⟨a, _, rfl, ea, True.intro, fun od => ?_⟩
            obtain ⟨a1, a2⟩ := putCc (o := .frz od (DObj KFrag.w a es)) (c1 := .dead) r ha hs (by simp) fun H' A' kk e => trivial
            exact q _ _ _ a2 a1 (.inl ⟨a, od, es, rfl, upd_same, na, kp.kp a2.kp⟩)
          · refine .inr ⟨a, _, rfl, ea, True.intro, fun od => ?_⟩
            obtain ⟨a1, a2⟩ := putCc (o := .frz od (.dK ks)) (c1 := .dead) r ha hs (by simp) fun H' A' kk e => trivial
            exact q _ _ _ a2 a1 (.inr ⟨a, od, ks, t, et, rfl, upd_same, na, kp.kp a2.kp⟩)
        · exact q.elim
theorem KPs.get {H : Hp} {A : Addr → Prop} : ∀ {es : List (NestedKey × Addr × V)} {ds : List (D × D)} {i : Nat} {x : NestedKey × Addr × V}, KPs H A es ds → es[i]? = some x → ∃ y, ds[i]? = some y ∧ Fz H A (.ref x.2.1) y.1
  | _, _, _, _, .nil, e => by simp at e
  | _, _, 0, x, .cons _ _ f _ _, e => by simp at e; subst e; exact ⟨_, rfl, f⟩
  | _, _, i + 1, x, .cons _ _ _ _ t, e => by
    obtain ⟨y, h1, h2⟩ := KPs.get (i := i) (x := x) t (by simpa using e)
    exact ⟨y, by simpa using h1, h2⟩
theorem di_keys (hw : X.w = KFrag.w) (h : DE X T Wx e f) : DI X T Wx tg e (fItK f) := PI_imp (pi_n h) fun σ H Q ⟨B, μ, s, ρ, r, e, q⟩ =>
  tD_bind r e q fun w s1 v μ1 H1 st1 r1 e1 rel1 q1 => by
    unfold keysW at q1
    split at q1
    · rename_i ds
      split at q1
      case isFalse => exact q1.elim
      rename_i hu
      obtain ⟨a, o, es, ev, ea, na, kp⟩ := FD.un rel1 hu
      refine ⟨a, o, es, ev, by rw [hw]; exact ea, Fin.here (a := List D) q1 r1 ⟨fun H => H a = some (.frz o (DObj X.w a es)), fun i H x H' => H' = H ∧ ∃ e, es[i]? = some e ∧ x = .ref e.2.1, ?_, fun H' A' k bt => ?_, fun i H' A' v H'' k bt hi y => ?_⟩⟩
      · rw [List.length_map, ← kp.len]; exact walk_n
      · rw [hw]; exact k.keep _ _ ea na
      · obtain ⟨rfl, e, ee, rfl⟩ := y
        obtain ⟨d, d1, d2⟩ := (kp.kp k).get ee
        exact ⟨Same.refl _, d.1, by rw [List.getElem?_map, d1]; rfl, d2⟩
    · exact q1.elim
/-! a module's text -/
theorem de_gstr {x y : Str} {t : Tok} {pos : Pos} (hg : Gl X x) (hm : X.mg x = some (.str y t)) (hd : (x == ("__debug__" : Str)) = false := by decide) : DE X T Wx (.Name x pos) (fC (.str y)) :=
  de_const (v := .str y) (pe_glob hg hm (show ∃ t', Value.str y t = Value.str y t' from ⟨t, rfl⟩) hd) fun _ _ => .str y
end
end
end DL
namespace DL
open PySem PySem.Spec PyProof.Rows L2
open MeetsSeq MeetsSeq2 MeetsSeq3 SeqRoads2 SeqAt PySem.W
/-! ### t < u, where only what is ahead of the first difference need be alike -/
section
theorem ltFirst (la lb : Addr) (us ws : Array Value) (m m2 : Nat) (di di2 : Option Addr) (so so2 : Array (Option Value)) (q p : Nat → Bool) :
    Meets (Builtin.«tuple.__lt__» ⟨[.ref la, .ref lb], []⟩)
      (fun A R s => s.heap.get? la = some { cls := .type "tuple", dict := di, data := .seq us m, slots := so } ∧ s.heap.get? lb = some { cls := .type "tuple", dict := di2, data := .seq ws m2, slots := so2 } ∧
        (∀ j (h1 : j < us.size) (h2 : j < ws.size), EqAt A.in1 s us[j] ws[j] (q j)) ∧ (∀ j (h1 : j < us.size) (h2 : j < ws.size), (∀ i, i < j → q i = true) → q j = false → RcLt A.in1 s us[j] ws[j] (p j)) ∧
        R (.ok (.ret (.bool (firstLt q p (decide (us.size < ws.size)) (List.range (min us.size ws.size)))))) s) :=
  .of_wp fun prog w A R s H => by
    obtain ⟨h0, gg, dd, tt, oo⟩ := s; obtain ⟨ea, eb, hq, hp, hR⟩ := H
    have sub := AutoSeq1.sub_tuple_tuple
    have zl : (us.toList.zip ws.toList).length = min us.size ws.size := by simp
    wp_walk using wpAny_loadPart' ea, wpAny_loadPart' eb, wpAny_forIn_list _ (fun more acc s' => acc.1 = none ∧ s' = ⟨h0, gg, dd, tt, oo⟩ ∧ ∃ k, more = (us.toList.zip ws.toList).drop k ∧ (∀ i, i < k → q i = true) ∧
      R (.ok (.ret (.bool (firstLt q p (decide (us.size < ws.size)) ((List.range (min us.size ws.size)).drop k))))) ⟨h0, gg, dd, tt, oo⟩) _
    case turn =>
      rintro ⟨va, vb⟩ more acc s' ⟨z0, rfl, k, z1, z2, z3⟩
      have kl : k < (us.toList.zip ws.toList).length := by
        by_cases g : k < (us.toList.zip ws.toList).length
        · exact g
        · rw [List.drop_of_length_le (Nat.le_of_not_lt g)] at z1; cases z1
      have km : k < min us.size ws.size := by rw [← zl]; exact kl
      have k1 : k < us.size := by omega
      have k2 : k < ws.size := by omega
      rw [List.drop_eq_getElem_cons kl] at z1
      injection z1 with z4 z5
      obtain rfl : va = us[k] := by simpa using congrArg Prod.fst z4
      obtain rfl : vb = ws[k] := by simpa using congrArg Prod.snd z4
      rw [show (List.range (min us.size ws.size)).drop k = k :: (List.range (min us.size ws.size)).drop (k + 1) by simp [List.drop_eq_getElem_cons, km]] at z3
      refine wpAny_bind (hq k k1 k2 prog w _ _ ?_)
      cases qk : q k with
      | true =>
        rw [firstLt_yes qk] at z3
        wp_walk
        refine ⟨rfl, rfl, k + 1, z5, fun i hi => ?_, z3⟩
        by_cases ik : i = k
        · rw [ik]; exact qk
        · exact z2 i (by omega)
      | false =>
        rw [firstLt_no qk] at z3
        rw [if_pos (show (!false) = true from rfl)]
        refine wpAny_bind (wpAny_rule (wpAny_bind (hp k k1 k2 z2 qk prog w _ _ (wpAny_bind (wpAny_pure (wpAny_pure ?_))))))
        wp_walk
        exact ⟨_, rfl, z3⟩
    case fin =>
      rintro ⟨c1, c2⟩ s' ⟨z0, rfl, k, z1, z2, z3⟩
      obtain rfl : c1 = none := z0
      have kg : min us.size ws.size ≤ k := by
        by_cases g : k < (us.toList.zip ws.toList).length
        · rw [List.drop_eq_getElem_cons g] at z1; cases z1
        · rw [← zl]; omega
      rw [List.drop_of_length_le (by simpa using kg)] at z3
      wp_walk
      exact ⟨_, rfl, by simpa [Builtin.Tuple.tupleCompareSizes, firstLt] using z3⟩
    case h =>
      exact ⟨rfl, rfl, 0, rfl, (fun i hi => absurd hi (Nat.not_lt_zero i)), by simpa using hR⟩
theorem rcFirst {A : Around} {s : Shared} {la lb : Addr} {us ws : Array Value} {q p : Nat → Bool} (ha : s.heap.IsTuple la us) (hb : s.heap.IsTuple lb ws) (hu : A.units < cLine)
    (hq : ∀ j (h1 : j < us.size) (h2 : j < ws.size), EqAt A.in1 s us[j] ws[j] (q j)) (hp : ∀ j (h1 : j < us.size) (h2 : j < ws.size), (∀ i, i < j → q i = true) → q j = false → RcLt A.in1 s us[j] ws[j] (p j)) :
    RcLt A s (.ref la) (.ref lb) (firstLt q p (decide (us.size < ws.size)) (List.range (min us.size ws.size))) := fun prog w E Q h => by
  obtain ⟨⟨k1, d1, x1, s1⟩, g1, c1, n1, e1⟩ := id ha
  obtain ⟨⟨k2, d2, x2, s2⟩, g2, c2, n2, e2⟩ := id hb
  simp only at c1 e1 c2 e2
  subst c1 e1 c2 e2
  exact richCompare_meets_room (op := .Lt) ⟨_, g1, rfl⟩ ⟨_, g2, rfl⟩ F.slot_tuple_lt F.entry_tuple_lt (F.args_tuple_lt_2 _ _) (ltFirst la lb us ws n1 n2 d1 d2 s1 s2 q p)
    ⟨g1, g2, hq, hp, show Value.bool _ ≠ Value.notImplemented ∧ Q (.bool _) s from ⟨(fun z => nomatch z), h⟩⟩ hu
end
/-- numbers, truth values, texts, None and tuples of such, to a depth -/
def plD : Nat → D → Bool
  | _, .none => true
  | _, .bool _ => true
  | _, .int _ => true
  | _, .str _ => true
  | n + 1, .tuple xs => xs.all (plD n)
  | _, _ => false
theorem pl_all {n : Nat} (ih : ∀ d, plD n d = true → ∃ k, nkey d = some k ∧ k.depth ≤ n) : ∀ xs : List D, xs.all (plD n) = true → ∃ ks, nkeys xs = some ks ∧ NestedKey.depthAll ks ≤ n
  | [], _ => ⟨[], rfl, Nat.zero_le _⟩
  | x :: xs, h => by
    rw [List.all_cons, Bool.and_eq_true] at h
    obtain ⟨k, h1, h2⟩ := ih x h.1
    obtain ⟨ks, h3, h4⟩ := pl_all ih xs h.2
    exact ⟨k :: ks, by simp only [nkeys, h1, h3], by simp only [NestedKey.depthAll]; omega⟩
theorem pl_key : ∀ (n : Nat) (d : D), plD n d = true → ∃ k, nkey d = some k ∧ k.depth ≤ n
  | n, .none, _ => ⟨.none, rfl, Nat.zero_le _⟩
  | n, .bool b, _ => ⟨_, rfl, Nat.zero_le _⟩
  | n, .int i, _ => ⟨_, rfl, Nat.zero_le _⟩
  | n, .str x, _ => ⟨_, rfl, Nat.zero_le _⟩
  | 0, .tuple xs, h => by simp [plD] at h
  | n + 1, .tuple xs, h => by
    obtain ⟨ks, h1, h2⟩ := pl_all (pl_key n) xs (by simpa [plD] using h)
    exact ⟨.tup ks, by simp only [nkey, h1, Option.map_some], by simp only [NestedKey.depth]; omega⟩
  | n, .list xs, h => by cases n <;> simp [plD] at h
  | n, .dict xs, h => by cases n <;> simp [plD] at h
/-- t < u -/
def ltL (lt : D → D → Option Bool) : List D → List D → Option Bool
  | [], ys => some (!ys.isEmpty)
  | _ :: _, [] => some false
  | x :: xs, y :: ys => if eqF 8 x y = true then ltL lt xs ys else lt x y
def ltX : Nat → D → D → Option Bool
  | _, .int i, .int j => some (decide (i < j))
  | _, .str x, .str y => some (decide (x.cps.toList < y.cps.toList))
  | n + 1, .tuple xs, .tuple ys => ltL (ltX n) xs ys
  | _, _, _ => none
theorem firstLt_shift (q p : Nat → Bool) (fin : Bool) (n : Nat) : firstLt q p fin (List.range (n + 1)) = if q 0 = true then firstLt (fun j => q (j + 1)) (fun j => p (j + 1)) fin (List.range n) else p 0 := by
  rw [List.range_succ_eq_map]
  show (if q 0 = true then firstLt q p fin ((List.range n).map Nat.succ) else p 0) = _
  rw [show (List.range n).map Nat.succ = (List.range n).map (· + 1) from rfl, firstLt_map]
/-- the first difference, by positions -/
theorem ltL_first (lt : D → D → Option Bool) : ∀ (xs ys : List D) (k : Bool), ltL lt xs ys = some k →
    firstLt (fun j => PyData.eqv (xs.getD j .none) (ys.getD j .none)) (fun j => (lt (xs.getD j .none) (ys.getD j .none)).getD false) (decide (xs.length < ys.length)) (List.range (min xs.length ys.length)) = k ∧
    ∀ j, j < xs.length → j < ys.length → (∀ i, i < j → PyData.eqv (xs.getD i .none) (ys.getD i .none) = true) → PyData.eqv (xs.getD j .none) (ys.getD j .none) = false → ∃ b, lt (xs.getD j .none) (ys.getD j .none) = some b
  | [], ys, k, h => by
    unfold ltL at h
    cases h
    refine ⟨?_, fun j h => absurd h (Nat.not_lt_zero j)⟩
    cases ys <;> simp [firstLt]
  | x :: xs, [], k, h => by
    unfold ltL at h
    cases h
    exact ⟨by simp [firstLt], fun j _ h => absurd h (Nat.not_lt_zero j)⟩
  | x :: xs, y :: ys, k, h => by
    unfold ltL at h
    rw [eqF_eq] at h
    have em : min (x :: xs).length (y :: ys).length = min xs.length ys.length + 1 := by simp only [List.length_cons]; omega
    rw [em, firstLt_shift]
    simp only [List.getD_cons_zero, List.getD_cons_succ]
    split at h
    · rename_i e
      obtain ⟨i1, i2⟩ := ltL_first lt xs ys k h
      rw [if_pos e]
      refine ⟨by rw [← i1]; simp, fun j => ?_⟩
      cases j with
      | zero => intro _ _ _ z; simp only [List.getD_cons_zero] at z; rw [e] at z; cases z
      | succ j =>
        intro h1 h2 h3 h4
        simp only [List.getD_cons_succ] at h4 ⊢
        exact i2 j (by simpa using h1) (by simpa using h2) (fun i hi => by simpa using h3 (i + 1) (by omega)) h4
    · rename_i e
      rw [if_neg e, h]
      refine ⟨rfl, fun j => ?_⟩
      cases j with
      | zero => intro _ _ _ _; exact ⟨k, by simpa using h⟩
      | succ j =>
        intro h1 h2 h3 h4
        have := h3 0 (by omega)
        simp only [List.getD_cons_zero] at this
        exact absurd this e
section
variable [KFrag] {P : Program} {w : World} {H : Hp} {s : Shared} {A : Addr → Prop}
theorem Fzs.get2 {xs : List V} {ds : List D} {us : List Value} (f : Fzs H A xs ds) (r : Vals xs us) {j : Nat} (h : j < us.length) : ∃ v, Fz H A v (ds.getD j .none) ∧ RelV v us[j] ∧ ds.getD j .none ∈ ds := by
  have h1 : j < xs.length := by rw [r.length]; exact h
  obtain ⟨d, e1, e2⟩ := f.getV (List.getElem?_eq_getElem h1)
  have e3 : ds.getD j .none = d := by rw [List.getD_eq_getElem?_getD, e1]; rfl
  rw [e3]
  obtain ⟨u, e4, e5⟩ := r.get (List.getElem?_eq_getElem h1)
  have e6 : us[j] = u := by
    have := List.getElem?_eq_getElem h
    rw [this] at e4
    exact Option.some.inj e4
  rw [e6]
  exact ⟨_, e2, e5, List.mem_of_getElem? e1⟩
theorem rcLtX (ok : HOk P w H s.heap) (ki : KFrag.K.In s.heap) : ∀ (n : Nat) (da db : D) (B : Around) (x y : V) (a b : Value) (k : Bool), Fz H A x da → Fz H A y db → RelV x a → RelV y b → plD n da = true → plD n db = true → ltX n da db = some k → B.units + 2 * n + 1 < cLine → RcLt B s a b k := by
  intro n
  induction n with
  | zero =>
    intro da db B x y a b k fa fb ra rb pa pb h hu
    cases fa <;> cases fb <;> first | (simp [ltX] at h; done) | skip
    · rename_i i j
      obtain ⟨t, rfl⟩ := (show ∃ t, a = Value.int i t from ra)
      obtain ⟨t2, rfl⟩ := (show ∃ t, b = Value.int j t from rb)
      simp only [ltX] at h
      cases h
      rw [← dataLt_int]
      exact rcLt_alike _ _ B s _ _ [] [] (.int i t) (.int j t2) rfl (by simp) (by simp [PyData.depth]; omega)
    · rename_i i j
      obtain ⟨t, rfl⟩ := (show ∃ t, a = Value.str i t from ra)
      obtain ⟨t2, rfl⟩ := (show ∃ t, b = Value.str j t from rb)
      simp only [ltX] at h
      cases h
      rw [← dataLt_str]
      exact rcLt_alike _ _ B s _ _ [] [] (.str i t) (.str j t2) rfl (by simp) (by simp [PyData.depth]; omega)
    all_goals simp [plD] at pa
  | succ n ih =>
    intro da db B x y a b k fa fb ra rb pa pb h hu
    cases fa with
    | int i =>
      cases fb with
      | int j =>
        obtain ⟨t, rfl⟩ := (show ∃ t, a = Value.int i t from ra)
        obtain ⟨t2, rfl⟩ := (show ∃ t, b = Value.int j t from rb)
        simp only [ltX] at h
        cases h
        rw [← dataLt_int]
        exact rcLt_alike _ _ B s _ _ [] [] (.int i t) (.int j t2) rfl (by simp) (by simp [PyData.depth]; omega)
      | _ => simp [ltX] at h
    | str i =>
      cases fb with
      | str j =>
        obtain ⟨t, rfl⟩ := (show ∃ t, a = Value.str i t from ra)
        obtain ⟨t2, rfl⟩ := (show ∃ t, b = Value.str j t from rb)
        simp only [ltX] at h
        cases h
        rw [← dataLt_str]
        exact rcLt_alike _ _ B s _ _ [] [] (.str i t) (.str j t2) rfl (by simp) (by simp [PyData.depth]; omega)
      | _ => simp [ltX] at h
    | @tup a1 xs ds f1 t1 =>
      cases fb with
      | @tup a2 ys es f2 t2 =>
        cases (show a = Value.ref a1 from ra)
        cases (show b = Value.ref a2 from rb)
        simp only [ltX] at h
        obtain ⟨us, v1, o1, n1, g1, c1, e1⟩ := f1.at_ ok ki
        obtain ⟨ws, v2, o2, n2, g2, c2, e2⟩ := f2.at_ ok ki
        obtain ⟨h1, h2⟩ := ltL_first _ ds es k h
        have l1 : us.length = ds.length := v1.length.symm.trans t1.len
        have l2 : ws.length = es.length := v2.length.symm.trans t2.len
        have qa : ∀ d ∈ ds, plD n d = true := by have := pa; simpa [plD] using this
        have qb : ∀ d ∈ es, plD n d = true := by have := pb; simpa [plD] using this
        have q := rcFirst (A := B) (s := s) (la := a1) (lb := a2) (us := us.toArray) (ws := ws.toArray) (q := fun j => PyData.eqv (ds.getD j .none) (es.getD j .none)) (p := fun j => (ltX n (ds.getD j .none) (es.getD j .none)).getD false)
          ⟨o1, g1, c1, n1, e1⟩ ⟨o2, g2, c2, n2, e2⟩ (by omega) (fun j j1 j2 => ?_) (fun j j1 j2 z1 z2 => ?_)
        · have e : firstLt (fun j => PyData.eqv (ds.getD j .none) (es.getD j .none)) (fun j => (ltX n (ds.getD j .none) (es.getD j .none)).getD false) (decide (us.toArray.size < ws.toArray.size)) (List.range (min us.toArray.size ws.toArray.size)) = k := by
            rw [← h1]
            simp only [List.size_toArray, l1, l2]
          rw [e] at q
          exact q
        · have j1' : j < us.length := by simpa using j1
          have j2' : j < ws.length := by simpa using j2
          obtain ⟨v, r1, r2, r3⟩ := t1.get2 v1 j1'
          obtain ⟨u, r4, r5, r6⟩ := t2.get2 v2 j2'
          obtain ⟨k1, p1, p2⟩ := pl_key n _ (qa _ r3)
          obtain ⟨k2, p3, p4⟩ := pl_key n _ (qb _ r6)
          show EqAt B.in1 s us[j] ws[j] _
          rw [eqv_key p1 p3]
          refine eqAt_key k1 k2 B.in1 s _ _ (nkey_is ok ki r1 r2 p1) (nkey_is ok ki r4 r5 p3) ?_
          show B.units + 1 + min k1.depth k2.depth < cLine
          omega
        · have j1' : j < us.length := by simpa using j1
          have j2' : j < ws.length := by simpa using j2
          obtain ⟨v, r1, r2, r3⟩ := t1.get2 v1 j1'
          obtain ⟨u, r4, r5, r6⟩ := t2.get2 v2 j2'
          obtain ⟨c, hc⟩ := h2 j (by omega) (by omega) z1 z2
          show RcLt B.in1 s us[j] ws[j] _
          rw [hc]
          refine ih _ _ B.in1 v u _ _ c r1 r4 r2 r5 (qa _ r3) (qb _ r6) hc ?_
          show B.units + 1 + 2 * n + 1 < cLine
          omega
      | _ => simp [ltX] at h
    | _ => cases fb <;> simp [ltX] at h
end
end DL
namespace DL
open PySem PySem.Spec PyProof.Rows L2
/-! ### heappush, heappop -/
theorem ent_sift : entryFor table "_heapq.heapify.sift" = some Builtin.«_heapq.heapify.sift» := entryFor_of_fast (by kernel_rfl)
theorem ent_push : entryFor table "_heapq.heappush" = some Builtin.«_heapq.heappush» := entryFor_of_fast (by kernel_rfl)
theorem ent_pop : entryFor table "_heapq.heappop" = some Builtin.«_heapq.heappop» := entryFor_of_fast (by kernel_rfl)
theorem pl_sift : plainId "_heapq.heapify.sift" = true := by decide +kernel
theorem pl_push : plainId "_heapq.heappush" = true := by decide +kernel
theorem pl_pop : plainId "_heapq.heappop" = true := by decide +kernel
theorem kd_push : builtinKind "_heapq.heappush" = none := by decide +kernel
theorem kd_pop : builtinKind "_heapq.heappop" = none := by decide +kernel
theorem ar_push (a b : Value) : argsOk "_heapq.heappush" ⟨[a, b], []⟩ := by unfold argsOk; kernel_rfl
theorem ar_pop (a : Value) : argsOk "_heapq.heappop" ⟨[a], []⟩ := by unfold argsOk; kernel_rfl
/-- two items change places -/
def swp {α : Type} (i j : Nat) (xs : List α) : List α := match xs[i]?, xs[j]? with
  | some x, some y => (xs.set i y).set j x
  | _, _ => xs
/-- is the item at i less than that at j -/
def hLt (ds : List D) (i j : Nat) : Option Bool := match ds[i]?, ds[j]? with
  | some x, some y => if plD 8 x = true then (if plD 8 y = true then ltX 8 x y else none) else none
  | _, _ => none
def hUp : Nat → List D → Nat → Option (List D)
  | 0, _, _ => none
  | n + 1, ds, pos => if pos = 0 then some ds else match hLt ds pos ((pos - 1) / 2) with
    | some true => hUp n (swp ((pos - 1) / 2) pos ds) ((pos - 1) / 2)
    | some false => some ds
    | none => none
def hDown : Nat → List D → Nat → Option (List D)
  | 0, _, _ => none
  | n + 1, ds, pos => if pos < ds.length / 2 then (if 2 * pos + 1 + 1 < ds.length then (match hLt ds (2 * pos + 1) (2 * pos + 1 + 1) with
      | some true => hDown n (swp (2 * pos + 1) pos ds) (2 * pos + 1)
      | some false => hDown n (swp (2 * pos + 1 + 1) pos ds) (2 * pos + 1 + 1)
      | none => none) else hDown n (swp (2 * pos + 1) pos ds) (2 * pos + 1)) else hUp (n + 1) ds pos
theorem swp_len {α : Type} (i j : Nat) (xs : List α) : (swp i j xs).length = xs.length := by
  unfold swp
  split <;> simp
def itM (a : Addr) : Sem (Array Value) := do
  let some us ← seqItems? (.ref a)
    | unsupported "internal:_heapq"
  return us
def atM (us : Array Value) (i : Nat) : Sem Value := match us[i]? with
  | some u => pure u
  | none => unsupported "internal:_heapq.index"
def swM (a : Addr) (i j : Nat) : Sem Unit := itM a >>= fun us => atM us i >>= fun u => atM us j >>= fun v => updateSeq a fun zs => (zs.setIfInBounds i v).setIfInBounds j u
section
variable {M : Model} {B : Around} {E : Value → Shared → Prop} {s : Shared}
theorem it_wp {a : Addr} {o : Obj} {us : Array Value} {n : Nat} {Q : Array Value → Shared → Prop} (ho : s.heap.get? a = some o) (hd : o.data = .seq us n) (h : Q us s) : wpAny M B (itM a) Q E s := wpAny_bind (wpAny_seqItems ho hd (wpAny_pure h))
theorem at_wp {us : Array Value} {i : Nat} {v : Value} {Q : Value → Shared → Prop} (h : us[i]? = some v) (q : Q v s) : wpAny M B (atM us i) Q E s := by
  unfold atM
  rw [h]
  exact wpAny_pure q
end
section
variable [KFrag] {X : Cx} [HK X] {pins : List (Addr × Obj)} {σ : L2.St} {H : Hp} {s : Shared} {B : Around} {E : Value → Shared → Prop} {A : Addr → Prop} {a : Addr} {xs : List V} {ds : List D}
theorem lst_at (I : Inv X pins σ H s) (e : H a = some (.lst xs)) : xs.length ≤ sizeLine ∧ ∃ (us : List Value) (n : Nat), Vals xs us ∧ s.heap.get? a = some { cls := .type "list", data := .seq us.toArray n } := I.hok a _ e
theorem upd_id {o : HO} (e : H a = some o) : upd H a o = H := by
  funext b
  by_cases h : b = a
  · rw [h, upd_same, e]
  · rw [upd_ne h]
theorem Vals.set {v : V} {u : Value} (r : RelV v u) : ∀ {vs : List V} {us : List Value} (j : Nat), Vals vs us → Vals (vs.set j v) (us.set j u)
  | _, _, _, .nil => .nil
  | _, _, 0, .cons _ t => .cons r t
  | _, _, j + 1, .cons h t => .cons h (Vals.set r j t)
theorem vals_at {us : List Value} (r : Vals xs us) {i : Nat} {x : V} (h : xs[i]? = some x) : ∃ u, us[i]? = some u ∧ RelV x u := r.get h
/-- the list's object is written -/
theorem lst_write {us : List Value} {n : Nat} {ys : List V} {ws : List Value} {f : Array Value → Array Value} (I : Inv X pins σ H s) (e : H a = some (.lst xs)) (ho : s.heap.get? a = some { cls := .type "list", data := .seq us.toArray n })
    (hf : f us.toArray = ws.toArray) (r : Vals ys ws) (hl : ys.length ≤ sizeLine) : Inv X pins σ (upd H a (.lst ys)) { s with heap := s.heap.update a (Obj.mapSeq f) } := by
  have g := Heap.get?_update_self (Obj.mapSeq f) ho rfl
  exact d_write (t' := s.toks) I (by rw [e]; exact True.intro) (Heap.SameBut.update s.heap a _) ⟨_, g⟩ ⟨hl, ws, (if (f us.toArray).size == us.toArray.size then n else n + 1), r, by rw [g, ← hf]; rfl⟩
theorem kp_updA {A : Addr → Prop} {a : Addr} {o : HO} (h : A a) : Kp H (upd H a o) A A :=
  ⟨fun a x e n => by rw [upd_ne (fun z => n (by rw [z]; exact h))]; exact e, fun _ _ _ n => n⟩
theorem fzs_set {A : Addr → Prop} {v : V} {x : D} (h : Fz H A v x) : ∀ {vs : List V} {ds : List D} (j : Nat), Fzs H A vs ds → Fzs H A (vs.set j v) (ds.set j x)
  | _, _, _, .nil => .nil
  | _, _, 0, .cons _ t => .cons h t
  | _, _, j + 1, .cons a t => .cons a (fzs_set h j t)
theorem fz_up {o : HO} {A : Addr → Prop} (hA : A a) {vs : List V} {es : List D} (f : Fzs H A vs es) : Fzs (upd H a o) A vs es := f.kp (kp_updA hA)
theorem Fzs.setD {v : V} {d : D} (h : Fz H A v d) {vs : List V} {es : List D} (j : Nat) (f : Fzs H A vs es) : Fzs H A (vs.set j v) (es.set j d) := fzs_set h j f
theorem sw_wp {i j : Nat} {Q : Unit → Shared → Prop} (I : Inv X pins σ H s) (e : H a = some (.lst xs)) (hA : A a) (f : Fzs H A xs ds) (hi : i < ds.length) (hj : j < ds.length)
    (h : ∀ ys s', Inv X pins σ (upd H a (.lst ys)) s' → Fzs (upd H a (.lst ys)) A ys (swp i j ds) → Q () s') : wpAny (model X.prog X.w) B (swM a i j) Q E s := by
  obtain ⟨hl, us, n, r, ho⟩ := lst_at I e
  have li : i < xs.length := by rw [f.len]; exact hi
  have lj : j < xs.length := by rw [f.len]; exact hj
  obtain ⟨u, u1, u2⟩ := vals_at r (List.getElem?_eq_getElem li)
  obtain ⟨v, v1, v2⟩ := vals_at r (List.getElem?_eq_getElem lj)
  obtain ⟨d, d1, d2⟩ := f.getV (List.getElem?_eq_getElem li)
  obtain ⟨g, g1, g2⟩ := f.getV (List.getElem?_eq_getElem lj)
  refine wpAny_bind (it_wp ho rfl (wpAny_bind (at_wp (v := u) (by simpa using u1) (wpAny_bind (at_wp (v := v) (by simpa using v1) ?_)))))
  have hs : swp i j ds = (ds.set i g).set j d := by unfold swp; rw [d1, g1]
  have fin := lst_write (f := fun zs => (zs.setIfInBounds i v).setIfInBounds j u) (ys := (xs.set i xs[j]).set j xs[i]) (ws := (us.set i v).set j u) I e ho (by simp) (Vals.set u2 j (Vals.set v2 i r)) (by simpa using hl)
  refine wpAny_updateSeq ho rfl (h _ _ fin ?_) (by rw [List.size_toArray, ← r.length]; exact hl) (by simp only [Array.size_setIfInBounds, List.size_toArray]; rw [← r.length]; omega)
  rw [hs]
  exact fz_up hA (Fzs.setD d2 j (Fzs.setD g2 i f))
/-- the items at i and j are compared -/
theorem lt_at {k : Bool} {us : List Value} {i j : Nat} (hu : B.units + 40 < cLine) (I : Inv X pins σ H s) (r : Vals xs us) (f : Fzs H A xs ds) (h : hLt ds i j = some k) : ∃ u v, us.toArray[i]? = some u ∧ us.toArray[j]? = some v ∧ SeqAt.RcLt B s u v k := by
  unfold hLt at h
  split at h
  · rename_i d g d1 g1
    split at h
    · rename_i p1
      split at h
      · rename_i p2
        obtain ⟨x, x1, x2⟩ := f.get d1
        obtain ⟨y, y1, y2⟩ := f.get g1
        obtain ⟨u, u1, u2⟩ := vals_at r x1
        obtain ⟨v, v1, v2⟩ := vals_at r y1
        exact ⟨u, v, by simpa using u1, by simpa using v1, rcLtX I.hok (kin I) 8 d g B x y u v k x2 y2 u2 v2 p1 p2 h (by omega)⟩
      · cases h
    · cases h
  · cases h
theorem hLt_lt {k : Bool} {i j : Nat} (h : hLt ds i j = some k) : i < ds.length ∧ j < ds.length := by
  unfold hLt at h
  split at h
  · rename_i d1 g1
    exact ⟨(List.getElem?_eq_some_iff.mp d1).1, (List.getElem?_eq_some_iff.mp g1).1⟩
  · cases h
theorem up_wp {R : Result → Shared → Prop} {res : Value} (hu : B.units + 41 < cLine) (hA : A a) : ∀ (n : Nat) (ds ds' : List D) (pos : Nat) (xs : List V) (H : Hp) (s : Shared), Inv X pins σ H s → H a = some (.lst xs) → Fzs H A xs ds → hUp n ds pos = some ds' →
    (∀ ys s', Inv X pins σ (upd H a (.lst ys)) s' → Fzs (upd H a (.lst ys)) A ys ds' → R (.ok (.ret res)) s') →
    codeAny (model X.prog X.w) B (.builtin "_heapq.heapify.sift" ⟨[.ref a, .bool false, .bool false, .int pos 0, .int 0 0, res, .int (-1) 0], []⟩) R s := by
  intro n
  induction n with
  | zero => intro ds ds' pos xs H s I e f h; cases h
  | succ n ih =>
    intro ds ds' pos xs H s I e f h hR
    obtain ⟨hl, us, m, r, ho⟩ := lst_at I e
    refine codeAny_builtin ent_sift ?_
    rw [Around.under_plainId pl_sift _]
    unfold Builtin.«_heapq.heapify.sift»
    dsimp only
    refine wpAny_bind ?_
    show wpAny _ _ (itM a) _ _ _
    refine it_wp ho rfl ?_
    rw [if_neg Bool.false_ne_true]
    unfold hUp at h
    by_cases hp : pos = 0
    · rw [if_pos hp] at h
      cases h
      subst hp
      rw [if_neg (by simp), if_pos (by decide)]
      refine wpAny_pure ?_
      exact hR xs s (by rw [upd_id e]; exact I) (by rw [upd_id e]; exact f)
    · rw [if_neg hp] at h
      rw [if_pos (show (pos : Int).toNat > (0 : Int).toNat by simp only [Int.toNat_natCast, Int.toNat_zero]; omega)]
      simp only [Int.toNat_natCast]
      cases hk : hLt ds pos ((pos - 1) / 2) with
      | none => rw [hk] at h; cases h
      | some k =>
        obtain ⟨u, v, u1, v1, rc⟩ := lt_at (B := B.in1) (by show B.units + 1 + 40 < cLine; omega) I r f hk
        refine wpAny_bind ?_
        show wpAny _ _ (atM us.toArray pos) _ _ _
        refine at_wp u1 (wpAny_bind ?_)
        show wpAny _ _ (atM us.toArray ((pos - 1) / 2)) _ _ _
        refine at_wp v1 ?_
        rw [if_neg Bool.false_ne_true]
        refine wpAny_bind ?_
        show wpAny _ _ (holding [u, v] _ >>= _) _ _ _
        refine wpAny_bind (wpAny_holding (wpAny_bind (rc X.prog X.w _ _ ?_)))
        show wpAny _ _ (truthy (.bool k)) _ _ _
        refine wpAny_truthy_bool ?_
        refine wpAny_bind ?_
        show wpAny _ _ (itM a) _ _ _
        refine it_wp ho rfl ?_
        rw [if_neg (by simp)]
        refine wpAny_pure ?_
        rw [hk] at h
        obtain ⟨l1, l2⟩ := hLt_lt hk
        cases k with
        | false =>
          cases h
          rw [if_neg Bool.false_ne_true, if_pos (by decide)]
          refine wpAny_pure ?_
          exact hR xs s (by rw [upd_id e]; exact I) (by rw [upd_id e]; exact f)
        | true =>
          rw [if_pos rfl]
          refine wpAny_bind ?_
          show wpAny _ _ (swM a ((pos - 1) / 2) pos) _ _ _
          refine sw_wp I e hA f l2 l1 fun ys s' I' f' => wpAny_pure ⟨plainId_quiet pl_sift _, ?_⟩
          refine ih _ ds' _ ys _ s' I' upd_same f' h fun zs s2 I2 f2 => ?_
          rw [upd_upd] at I2 f2
          exact hR zs s2 I2 f2
theorem down_wp {R : Result → Shared → Prop} {res : Value} (hu : B.units + 41 < cLine) (hA : A a) : ∀ (n : Nat) (ds ds' : List D) (pos : Nat) (xs : List V) (H : Hp) (s : Shared), Inv X pins σ H s → H a = some (.lst xs) → Fzs H A xs ds → hDown n ds pos = some ds' →
    (∀ ys s', Inv X pins σ (upd H a (.lst ys)) s' → Fzs (upd H a (.lst ys)) A ys ds' → R (.ok (.ret res)) s') →
    codeAny (model X.prog X.w) B (.builtin "_heapq.heapify.sift" ⟨[.ref a, .bool false, .bool true, .int pos 0, .int 0 0, res, .int (-1) 0], []⟩) R s := by
  intro n
  induction n with
  | zero => intro ds ds' pos xs H s I e f h; cases h
  | succ n ih =>
    intro ds ds' pos xs H s I e f h hR
    obtain ⟨hl, us, m, r, ho⟩ := lst_at I e
    have lu : us.toArray.size = ds.length := by rw [List.size_toArray, ← r.length]; exact f.len
    refine codeAny_builtin ent_sift ?_
    rw [Around.under_plainId pl_sift _]
    unfold Builtin.«_heapq.heapify.sift»
    dsimp only
    refine wpAny_bind ?_
    show wpAny _ _ (itM a) _ _ _
    refine it_wp ho rfl ?_
    rw [if_pos rfl]
    simp only [Int.toNat_natCast, lu]
    unfold hDown at h
    by_cases hp : pos < ds.length / 2
    · rw [if_pos hp] at h ⊢
      by_cases hq : 2 * pos + 1 + 1 < ds.length
      · rw [if_pos hq] at h ⊢
        cases hk : hLt ds (2 * pos + 1) (2 * pos + 1 + 1) with
        | none => rw [hk] at h; cases h
        | some k =>
          obtain ⟨u, v, u1, v1, rc⟩ := lt_at (B := B.in1) (by show B.units + 1 + 40 < cLine; omega) I r f hk
          refine wpAny_bind ?_
          show wpAny _ _ (atM us.toArray (2 * pos + 1)) _ _ _
          refine at_wp u1 (wpAny_bind ?_)
          show wpAny _ _ (atM us.toArray (2 * pos + 1 + 1)) _ _ _
          refine at_wp v1 ?_
          rw [if_neg Bool.false_ne_true]
          refine wpAny_bind ?_
          show wpAny _ _ (holding [u, v] _ >>= _) _ _ _
          refine wpAny_bind (wpAny_holding (wpAny_bind (rc X.prog X.w _ _ ?_)))
          show wpAny _ _ (truthy (.bool k)) _ _ _
          refine wpAny_truthy_bool ?_
          refine wpAny_bind ?_
          show wpAny _ _ (itM a) _ _ _
          refine it_wp ho rfl ?_
          rw [if_neg (by simp [lu])]
          refine wpAny_pure ?_
          rw [hk] at h
          obtain ⟨l1, l2⟩ := hLt_lt hk
          have l3 : pos < ds.length := by omega
          cases k with
          | true =>
            rw [if_neg (by simp)]
            refine wpAny_bind ?_
            show wpAny _ _ (swM a (2 * pos + 1) pos) _ _ _
            refine sw_wp I e hA f l1 l3 fun ys s' I' f' => wpAny_pure ⟨plainId_quiet pl_sift _, ?_⟩
            refine ih _ ds' _ ys _ s' I' upd_same f' h fun zs s2 I2 f2 => ?_
            rw [upd_upd] at I2 f2
            exact hR zs s2 I2 f2
          | false =>
            rw [if_pos (by simp)]
            refine wpAny_bind ?_
            show wpAny _ _ (swM a (2 * pos + 1 + 1) pos) _ _ _
            refine sw_wp I e hA f l2 l3 fun ys s' I' f' => wpAny_pure ⟨plainId_quiet pl_sift _, ?_⟩
            refine ih _ ds' _ ys _ s' I' upd_same f' h fun zs s2 I2 f2 => ?_
            rw [upd_upd] at I2 f2
            exact hR zs s2 I2 f2
      · rw [if_neg hq] at h ⊢
        refine wpAny_bind ?_
        show wpAny _ _ (swM a (2 * pos + 1) pos) _ _ _
        refine sw_wp I e hA f (by omega) (by omega) fun ys s' I' f' => wpAny_pure ⟨plainId_quiet pl_sift _, ?_⟩
        refine ih _ ds' _ ys _ s' I' upd_same f' h fun zs s2 I2 f2 => ?_
        rw [upd_upd] at I2 f2
        exact hR zs s2 I2 f2
    · rw [if_neg hp] at h ⊢
      exact wpAny_pure ⟨plainId_quiet pl_sift _, up_wp hu hA (n + 1) ds ds' pos xs H s I e f h hR⟩
theorem kp_dn {A : Addr → Prop} {a : Addr} {o : HO} (h : A a) : Kp (upd H a o) H A A :=
  ⟨fun b x e n => by rw [upd_ne (fun z => n (by rw [z]; exact h))] at e; exact e, fun _ _ _ n => n⟩
theorem sub_list : isSubtype (.type "list") (.type "list") = pure true := by rfl
theorem push_wp {x : V} {u : Value} {d : D} {ds' : List D} {Q : Value → Shared → Prop} (hu : B.units + 60 < cLine) (I : Inv X pins σ H s) (e : H a = some (.lst xs)) (hA : A a) (f : Fzs H A xs ds) (fx : Fz H A x d) (rx : RelV x u) (hl : ds.length < line)
    (h : hUp 64 (ds ++ [d]) ds.length = some ds') (hQ : ∀ ys s', Inv X pins σ (upd H a (.lst ys)) s' → Fzs H A ys ds' → Q .none s') : wpAny (model X.prog X.w) B (call (.builtin "_heapq.heappush") [.ref a, u]) Q E s := by
  unfold line at hl
  obtain ⟨_, us, m, r, ho⟩ := lst_at I e
  have lu : us.length = ds.length := r.length.symm.trans f.len
  have ht : s.TypeIs (.ref a) "list" := ⟨_, ho, rfl⟩
  refine call_function_tree kd_push pl_push ent_push (ar_push _ _) ?_
  unfold Builtin.«_heapq.heappush»
  refine wpAny_bind ?_
  refine wpAny_bind (wpAny_pure ?_)
  refine wpAny_bind (m := checkCount "heappush" 2 2 _) (wpAny_pure ?_)
  refine wpAny_bind ?_
  refine wpAny_bind (wpAny_isInstance ht sub_list ?_)
  rw [if_pos rfl]
  refine wpAny_pure (wpAny_pure ?_)
  dsimp only
  refine wpAny_bind (wpAny_updateSeq ho rfl ?_ (by rw [sizeLine_eq, List.size_toArray]; omega) (by simp only [Array.size_push, List.size_toArray]; rw [sizeLine_eq]; omega))
  have I2 := lst_write (f := fun zs => zs.push u) (ys := xs ++ [x]) (ws := us ++ [u]) I e ho (by simp) (r.append (.cons rx .nil)) (by rw [sizeLine_eq, List.length_append, f.len]; simp; omega)
  obtain ⟨_, us2, m2, r2, ho2⟩ := lst_at I2 upd_same
  refine wpAny_bind ?_
  show wpAny _ _ (itM a) _ _ _
  refine it_wp ho2 rfl ?_
  have hp : us2.toArray.size - 1 = ds.length := by
    have := r2.length
    rw [List.length_append, f.len] at this
    rw [List.size_toArray]
    simp at this
    omega
  rw [hp]
  refine wpAny_pure ⟨plainId_quiet pl_sift _, ?_⟩
  refine up_wp (res := .none) (by omega) hA 64 (ds ++ [d]) ds' ds.length (xs ++ [x]) _ _ I2 upd_same (fz_up hA (f.app (.cons fx .nil))) h fun ys s' I3 f3 => ?_
  rw [upd_upd] at I3 f3
  exact hQ ys s' I3 (f3.kp (kp_dn hA))
def hPop : List D → Option (D × List D)
  | [] => none
  | d :: r => if r.isEmpty = true then some (d, []) else match hDown 64 ((d :: r).dropLast.set 0 (r.getLast?.getD d)) 0 with
    | some es => some (d, es)
    | none => none
theorem Vals.dropLast {vs : List V} {us : List Value} (r : Vals vs us) : Vals vs.dropLast us.dropLast := by
  rw [List.dropLast_eq_take, List.dropLast_eq_take, r.length]
  exact r.take _
theorem pop_wp {d : D} {ds' : List D} {Q : Value → Shared → Prop} (hu : B.units + 60 < cLine) (I : Inv X pins σ H s) (e : H a = some (.lst xs)) (hA : A a) (f : Fzs H A xs ds) (h : hPop ds = some (d, ds'))
    (hQ : ∀ v u ys s', Inv X pins σ (upd H a (.lst ys)) s' → Fzs H A ys ds' → Fz H A v d → RelV v u → Q u s') : wpAny (model X.prog X.w) B (call (.builtin "_heapq.heappop") [.ref a]) Q E s := by
  obtain ⟨hl, us, m, r, ho⟩ := lst_at I e
  have lu : us.length = ds.length := r.length.symm.trans f.len
  have ht : s.TypeIs (.ref a) "list" := ⟨_, ho, rfl⟩
  refine call_function_tree kd_pop pl_pop ent_pop (ar_pop _) ?_
  unfold Builtin.«_heapq.heappop»
  show wpAny _ _ (_ >>= _) _ _ _
  refine wpAny_bind ?_
  refine wpAny_bind (wpAny_pure ?_)
  refine wpAny_bind ?_
  refine wpAny_bind (wpAny_isInstance ht sub_list ?_)
  rw [if_pos rfl]
  refine wpAny_pure (wpAny_pure ?_)
  dsimp only
  refine wpAny_bind ?_
  show wpAny _ _ (itM a) _ _ _
  refine it_wp ho rfl ?_
  have hsz : us.length ≤ sizeLine := by rw [← r.length]; exact hl
  obtain ⟨d0, er, rfl⟩ : ∃ d0 er, ds = d0 :: er := by
    cases ds with
    | nil => cases h
    | cons d0 er => exact ⟨_, _, rfl⟩
  unfold hPop at h
  by_cases hz : er = []
  · subst hz
    cases h
    cases f with
    | @cons v vs _ _ f1 f2 =>
    cases f2
    cases r with
    | @cons _ u _ us' r1 r2 =>
    cases r2
    show wpAny _ _ (_ >>= _) _ _ _
    refine wpAny_bind (wpAny_updateSeq ho rfl ?_ (by simp only [List.size_toArray]; exact hsz) (by simp))
    show wpAny _ _ (ret u) _ _ _
    refine wpAny_pure ?_
    exact hQ v u [] _ (lst_write (f := fun zs => zs.pop) (ys := []) (ws := []) I e ho (by simp) .nil (Nat.zero_le _)) .nil f1 r1
  · have hz' : ¬ er.isEmpty = true := by rw [List.isEmpty_iff]; exact hz
    dsimp only at h
    rw [if_neg hz'] at h
    split at h
    · rename_i es hd
      cases h
      cases f with
      | @cons v vs _ _ f1 f2 =>
      cases r with
      | @cons _ u _ us' r1 r2 =>
      have hv : vs ≠ [] := by
        intro z
        subst z
        cases f2
        exact hz rfl
      obtain ⟨vl, v1⟩ : ∃ z, vs.getLast? = some z := by
        cases z : vs.getLast? with
        | none => exact absurd (List.getLast?_eq_none_iff.mp z) hv
        | some y => exact ⟨y, rfl⟩
      have v2 : vs[vs.length - 1]? = some vl := by rw [← v1, List.getLast?_eq_getElem?]
      obtain ⟨ul, u1, u2⟩ := vals_at r2 v2
      obtain ⟨dl, d1, d2⟩ := f2.getV v2
      have u3 : (u :: us').toArray.back? = some ul := by
        rw [List.back?_toArray, List.getLast?_cons, List.getLast?_eq_getElem?, ← r2.length, u1]
        rfl
      have d3 : er.getLast?.getD d = dl := by
        rw [List.getLast?_eq_getElem?, ← f2.len, d1]
        rfl
      rw [d3] at hd
      rw [u3]
      dsimp only
      have lv : 0 < vs.length := List.length_pos_iff.mpr hv
      have lus : 0 < us'.length := by rw [← r2.length]; exact lv
      refine wpAny_bind (wpAny_updateSeq ho rfl ?_ (by simp only [List.size_toArray]; exact hsz) (by simp only [Array.size_pop, List.size_toArray]; omega))
      have I2 := lst_write (f := fun zs => zs.pop) (ys := (v :: vs).dropLast) (ws := (u :: us').dropLast) I e ho (by simp) (Vals.dropLast (.cons r1 r2)) (by rw [List.length_dropLast]; omega)
      obtain ⟨l2, us2, m2, r3, ho2⟩ := lst_at I2 upd_same
      rw [if_neg (by simp only [List.size_toArray, List.length_cons, beq_iff_eq]; omega)]
      refine wpAny_bind ?_
      show wpAny _ _ (atM (u :: us').toArray 0) _ _ _
      refine at_wp (v := u) (by simp) ?_
      have l2' : us2.length ≤ sizeLine := by rw [← r3.length]; exact l2
      refine wpAny_bind (wpAny_updateSeq ho2 rfl ?_ (by simp only [List.size_toArray]; exact l2') (by simp only [Array.size_setIfInBounds, List.size_toArray]; omega))
      have I3 := lst_write (f := fun zs => zs.setIfInBounds 0 ul) (ys := (v :: vs).dropLast.set 0 vl) (ws := us2.set 0 ul) I2 upd_same ho2 (by simp) (Vals.set u2 0 r3) (by rw [List.length_set]; exact l2)
      rw [upd_upd] at I3
      have hf : Fzs H A ((v :: vs).dropLast.set 0 vl) ((d :: er).dropLast.set 0 dl) := by
        refine fzs_set d2 0 ?_
        have q := (Fzs.cons f1 f2).take ((v :: vs).length - 1)
        rw [List.dropLast_eq_take, List.dropLast_eq_take]
        have : (v :: vs).length - 1 = (d :: er).length - 1 := by simp [f2.len]
        rw [← this]
        exact q
      refine wpAny_pure ⟨plainId_quiet pl_sift _, ?_⟩
      refine down_wp (res := u) (by omega) hA 64 _ ds' 0 _ _ _ I3 upd_same (fz_up hA hf) hd fun ys s' I4 f4 => ?_
      rw [upd_upd] at I4 f4
      exact hQ v u ys s' I4 (f4.kp (kp_dn hA)) f1 r1
    · cases h
end
/-! as calls -/
section
variable [KFrag] {X : Cx} [HK X] {x : Str} {p pos : Pos} {e : Expr} {es : List Expr} {t : TA} {id : String} {r : List V → Hp → VK → Prop}
theorem pe_callGB (hc : CallR X (.builtin id) r) (hg : Gl X x) (hm : X.mg x = some (.builtin id)) (ha : PA X (e :: es) t) (hdb : (x == ("__debug__" : Str)) = false := by decide)
    (he : starEach (e :: es) X.env = (false, eval e X.env) :: starEach es X.env := by rfl) (hpl : (backTo pos (starEach es X.env)).any (·.1) = false := by rfl) : PE X (.Call (.Name x p) (e :: es) [] pos) (tCB r t) :=
  ⟨fun pins s σ H Q I h => wpAny_Call_Name_kw (ld_glob I hg hm (PyProof.Rows.callWith_builtin1 (thn (ha.run pos pins s σ H _ I h) fun us s1 ⟨vs, H1, I1, r1, q1⟩ => hc pins s1 σ H1 vs us Q I1 r1 q1) he hpl) hdb)⟩
def rPush : List V → Hp → VK → Prop := fun vs H Q => ∃ A a xs ds x d ds', vs = [.ref a, x] ∧ H a = some (.lst xs) ∧ A a ∧ Fzs H A xs ds ∧ Fz H A x d ∧ ds.length < line ∧ hUp 64 (ds ++ [d]) ds.length = some ds' ∧ ∀ ys, Fzs H A ys ds' → Q .non (upd H a (.lst ys))
def rPop : List V → Hp → VK → Prop := fun vs H Q => ∃ A a xs ds d ds', vs = [.ref a] ∧ H a = some (.lst xs) ∧ A a ∧ Fzs H A xs ds ∧ hPop ds = some (d, ds') ∧ ∀ v ys, Fzs H A ys ds' → Fz H A v d → Q v (upd H a (.lst ys))
theorem cr_push (hu : X.A.units + 64 < cLine) : CallR X (.builtin "_heapq.heappush") rPush := by
  rintro pins s σ H vs us Q I rv ⟨A, a, xs, ds, x, d, ds', rfl, e, hA, f, fx, hl, h, q⟩
  cases rv with
  | cons r1 r2 =>
  cases r2 with
  | cons r3 r4 =>
  cases r4
  cases (show _ = Value.ref a from r1)
  exact push_wp (by omega) I e hA f fx r3 hl h fun ys s' I' f' => ⟨.non, _, I', rfl, q ys f'⟩
theorem cr_pop (hu : X.A.units + 64 < cLine) : CallR X (.builtin "_heapq.heappop") rPop := by
  rintro pins s σ H vs us Q I rv ⟨A, a, xs, ds, d, ds', rfl, e, hA, f, h, q⟩
  cases rv with
  | cons r1 r2 =>
  cases r2
  cases (show _ = Value.ref a from r1)
  exact pop_wp (by omega) I e hA f h fun v u ys s' I' f' fv rv => ⟨v, _, I', rv, q v ys f' fv⟩
end
section
variable [KFrag] {X : Cx} [HK X] {T : TX} {Wx : WXc} {x : Str} {p pos : Pos} {e : Expr} {es : List Expr} {fs : En → CS → R (List W)}
def hPushC (ws : List W) (s : CS) : R W := match ws with
  | [.c n, .d d] => match s[n]? with
    | some (.lst ds) => if ds.length < line then (match hUp 64 (ds ++ [d]) ds.length with
      | some es => .ok (.d .none) (s.set n (.lst es))
      | none => .bad) else .bad
    | _ => .bad
  | _ => .bad
def hPopC (ws : List W) (s : CS) : R W := match ws with
  | [.c n] => match s[n]? with
    | some (.lst ds) => match hPop ds with
      | some (d, es) => .ok (.d d) (s.set n (.lst es))
      | none => .bad
    | _ => .bad
  | _ => .bad
def fHPush (fs : En → CS → R (List W)) (ρ : En) (s : CS) : R W := (fs ρ s).bind hPushC
def fHPop (fs : En → CS → R (List W)) (ρ : En) (s : CS) : R W := (fs ρ s).bind hPopC
theorem de_push (hu : X.A.units + 64 < cLine) (hg : Gl X x) (hm : X.mg x = some (.builtin "_heapq.heappush")) (ha : DA X T Wx (e :: es) fs) (hdb : (x == ("__debug__" : Str)) = false := by decide)
    (he : starEach (e :: es) X.env = (false, eval e X.env) :: starEach es X.env := by rfl) (hpl : (backTo pos (starEach es X.env)).any (·.1) = false := by rfl) : DE X T Wx (.Call (.Name x p) (e :: es) [] pos) (fHPush fs) :=
  PE_imp (pe_callGB (cr_push hu) hg hm ha hdb he hpl) fun σ H Q ⟨B, μ, s, ρ, r, e, q⟩ => tD_bind r e q fun ws s1 vs μ1 H1 st1 r1 e1 rel1 q1 => by
    replace rel1 : RWs B μ1 s1 H1 vs ws := rel1
    unfold hPushC at q1
    split at q1
    · rename_i n d
      cases rel1 with
      | cons a1 a2 =>
      cases a2 with
      | cons a3 a4 =>
      cases a4
      obtain ⟨a, rfl, ha⟩ := a1
      split at q1
      · rename_i ds hs
        split at q1
        · rename_i hl
          split at q1
          · rename_i es' hh
            obtain ⟨xs, ea, f⟩ := r1.cell n a _ ha hs
            refine ⟨Av B μ1 s1, a, xs, ds, _, d, es', rfl, ea, .inr ⟨n, _, ha, hs, by simp⟩, f, a3, hl, hh, fun ys fy => ?_⟩
            obtain ⟨b1, b2⟩ := putC r1 ha hs fy
            exact q1 _ _ _ b2 b1 Fz.non
          · exact q1.elim
        · exact q1.elim
      · exact q1.elim
    · exact q1.elim
theorem de_pop (hu : X.A.units + 64 < cLine) (hg : Gl X x) (hm : X.mg x = some (.builtin "_heapq.heappop")) (ha : DA X T Wx (e :: es) fs) (hdb : (x == ("__debug__" : Str)) = false := by decide)
    (he : starEach (e :: es) X.env = (false, eval e X.env) :: starEach es X.env := by rfl) (hpl : (backTo pos (starEach es X.env)).any (·.1) = false := by rfl) : DE X T Wx (.Call (.Name x p) (e :: es) [] pos) (fHPop fs) :=
  PE_imp (pe_callGB (cr_pop hu) hg hm ha hdb he hpl) fun σ H Q ⟨B, μ, s, ρ, r, e, q⟩ => tD_bind r e q fun ws s1 vs μ1 H1 st1 r1 e1 rel1 q1 => by
    replace rel1 : RWs B μ1 s1 H1 vs ws := rel1
    unfold hPopC at q1
    split at q1
    · rename_i n
      cases rel1 with
      | cons a1 a2 =>
      cases a2
      obtain ⟨a, rfl, ha⟩ := a1
      split at q1
      · rename_i ds hs
        split at q1
        · rename_i d es' hh
          obtain ⟨xs, ea, f⟩ := r1.cell n a _ ha hs
          refine ⟨Av B μ1 s1, a, xs, ds, d, es', rfl, ea, .inr ⟨n, _, ha, hs, by simp⟩, f, hh, fun v ys fy fv => ?_⟩
          obtain ⟨b1, b2⟩ := putC r1 ha hs fy
          refine q1 _ _ _ b2 b1 (Fz.kp ⟨fun b u eb nb => ?_, fun b u eb nb => b2.kp.new b u eb nb⟩ fv)
          exact b2.kp.keep b u eb nb
        · exact q1.elim
      · exact q1.elim
    · exact q1.elim
end
end DL
namespace DL
open PySem PySem.Spec PyProof.Rows L2
open PySem.W (KdlSrc TotalLe sameRank sort_unique sort_congr sortLe_total alike alikeAll dataLt dataLe AllAlike Sortable EachIs dataLt_all_yes dataLt_all_no keyToks keyToksAll dataLt_int dataLt_str dataLt_tuple)
/-! ### sorted -/
def insL {α : Type} (le : α → α → Bool) (x : α) : List α → List α
  | [] => [x]
  | y :: r => if le x y = true then x :: y :: r else y :: insL le x r
def isortL {α : Type} (le : α → α → Bool) : List α → List α
  | [] => []
  | x :: r => insL le x (isortL le r)
section
variable {α : Type} {le : α → α → Bool}
theorem insL_mem {x z : α} : ∀ {l : List α}, z ∈ insL le x l ↔ z = x ∨ z ∈ l
  | [] => by simp [insL]
  | y :: r => by
    unfold insL
    split
    · simp
    · rw [List.mem_cons, insL_mem, List.mem_cons]
      exact ⟨fun h => h.elim (fun h => .inr (.inl h)) fun h => h.elim .inl fun h => .inr (.inr h), fun h => h.elim (fun h => .inr (.inl h)) fun h => h.elim .inl fun h => .inr (.inr h)⟩
theorem isortL_mem {z : α} : ∀ {l : List α}, z ∈ isortL le l ↔ z ∈ l
  | [] => by simp [isortL]
  | y :: r => by unfold isortL; rw [insL_mem, isortL_mem, List.mem_cons]
theorem insL_pw (h : TotalLe le) {x : α} : ∀ {l : List α}, l.Pairwise (fun a b => le a b = true) → (insL le x l).Pairwise (fun a b => le a b = true)
  | [], _ => by simp [insL]
  | y :: r, hp => by
    obtain ⟨h1, h2⟩ := List.pairwise_cons.mp hp
    unfold insL
    split
    · rename_i e
      exact List.pairwise_cons.mpr ⟨fun z hz => (List.mem_cons.mp hz).elim (fun q => by rw [q]; exact e) fun q => h.trans _ _ _ e (h1 z q), hp⟩
    · rename_i e
      refine List.pairwise_cons.mpr ⟨fun z hz => (insL_mem.mp hz).elim (fun q => ?_) (h1 z), insL_pw h h2⟩
      rw [q]
      exact (h.total x y).elim (fun q => absurd q e) id
theorem isortL_pw (h : TotalLe le) : ∀ l : List α, (isortL le l).Pairwise (fun a b => le a b = true)
  | [] => .nil
  | x :: r => insL_pw h (isortL_pw h r)
theorem insL_flt (h : TotalLe le) {x c : α} : ∀ l : List α, (insL le x l).filter (sameRank le c) = (x :: l).filter (sameRank le c)
  | [] => rfl
  | y :: r => by
    unfold insL
    split
    · rfl
    · rename_i e
      rw [List.filter_cons, insL_flt h r, List.filter_cons, List.filter_cons, List.filter_cons]
      by_cases q1 : sameRank le c y = true
      · by_cases q2 : sameRank le c x = true
        · refine absurd (h.trans x c y ?_ ?_) e
          · unfold sameRank at q2; exact (Bool.and_eq_true_iff.mp q2).2
          · unfold sameRank at q1; exact (Bool.and_eq_true_iff.mp q1).1
        · simp [q1, q2]
      · simp [q1]
theorem isortL_flt (h : TotalLe le) {c : α} : ∀ l : List α, (isortL le l).filter (sameRank le c) = l.filter (sameRank le c)
  | [] => rfl
  | x :: r => by unfold isortL; rw [insL_flt h, List.filter_cons, List.filter_cons, isortL_flt h r]
theorem isortL_eq (h : TotalLe le) (l : List α) : isortL le l = l.mergeSort le := sort_unique h (isortL_pw h l) fun _ => isortL_flt h l
theorem insL_congr {le' : α → α → Bool} {x : α} : ∀ {l : List α}, (∀ y ∈ l, le x y = le' x y) → insL le x l = insL le' x l
  | [], _ => rfl
  | y :: r, h => by
    unfold insL
    rw [h y (by simp), insL_congr fun z hz => h z (by simp [hz])]
theorem isortL_congr {le' : α → α → Bool} : ∀ {l : List α}, (∀ x ∈ l, ∀ y ∈ l, le x y = le' x y) → isortL le l = isortL le' l
  | [], _ => rfl
  | x :: r, h => by
    unfold isortL
    rw [isortL_congr fun y hy z hz => h y (by simp [hy]) z (by simp [hz])]
    exact insL_congr fun y hy => h x (by simp) y (by simp [isortL_mem.mp hy])
end
/-! one shape -/
mutual
def sh : D → D → Bool
  | .int _, .int _ => true
  | .str _, .str _ => true
  | .tuple xs, .tuple ys => shs xs ys
  | _, _ => false
def shs : List D → List D → Bool
  | [], [] => true
  | x :: xs, y :: ys => sh x y && shs xs ys
  | _, _ => false
end
mutual
theorem sh_two : ∀ (x y z : D), sh x z = true → sh y z = true → sh x y = true
  | .int _, .int _, .int _, _, _ => rfl
  | .str _, .str _, .str _, _, _ => rfl
  | .tuple xs, .tuple ys, .tuple zs, h, k => by
    unfold sh at h k ⊢
    exact shs_two xs ys zs h k
  | .none, _, z, h, _ => by cases z <;> simp [sh] at h
  | .bool _, _, z, h, _ => by cases z <;> simp [sh] at h
  | .list _, _, z, h, _ => by cases z <;> simp [sh] at h
  | .dict _, _, z, h, _ => by cases z <;> simp [sh] at h
  | .int _, y, .none, h, _ => by simp [sh] at h
  | .int _, y, .bool _, h, _ => by simp [sh] at h
  | .int _, y, .str _, h, _ => by simp [sh] at h
  | .int _, y, .list _, h, _ => by simp [sh] at h
  | .int _, y, .tuple _, h, _ => by simp [sh] at h
  | .int _, y, .dict _, h, _ => by simp [sh] at h
  | .int _, .none, .int _, _, k => by simp [sh] at k
  | .int _, .bool _, .int _, _, k => by simp [sh] at k
  | .int _, .str _, .int _, _, k => by simp [sh] at k
  | .int _, .list _, .int _, _, k => by simp [sh] at k
  | .int _, .tuple _, .int _, _, k => by simp [sh] at k
  | .int _, .dict _, .int _, _, k => by simp [sh] at k
  | .str _, y, .none, h, _ => by simp [sh] at h
  | .str _, y, .bool _, h, _ => by simp [sh] at h
  | .str _, y, .int _, h, _ => by simp [sh] at h
  | .str _, y, .list _, h, _ => by simp [sh] at h
  | .str _, y, .tuple _, h, _ => by simp [sh] at h
  | .str _, y, .dict _, h, _ => by simp [sh] at h
  | .str _, .none, .str _, _, k => by simp [sh] at k
  | .str _, .bool _, .str _, _, k => by simp [sh] at k
  | .str _, .int _, .str _, _, k => by simp [sh] at k
  | .str _, .list _, .str _, _, k => by simp [sh] at k
  | .str _, .tuple _, .str _, _, k => by simp [sh] at k
  | .str _, .dict _, .str _, _, k => by simp [sh] at k
  | .tuple _, y, .none, h, _ => by simp [sh] at h
  | .tuple _, y, .bool _, h, _ => by simp [sh] at h
  | .tuple _, y, .int _, h, _ => by simp [sh] at h
  | .tuple _, y, .list _, h, _ => by simp [sh] at h
  | .tuple _, y, .str _, h, _ => by simp [sh] at h
  | .tuple _, y, .dict _, h, _ => by simp [sh] at h
  | .tuple _, .none, .tuple _, _, k => by simp [sh] at k
  | .tuple _, .bool _, .tuple _, _, k => by simp [sh] at k
  | .tuple _, .int _, .tuple _, _, k => by simp [sh] at k
  | .tuple _, .list _, .tuple _, _, k => by simp [sh] at k
  | .tuple _, .str _, .tuple _, _, k => by simp [sh] at k
  | .tuple _, .dict _, .tuple _, _, k => by simp [sh] at k
theorem shs_two : ∀ (x y z : List D), shs x z = true → shs y z = true → shs x y = true
  | [], [], [], _, _ => rfl
  | x :: xs, y :: ys, z :: zs, h, k => by
    unfold shs at h k ⊢
    rw [Bool.and_eq_true] at h k ⊢
    exact ⟨sh_two x y z h.1 k.1, shs_two xs ys zs h.2 k.2⟩
  | [], _, _ :: _, h, _ => by simp [shs] at h
  | _ :: _, _, [], h, _ => by simp [shs] at h
  | [], _ :: _, [], _, k => by simp [shs] at k
  | _ :: _, [], _ :: _, _, k => by simp [shs] at k
end
mutual
theorem sh_alike : ∀ (x y : D), sh x y = true → alike x y = true
  | .int _, .int _, _ => rfl
  | .str _, .str _, _ => rfl
  | .tuple xs, .tuple ys, h => by
    unfold sh at h
    unfold alike
    exact shs_alike xs ys h
  | .none, z, h => by cases z <;> simp [sh] at h
  | .bool _, z, h => by cases z <;> simp [sh] at h
  | .list _, z, h => by cases z <;> simp [sh] at h
  | .dict _, z, h => by cases z <;> simp [sh] at h
  | .int _, .none, h => by simp [sh] at h
  | .int _, .bool _, h => by simp [sh] at h
  | .int _, .str _, h => by simp [sh] at h
  | .int _, .list _, h => by simp [sh] at h
  | .int _, .tuple _, h => by simp [sh] at h
  | .int _, .dict _, h => by simp [sh] at h
  | .str _, .none, h => by simp [sh] at h
  | .str _, .bool _, h => by simp [sh] at h
  | .str _, .int _, h => by simp [sh] at h
  | .str _, .list _, h => by simp [sh] at h
  | .str _, .tuple _, h => by simp [sh] at h
  | .str _, .dict _, h => by simp [sh] at h
  | .tuple _, .none, h => by simp [sh] at h
  | .tuple _, .bool _, h => by simp [sh] at h
  | .tuple _, .int _, h => by simp [sh] at h
  | .tuple _, .list _, h => by simp [sh] at h
  | .tuple _, .str _, h => by simp [sh] at h
  | .tuple _, .dict _, h => by simp [sh] at h
theorem shs_alike : ∀ (x y : List D), shs x y = true → alikeAll x y = true
  | [], [], _ => rfl
  | x :: xs, y :: ys, h => by
    unfold shs at h
    unfold alikeAll
    rw [Bool.and_eq_true] at h ⊢
    exact ⟨sh_alike x y h.1, shs_alike xs ys h.2⟩
  | [], _ :: _, h => by simp [shs] at h
  | _ :: _, [], h => by simp [shs] at h
end
/-- the order of rows of one shape -/
def leK (a b : D) : Bool := match ltX 8 b a with
  | some k => !k
  | none => false
theorem ltL_sh (n : Nat) (ih : ∀ x y, plD n x = true → sh x y = true → ltX n x y = some (dataLt x y)) : ∀ xs ys : List D, xs.all (plD n) = true → shs xs ys = true → ltL (ltX n) xs ys = some (PyProof.Rows.lexLt itemOrd (keyToksAll xs) (keyToksAll ys))
  | [], [], _, _ => by
    unfold ltL
    rfl
  | x :: xs, y :: ys, p, h => by
    rw [List.all_cons, Bool.and_eq_true] at p
    unfold shs at h
    rw [Bool.and_eq_true] at h
    have al := sh_alike x y h.1
    unfold ltL
    rw [eqF_eq]
    cases e : PyData.eqv x y with
    | true =>
      rw [if_pos rfl, dataLt_all_yes al e]
      exact ltL_sh n ih xs ys p.2 h.2
    | false =>
      rw [if_neg Bool.false_ne_true, dataLt_all_no al e]
      exact ih x y p.1 h.1
  | [], _ :: _, _, h => by simp [shs] at h
  | _ :: _, [], _, h => by simp [shs] at h
theorem ltX_sh : ∀ (n : Nat) (x y : D), plD n x = true → sh x y = true → ltX n x y = some (dataLt x y)
  | n, .int i, .int j, _, _ => by rw [dataLt_int]; cases n <;> rfl
  | n, .str i, .str j, _, _ => by rw [dataLt_str]; cases n <;> rfl
  | 0, .tuple xs, .tuple ys, p, _ => by simp [plD] at p
  | n + 1, .tuple xs, .tuple ys, p, h => by
    rw [dataLt_tuple]
    have p' : xs.all (plD n) = true := by simpa [plD] using p
    have h' : shs xs ys = true := by unfold sh at h; exact h
    show ltL (ltX n) xs ys = _
    exact ltL_sh n (ltX_sh n) xs ys p' h'
  | n, .none, z, _, h => by cases z <;> simp [sh] at h
  | n, .bool _, z, _, h => by cases z <;> simp [sh] at h
  | n, .list _, z, _, h => by cases z <;> simp [sh] at h
  | n, .dict _, z, _, h => by cases z <;> simp [sh] at h
  | n, .int _, .none, _, h => by simp [sh] at h
  | n, .int _, .bool _, _, h => by simp [sh] at h
  | n, .int _, .str _, _, h => by simp [sh] at h
  | n, .int _, .list _, _, h => by simp [sh] at h
  | n, .int _, .tuple _, _, h => by simp [sh] at h
  | n, .int _, .dict _, _, h => by simp [sh] at h
  | n, .str _, .none, _, h => by simp [sh] at h
  | n, .str _, .bool _, _, h => by simp [sh] at h
  | n, .str _, .int _, _, h => by simp [sh] at h
  | n, .str _, .list _, _, h => by simp [sh] at h
  | n, .str _, .tuple _, _, h => by simp [sh] at h
  | n, .str _, .dict _, _, h => by simp [sh] at h
  | n, .tuple _, .none, _, h => by simp [sh] at h
  | n, .tuple _, .bool _, _, h => by simp [sh] at h
  | n, .tuple _, .int _, _, h => by simp [sh] at h
  | n, .tuple _, .list _, _, h => by simp [sh] at h
  | n, .tuple _, .str _, _, h => by simp [sh] at h
  | n, .tuple _, .dict _, _, h => by simp [sh] at h
/-- rows that can be sorted: one shape, () among none -/
def srtOk : List D → Bool
  | [] => true
  | .tuple [] :: _ => false
  | d :: r => plD 8 d && sh d d && r.all fun x => plD 8 x && sh x d
def srtD (ds : List D) : Option (List D) := if srtOk ds = true then some (isortL leK ds) else none
theorem srt_facts {ds : List D} (h : srtOk ds = true) : (∀ x ∈ ds, plD 8 x = true) ∧ (∀ x ∈ ds, ∀ y ∈ ds, sh x y = true) ∧ Sortable ds := by
  cases ds with
  | nil => exact ⟨fun x h => (nomatch h), fun x h => (nomatch h), .inr fun x h => (nomatch h)⟩
  | cons d r =>
    have hd : d ≠ .tuple [] := by
      intro z
      subst z
      simp [srtOk] at h
    have h' : (plD 8 d && sh d d && r.all fun x => plD 8 x && sh x d) = true := by
      cases d with
      | tuple xs =>
        cases xs with
        | nil => exact absurd rfl hd
        | cons a b => exact h
      | _ => exact h
    rw [Bool.and_eq_true, Bool.and_eq_true] at h'
    obtain ⟨⟨a1, a2⟩, a3⟩ := h'
    have a4 : ∀ x ∈ r, plD 8 x = true ∧ sh x d = true := fun x hx => by
      have := List.all_eq_true.mp a3 x hx
      rwa [Bool.and_eq_true] at this
    have a5 : ∀ x ∈ d :: r, plD 8 x = true ∧ sh x d = true := fun x hx => (List.mem_cons.mp hx).elim (fun q => by rw [q]; exact ⟨a1, a2⟩) (a4 x)
    refine ⟨fun x hx => (a5 x hx).1, fun x hx y hy => sh_two x y d (a5 x hx).2 (a5 y hy).2, ?_⟩
    cases d with
    | tuple xs =>
      refine .inl fun x hx => ?_
      have q := (a5 x hx).2
      cases xs with
      | nil => exact absurd rfl hd
      | cons a b =>
        cases x with
        | tuple ys =>
          cases ys with
          | nil => simp [sh, shs] at q
          | cons c e => exact ⟨c, e, rfl⟩
        | _ => simp [sh] at q
    | _ =>
      refine .inr fun x hx => ?_
      have q := (a5 x hx).2
      cases x <;> first | (simp [sh] at q; done) | exact ⟨by simp, by simp⟩
theorem srt_merge {ds es : List D} (h : srtD ds = some es) : es = ds.mergeSort (dataLe false id) ∧ srtOk ds = true := by
  unfold srtD at h
  split at h
  · rename_i ok
    cases h
    obtain ⟨f1, f2, _⟩ := srt_facts ok
    refine ⟨?_, ok⟩
    refine Eq.trans ?_ (isortL_eq (le := dataLe false id) (sortLe_total _ _ _) ds)
    refine isortL_congr fun x hx y hy => ?_
    unfold leK
    rw [ltX_sh 8 y x (f1 y hy) (f2 y hy x hx)]
    rfl
  · cases h
mutual
theorem pl_depth : ∀ (n : Nat) (d : D), plD n d = true → d.depth ≤ n
  | n, .none, _ => Nat.zero_le _
  | n, .bool _, _ => Nat.zero_le _
  | n, .int _, _ => Nat.zero_le _
  | n, .str _, _ => Nat.zero_le _
  | 0, .tuple xs, h => by simp [plD] at h
  | n + 1, .tuple xs, h => by
    have := pls_depth n xs (by simpa [plD] using h)
    simp only [PyData.depth]
    omega
  | n, .list xs, h => by cases n <;> simp [plD] at h
  | n, .dict xs, h => by cases n <;> simp [plD] at h
theorem pls_depth : ∀ (n : Nat) (ds : List D), (∀ x ∈ ds, plD n x = true) → PyData.depthAll ds ≤ n
  | n, [], _ => Nat.zero_le _
  | n, x :: xs, h => by
    have h1 := pl_depth n x (h x (by simp))
    have h2 := pls_depth n xs fun y hy => h y (by simp [hy])
    simp only [PyData.depthAll]
    omega
end
mutual
theorem pl_reads {h : Heap} : ∀ (n : Nat) (d : D) (v : Value) (as : List Addr), plD n d = true → Reads h v d as → as = []
  | n, .none, _, _, _, r => by cases r; rfl
  | n, .bool _, _, _, _, r => by cases r; rfl
  | n, .int _, _, _, _, r => by cases r; rfl
  | n, .str _, _, _, _, r => by cases r; rfl
  | 0, .tuple xs, _, _, h, r => by simp [plD] at h
  | n + 1, .tuple xs, _, _, h, r => by
    cases r with
    | tuple _ _ _ r => exact pls_reads n xs _ _ (by simpa [plD] using h) r
  | n, .list xs, _, _, h, r => by cases n <;> simp [plD] at h
  | n, .dict xs, _, _, h, r => by cases n <;> simp [plD] at h
theorem pls_reads {h : Heap} : ∀ (n : Nat) (ds : List D) (vs : List Value) (as : List Addr), (∀ x ∈ ds, plD n x = true) → ReadsAll h vs ds as → as = []
  | n, [], _, _, _, r => by cases r; rfl
  | n, x :: xs, _, _, h, r => by
    cases r with
    | cons r1 r2 => rw [pl_reads n x _ _ (h x (by simp)) r1, pls_reads n xs _ _ (fun y hy => h y (by simp [hy])) r2]; rfl
end
section
variable [KFrag] {X : Cx} [HK X] {pins : List (Addr × Obj)} {σ : L2.St} {H : Hp} {s : Shared} {A : Addr → Prop}
abbrev RVD (H : Hp) (A : Addr → Prop) (u : Value) (b : V × D) : Prop := RelV b.1 u ∧ Fz H A b.1 b.2
theorem each_of : ∀ {xs : List V} {ds : List D} {us : List Value}, Fzs H A xs ds → Vals xs us → EachIs (RVD H A) us (xs.zip ds)
  | _, _, _, .nil, .nil => .nil
  | _, _, _, .cons f t, .cons r q => .cons ⟨r, f⟩ (each_of t q)
theorem zip_snd : ∀ {xs : List V} {ds : List D}, Fzs H A xs ds → (xs.zip ds).map (·.2) = ds
  | _, _, .nil => rfl
  | _, _, .cons _ t => by rw [List.zip_cons_cons, List.map_cons, zip_snd t]
theorem each_back : ∀ {us : List Value} {bs : List (V × D)}, EachIs (RVD H A) us bs → Vals (bs.map (·.1)) us ∧ Fzs H A (bs.map (·.1)) (bs.map (·.2))
  | _, _, .nil => ⟨.nil, .nil⟩
  | _, _, .cons h t => ⟨.cons h.1 (each_back t).1, .cons h.2 (each_back t).2⟩
/-- what sorting gives -/
theorem srt_out {xs : List V} {ds es : List D} {out : List Value} (f : Fzs H A xs ds) (h : srtD ds = some es) (e : EachIs (RVD H A) out ((xs.zip ds).mergeSort (dataLe false (·.2)))) : ∃ ys, Vals ys out ∧ Fzs H A ys es := by
  obtain ⟨h1, h2⟩ := each_back e
  refine ⟨_, h1, ?_⟩
  have q : ((xs.zip ds).mergeSort (dataLe false (·.2))).map (·.2) = es := by
    refine (List.map_mergeSort (f := fun b : V × D => b.2) (s := dataLe false id) (fun a _ b _ => rfl)).trans ?_
    rw [zip_snd f, (srt_merge h).1]
  rw [q] at h2
  exact h2
theorem each_reads (I : Inv X pins σ H s) : ∀ {us : List Value} {bs : List (V × D)}, EachIs (RVD H A) us bs → EachIs (fun v b => ∃ as, Reads s.heap v b.2 as) us bs
  | _, _, .nil => .nil
  | _, _, .cons h t => .cons (Dp.reads I _ _ _ h.2.dp h.1) (each_reads I t)
theorem each_readsN (I : Inv X pins σ H s) {a : Addr} : ∀ {us : List Value} {bs : List (V × D)}, EachIs (RVD H A) us bs → (∀ b ∈ bs, plD 8 b.2 = true) → EachIs (fun v b => ∃ as, Reads s.heap v b.2 as ∧ a ∉ as) us bs
  | _, _, .nil, _ => .nil
  | _, _, .cons h t, p => .cons (by
      obtain ⟨as, r⟩ := Dp.reads (X := X) I _ _ _ h.2.dp h.1
      exact ⟨as, r, by rw [pl_reads 8 _ _ _ (p _ (by simp)) r]; simp⟩) (each_readsN I t fun b hb => p b (by simp [hb]))
theorem zip_all {xs : List V} {ds : List D} {p : D → Prop} (h : ∀ d ∈ ds, p d) : ∀ b ∈ xs.zip ds, p b.2 := fun b hb => h _ (List.of_mem_zip hb).2
def rSortL : List V → Hp → VK → Prop := fun vs H Q => ∃ A a xs ds es, vs = [.ref a] ∧ H a = some (.lst xs) ∧ Fzs H A xs ds ∧ srtD ds = some es ∧ ∀ ys p, Fzs H A ys es → H p = none → Q (.ref p) (upd H p (.lst ys))
theorem cr_sortL (hu : X.A.units + 64 < cLine) : CallR X (.builtin "sorted") rSortL := by
  rintro pins s σ H vs us Q I rv ⟨A, a, xs, ds, es, rfl, e, f, h, q⟩
  cases rv with
  | cons r1 r2 =>
  cases r2
  cases (show _ = Value.ref a from r1)
  obtain ⟨hl, ws, n, r, ho⟩ := lst_at I e
  obtain ⟨_, ok⟩ := srt_merge h
  obtain ⟨f1, f2, f3⟩ := srt_facts ok
  have ez := zip_snd f
  have el := each_of f r
  have bl : (xs.zip ds).length = xs.length := by rw [List.length_zip, f.len]; omega
  refine PySem.W.sorted_data (R := RVD H A) (enc := (·.2)) (vs := ws) (bs := xs.zip ds) ⟨_, ho, rfl, n, rfl⟩ el (each_reads I el) (by rw [ez]; exact fun d hd d' hd' => sh_alike _ _ (f2 d hd d' hd')) (by rw [ez]; exact f3) (by rw [bl]; exact hl)
    (fun b hb => by have := pl_depth 8 _ (zip_all f1 b hb); omega) fun out ho1 ho2 => ?_
  obtain ⟨ys, y1, y2⟩ := srt_out f h ho2
  obtain ⟨c, hc⟩ := sortedAll_at s.heap ws (List.toArray out)
  have hn := I.hok.fresh (Nat.le_succ s.heap.objs.size)
  refine ⟨.ref (s.heap.objs.size + 1), upd H (s.heap.objs.size + 1) (.lst ys), I.laid (t' := s.toks) (fun b u z => sortedAll_old z) (Nat.le_succ _) ⟨?_, out, c, y1, hc⟩, rfl, q ys _ y2 hn⟩
  rw [y1.length, ho1, bl]
  exact hl
def rSortN (w : World) : List V → Hp → VK → Prop := fun vs H Q => ∃ A a es ds ks, vs = [.ref a] ∧ Rd H a (DObj w a es) ∧ KPs H A es ds ∧ srtD (ds.map (·.1)) = some ks ∧ ∀ ys p, Fzs H A ys ks → H p = none → Q (.ref p) (upd H p (.lst ys))
theorem KPs.keys {H : Hp} {A : Addr → Prop} : ∀ {es : List (NestedKey × Addr × V)} {ds : List (D × D)}, KPs H A es ds → Fzs H A (es.map fun e => .ref e.2.1) (ds.map (·.1))
  | _, _, .nil => .nil
  | _, _, .cons _ _ f _ t => .cons f (KPs.keys t)
theorem refs_at : ∀ {xs : List (NestedKey × Addr × V)} {us : List Value}, us.length = xs.length → (∀ (j : Nat) (v : Value), us[j]? = some v → ∃ x, xs[j]? = some x ∧ v = .ref x.2.1) → Vals (xs.map fun e => .ref e.2.1) us
  | [], [], _, _ => .nil
  | x :: xs, u :: us, hl, h => by
    obtain ⟨y, e1, e2⟩ := h 0 u rfl
    have e1' : x = y := Option.some.inj e1
    subst e1'
    rw [List.map_cons]
    exact .cons e2 (refs_at (by simpa using hl) fun j v e => by
      obtain ⟨z, a, b⟩ := h (j + 1) v (by simpa using e)
      exact ⟨z, by simpa using a, b⟩)
  | [], _ :: _, hl, _ => by simp at hl
  | _ :: _, [], hl, _ => by simp at hl
theorem cr_sortN (hc : X.calm = true) (hu : X.A.units + 64 < cLine) : CallR X (.builtin "sorted") (rSortN X.w) := by
  rintro pins s σ H vs us Q I rv ⟨A, a, es, ds, ks, rfl, e, kp, h, q⟩
  cases rv with
  | cons r1 r2 =>
  cases r2
  cases (show _ = Value.ref a from r1)
  obtain ⟨hl, hs, xs, rel, dd⟩ := dct_rd I.hok (kin I) e kp
  obtain ⟨o, eps, ep, g1, g2, g3, g4, _, _⟩ := id dd
  have hsz : eps.size = es.length := by rw [← Array.length_toList, g4, List.length_map]; exact (Paired.length rel).symm
  obtain ⟨_, ok⟩ := srt_merge h
  obtain ⟨f1, f2, f3⟩ := srt_facts ok
  refine Calls.call_function_entry PyProof.Rows.kind_sorted PyProof.Rows.plain_sorted PyProof.Rows.entry_sorted (PyProof.Rows.args_sorted1 _) ?_
  unfold Builtin.«sorted»
  refine wpAny_bind (m := checkCount "sorted" 1 1 _) (wpAny_pure ?_)
  refine wpAny_bind (PySem.W.kdu_collect (A := X.A.in1) (KdlSrc.rawDict (es := eps) (ep := ep) hs) (I.ok.hd hc) ⟨o, g1, g2, g3⟩ (by rw [hsz]; exact hl) fun h' tk acc hk hacc => ?_)
  have vr : Vals (es.map fun e => .ref e.2.1) acc.toList := refs_at (by rw [Array.length_toList, hacc.1, hsz]) fun j v ej => by
    obtain ⟨hi, ev⟩ := hacc.2 j v (by rw [← Array.getElem?_toList]; exact ej)
    have hj : j < es.length := by rw [← hsz]; exact hi
    obtain ⟨x, hx, r1, r2, r3⟩ := paired_get rel (List.getElem?_eq_getElem hj)
    refine ⟨_, List.getElem?_eq_getElem hj, ?_⟩
    have : eps[j]? = some (entryOfKey (nestedKind X.prog X.w) x) := by rw [← Array.getElem?_toList, g4, List.getElem?_map, hx]; rfl
    rw [Array.getElem?_eq_getElem hi] at this
    rw [ev, Option.some.inj this, r2]
    rfl
  have fz := kp.keys
  have I1 : Inv X pins σ H { s with heap := h', toks := tk } := I.kept hk
  have hal : acc.toList.length = es.length := by rw [← vr.length, List.length_map]
  refine wpAny_bind (wpAny_newList ?_ (by rw [hal]; exact hl))
  show wpAny _ _ _ _ _ { s with heap := h'.push (seqObj "list" acc.toList.toArray 0), toks := tk }
  have hoL : (h'.push (seqObj "list" acc.toList.toArray 0)).get? h'.objs.size = some (seqObj "list" acc.toList.toArray 0) := Heap.get?_push_size _ rfl
  have I2 : Inv X pins σ H { s with heap := h'.push (seqObj "list" acc.toList.toArray 0), toks := tk } := I1.kept (t' := tk) fun b u z => Heap.get?_push_of_some _ z
  have el := each_of fz vr
  have ez := zip_snd fz
  have bl : ((es.map fun e => V.ref e.2.1).zip (ds.map (·.1))).length = es.length := by rw [List.length_zip, List.length_map, List.length_map, kp.len]; omega
  refine wpAny_bind (wpAny_holding (PySem.W.list_sort_data (R := RVD H A) (enc := (·.2)) (vs := acc.toList) (bs := (es.map fun e => V.ref e.2.1).zip (ds.map (·.1))) hoL el (each_readsN I2 el (zip_all f1)) (by rw [ez]; exact fun d hd d' hd' => sh_alike _ _ (f2 d hd d' hd')) (by rw [ez]; exact f3) (by rw [bl]; exact hl)
    (fun b hb => by
      have := pl_depth 8 _ (zip_all f1 b hb)
      show X.A.units + 1 + 1 + _ < cLine
      omega) fun out ho1 ho2 => ?_))
  obtain ⟨ys, y1, y2⟩ := srt_out fz h ho2
  obtain ⟨c, he'⟩ := PyProof.Rows.sortedHeap_at (vs := acc.toList) (out := List.toArray out) hoL
  refine wpAny_pure ⟨_, rfl, .ref h'.objs.size, upd H h'.objs.size (.lst ys), I1.laid (t' := tk) (fun b u z => ?_) (Nat.le_refl _) ⟨?_, out, c, y1, he'⟩, rfl, q ys _ y2 (I1.hok.fresh (Nat.le_refl _))⟩
  · have hb : b < h'.objs.size := Heap.lt_size z
    rw [PyProof.Rows.sortedHeap_old (Nat.ne_of_lt hb) (by rw [size_push']; exact Nat.lt_succ_of_lt hb)]
    exact Heap.get?_push_of_some _ z
  · rw [y1.length, ho1, bl]
    exact hl
end
section
variable [KFrag] {X : Cx} [HK X] {T : TX} {Wx : WXc} {e : Expr} {fs : En → CS → R (List W)} {p pos : Pos}
def srtW (ws : List W) (s : CS) : R W := match ws with
  | [.d (.list ds)] => match srtD ds with
    | some es => .ok (.d (.list es)) s
    | none => .bad
  | [.fd kvs] => if unm kvs = true then (match srtD (kvs.map (·.1)) with
    | some es => .ok (.d (.list es)) s
    | none => .bad) else .bad
  | _ => .bad
def fSrt (fs : En → CS → R (List W)) (ρ : En) (s : CS) : R W := (fs ρ s).bind srtW
theorem cr_or {f : Value} {r r' : List V → Hp → VK → Prop} (h : CallR X f r) (h' : CallR X f r') : CallR X f fun vs H Q => r vs H Q ∨ r' vs H Q := fun pins s σ H xs us Q I rv q =>
  q.elim (fun q => h pins s σ H xs us Q I rv q) fun q => h' pins s σ H xs us Q I rv q
theorem de_srt (hw : X.w = KFrag.w) (hc : X.calm = true) (hu : X.A.units + 64 < cLine) (hg : Gl X "sorted") (hm : X.mg "sorted" = none) (hv : bootBuiltins "sorted" = some (.builtin "sorted")) (ha : DA X T Wx [e] fs)
    (he : starEach [e] X.env = (false, eval e X.env) :: starEach [] X.env := by rfl) (hpl : (backTo pos (starEach [] X.env)).any (·.1) = false := by rfl) : DE X T Wx (.Call (.Name "sorted" p) [e] [] pos) (fSrt fs) :=
  PE_imp (pe_callB (cr_or (cr_sortL hu) (cr_sortN hc hu)) hg hm hv ha (by decide) (by decide) he hpl) fun σ H Q ⟨B, μ, s, ρ, r, e, q⟩ => tD_bind r e q fun ws s1 vs μ1 H1 st1 r1 e1 rel1 q1 => by
    replace rel1 : RWs B μ1 s1 H1 vs ws := rel1
    unfold srtW at q1
    split at q1
    · rename_i ds
      cases rel1 with
      | cons a1 a2 =>
      cases a2
      split at q1
      · rename_i es hs
        replace a1 : Fz H1 (Av B μ1 s1) _ (.list ds) := a1
        cases a1 with
        | lst h1 f1 =>
        exact .inl ⟨Av B μ1 s1, _, _, ds, es, rfl, h1.1, f1, hs, fun ys p fy hp => Fin.use (a := W) (w := .d (.list es)) q1 (same_upd hp) r1 (Fz.newL r1.bt' hp fy)⟩
      · exact q1.elim
    · rename_i kvs
      cases rel1 with
      | cons a1 a2 =>
      cases a2
      split at q1
      case isFalse => exact q1.elim
      rename_i hu
      split at q1
      · rename_i es hs
        obtain ⟨a, o, ns, rfl, ea, na, kp⟩ := FD.un a1 hu
        refine .inr ⟨Av B μ1 s1, a, ns, kvs, es, rfl, .inr ⟨o, by rw [hw]; exact ea⟩, kp, hs, fun ys p fy hp => Fin.use (a := W) (w := .d (.list es)) q1 (same_upd hp) r1 (Fz.newL r1.bt' hp fy)⟩
      · exact q1.elim
    · exact q1.elim
end
end DL
namespace DL
open PySem PySem.Spec PyProof.Rows L2
section
variable [KFrag]
/-! ### a value's truth; ranges as values -/
def toTr : W → CS → R Bool
  | .d .none, s => .ok false s
  | .d (.bool b), s => .ok b s
  | .d (.int i), s => .ok (i != 0) s
  | .d (.list ds), s => .ok (!ds.isEmpty) s
  | .d (.tuple ds), s => .ok (!ds.isEmpty) s
  | .c n, s => match s[n]? with
    | some (.lst ds) => .ok (!ds.isEmpty) s
    | _ => .bad
  | _, _ => .bad
def fTr (f : En → CS → R W) (ρ : En) (s : CS) : R Bool := (f ρ s).bind toTr
theorem empty_fz {H : Hp} {A : Addr → Prop} {xs : List V} {ds : List D} (f : Fzs H A xs ds) : (!ds.isEmpty) = !xs.isEmpty := by cases f <;> rfl
def fRgV (fs : En → CS → R (List W)) (ρ : En) (s : CS) : R W := (fs ρ s).bind fun ws s => match ws with
  | [.d (.int j)] => .ok (.rg 0 j) s
  | _ => .bad
def rgL : W → CS → R (List D)
  | .rg i j, s => if -(2 ^ 62) ≤ i ∧ i < 2 ^ 62 ∧ -(2 ^ 62) ≤ j ∧ j < 2 ^ 62 then .ok (rngD i (j - i).toNat) s else .bad
  | _, _ => .bad
def fItR (f : En → CS → R W) (ρ : En) (s : CS) : R (List D) := (f ρ s).bind rgL
section
variable {X : Cx} [HK X] {T : TX} {Wx : WXc} {e tg : Expr} {f : En → CS → R W} {fs : En → CS → R (List W)} {p pos : Pos} {td : TE}
theorem dt_truth (h : DE X T Wx e f) (he : ∀ whole, isTrue e X.env whole = (do let v ← whole; standAt e.pos; holding [v] (truthy v)) := by intro _; rfl) : DT X T Wx e (fTr f) := PT_imp (pt_truth h he) fun σ H Q ⟨B, μ, s, ρ, r, er, q⟩ =>
  tD_bind r er q fun w s1 v μ1 H1 st1 r1 e1 rel1 q1 => by
    unfold toTr at q1
    split at q1
    · cases rel1.data; exact ⟨_, rfl, Fin.here (a := Bool) q1 r1 rfl⟩
    · cases rel1.data; exact ⟨_, rfl, Fin.here (a := Bool) q1 r1 rfl⟩
    · cases rel1.data; exact ⟨_, rfl, Fin.here (a := Bool) q1 r1 rfl⟩
    · cases rel1.data with
      | lst h1 f1 => exact ⟨_, .inl ⟨_, h1.sq, empty_fz f1⟩, Fin.here (a := Bool) q1 r1 rfl⟩
    · cases rel1.data with
      | tup h1 f1 => exact ⟨_, .inr (.inl ⟨_, h1.sq, empty_fz f1⟩), Fin.here (a := Bool) q1 r1 rfl⟩
    · split at q1
      · rename_i hs
        obtain ⟨a, rfl, ha⟩ := rel1
        obtain ⟨xs, ea, f1⟩ := r1.cell _ a _ ha hs
        exact ⟨_, .inl ⟨_, .of ea, empty_fz f1⟩, Fin.here (a := Bool) q1 r1 rfl⟩
      · exact q1.elim
    · exact q1.elim
theorem cr_range1 : CallR X (.type "range") (fun vs H Q => ∃ j, vs = [V.int j] ∧ ∀ q, H q = none → Q (.ref q) (upd H q (.rng 0 j))) := by
  rintro pins s σ H vs us Q I rv ⟨j, rfl, q⟩
  cases rv with
  | cons r1 r2 =>
  cases r2
  obtain ⟨t, rfl⟩ := r1
  exact call_range_1 ⟨.ref s.heap.objs.size, _, I.laid (a := s.heap.objs.size) (o := .rng 0 j) (t' := s.toks + 1 + 1) (fun b o e => Heap.get?_push_of_some _ e) (Nat.le_refl _) ⟨_, _, _, Heap.get?_push_size _ rfl⟩, rfl, q _ (I.hok.fresh (Nat.le_refl _))⟩
theorem de_rgV (hg : Gl X "range") (hm : X.mg "range" = none) (ha : DA X T Wx [e] fs) (he : starEach [e] X.env = (false, eval e X.env) :: starEach [] X.env := by rfl) (hpl : (backTo pos (starEach [] X.env)).any (·.1) = false := by rfl) :
    DE X T Wx (.Call (.Name "range" p) [e] [] pos) (fRgV fs) := PE_imp (pe_callTy cr_range1 hg hm boot_range ha (by decide) (by decide) he hpl) fun σ H Q ⟨B, μ, s, ρ, r, e, q⟩ => tD_bind r e q fun ws s1 vs μ1 H1 st1 r1 e1 rel1 q1 => by
    replace rel1 : RWs B μ1 s1 H1 vs ws := rel1
    split at q1
    · rename_i j
      cases rel1 with
      | cons a1 a2 =>
      cases a2
      cases a1.data
      refine ⟨j, rfl, fun p hp => Fin.use (a := W) (w := .rg 0 j) q1 (same_upd hp) r1 ⟨p, rfl, upd_same, fun z => r1.bt' p z hp⟩⟩
    · exact q1.elim
theorem pi_rgV (he : PE X e td) : PI X tg e (fun σ H R => td σ H fun x H1 => ∃ a lo hi, x = .ref a ∧ H1 a = some (.rng lo hi) ∧ (-(2 ^ 62) ≤ lo ∧ lo < 2 ^ 62 ∧ -(2 ^ 62) ≤ hi ∧ hi < 2 ^ 62) ∧ R (Itr lo (hi - lo).toNat) H1) := by
  refine ⟨fun pins s σ H R I h => ?_⟩
  refine thn (he.run pins s σ H _ I h) fun u s1 ⟨x, H1, I1, rx, a, lo, hi, ex, ea, hb, q⟩ => ?_
  subst ex
  obtain rfl : u = Value.ref a := rx
  obtain ⟨t1, t2, t3, ho⟩ := (show ObjOk X.prog X.w H1 s1.heap a (.rng lo hi) from I1.hok a _ ea)
  refine wpAny_pyIter_range ho (small_one hb.1 hb.2.1 hb.2.2.1 hb.2.2.2) ?_
  refine pi_one (tk := s1.toks) I1 _ (turn_range _ lo (hi - lo).toNat) ?_ q
  have e1 : lo + ((0 : Nat) : Int) * 1 = lo := by simp
  have e2 : (((hi - lo).toNat : Nat) : Int) - ((0 : Nat) : Int) = Builtin.Range.rangeSize lo hi 1 := by rw [rangeSize_one]; split <;> omega
  show IsRangeIter _ _ (lo + ((0 : Nat) : Int) * 1) ((((hi - lo).toNat : Nat) : Int) - ((0 : Nat) : Int)) 1
  rw [e1, e2]
  exact Heap.get?_push_size _ rfl
theorem di_rgV (h : DE X T Wx e f) : DI X T Wx tg e (fItR f) := PI_imp (pi_rgV h) fun σ H Q ⟨B, μ, s, ρ, r, e, q⟩ =>
  tD_bind r e q fun w s1 v μ1 H1 st1 r1 e1 rel1 q1 => by
    unfold rgL at q1
    split at q1
    · split at q1
      · rename_i hb
        obtain ⟨a, ev, ea, _⟩ := rel1
        exact ⟨a, _, _, ev, ea, hb, Fin.here (a := List D) q1 r1 itr_rng⟩
      · exact q1.elim
    · exact q1.elim
end
end
end DL
namespace DL
open PySem PySem.Spec PyProof.Rows L2
/-! ### what laws by hand want -/
theorem callP0 {h : List W → CS → R W} {ρ : En} {s t : CS} {y : D} (k : h [] [] = .ok (.d y) t) : fCallP 0 (noX h) fNil ρ s = .ok (.d y) s := by
  show pureR (noX h) [] s = _
  unfold pureR noX
  rw [k]
theorem callP1 {h : List W → CS → R W} {fs : En → CS → R (List W)} {ρ : En} {s t : CS} {x y : D} (e : fs ρ s = .ok [.d x] s) (k : h [.d x] [] = .ok (.d y) t) : fCallP 1 (noX h) fs ρ s = .ok (.d y) s := by
  rw [fCallP, e]
  show pureR (noX h) [.d x] s = _
  unfold pureR noX
  rw [k]
theorem f2_at {g : D → D → Option D} {fa fb : En → CS → R W} {ρ : En} {s : CS} {x y z : D} (ea : fa ρ s = .ok (.d x) s) (eb : fb ρ s = .ok (.d y) s) (h : g x y = some z) : f2 g fa fb ρ s = .ok (.d z) s := by
  rw [f2, ea]
  show (fb ρ s).bind _ = _
  rw [eb]
  show lift2 g (.d x) (.d y) s = _
  simp only [lift2, h]
theorem fN1_at {g : List D → Option D} {fa : En → CS → R W} {ρ : En} {s : CS} {x z : D} (ea : fa ρ s = .ok (.d x) s) (h : g [x] = some z) : fN g (fCons fa fNil) ρ s = .ok (.d z) s := by
  rw [fN, fCons, ea]
  show liftN g [.d x] s = _
  simp only [liftN, allD, Option.map_some, h]
theorem cons1_at {fa : En → CS → R W} {ρ : En} {s : CS} {w : W} (ea : fa ρ s = .ok w s) : fCons fa fNil ρ s = .ok [w] s := by
  rw [fCons, ea]
  rfl
theorem asg_at {h : W → En → Option En} {f : En → CS → R W} {ρ ρ' : En} {s s1 : CS} {w : W} (e : f ρ s = .ok w s1) (k : h w ρ = some ρ') : gAsg h f ρ s = .nx ρ' s1 := by
  rw [gAsg, e]
  simp only [R.toT, k]
theorem seq_at {g k : En → CS → RT} {ρ ρ' : En} {s s' : CS} (e : g ρ s = .nx ρ' s') : gSeq g k ρ s = k ρ' s' := by
  rw [gSeq, e]
theorem fB_at {f : En → CS → R W} {ρ : En} {s s1 : CS} {b : Bool} (e : f ρ s = .ok (.d (.bool b)) s1) : fB f ρ s = .ok b s1 := by
  rw [fB, e]
  rfl
theorem not_at {f : En → CS → R Bool} {ρ : En} {s s1 : CS} {b : Bool} (e : f ρ s = .ok b s1) : fNot f ρ s = .ok (!b) s1 := by
  rw [fNot, e]
  rfl
theorem if_f {t : En → CS → R Bool} {g k : En → CS → RT} {ρ : En} {s s1 : CS} (e : t ρ s = .ok false s1) : gIf t g k ρ s = k ρ s1 := by
  rw [gIf, e]
  rfl
theorem andV_t {f g : En → CS → R W} {ρ : En} {s s1 : CS} (e : f ρ s = .ok (.d (.bool true)) s1) : fAndV f g ρ s = g ρ s1 := by
  rw [fAndV, fB_at e]
  rfl
theorem ret_at {f : En → CS → R W} {ρ : En} {s s1 : CS} {w : W} (e : f ρ s = .ok w s1) : gRet f ρ s = .rt w s1 := by
  rw [gRet, e]
  rfl
theorem cut1 (n : Int) (t : List Int) : DL.cutD ((n :: t).map .int) none (some 1) = [.int n] := by
  simp [DL.cutD, HT.sIx]
/-- [abs(int(c)) for c in script[:1]] + [j]: its first number -/
theorem cells_is (ns : List Int) (v : Nat) (j : Int) (ρ : En) (s : CS) (h0 : ρ[0]? = some (some (.sc ns))) (hv : v < ρ.length) : ∃ (i : Int) (r : List D),
    (f2 addD (fLc [v] (fIt (fSl (fVar 0) fO0 (fO1 (fC (.int 1))))) (hN v) fYes (fN DL.absD (fCons (fN DL.intD (fCons (fVar v) fNil)) fNil))) (fN lstD (fCons (fC (.int j)) fNil))) ρ s = .ok (.d (.list (.int i :: r))) s := by
  have e0 : fVar 0 ρ s = .ok (.sc ns) s := by simp only [fVar, h0]
  have e1 : fSl (fVar 0) fO0 (fO1 (fC (.int 1))) ρ s = .ok (.d (.list (DL.cutD (ns.map .int) none (some 1)))) s := by
    rw [fSl, e0]
    rfl
  cases ns with
  | nil =>
    refine ⟨j, [], ?_⟩
    have e2 : fIt (fSl (fVar 0) fO0 (fO1 (fC (.int 1)))) ρ s = .ok [] s := by
      rw [fIt, e1]
      rfl
    refine f2_at (x := .list []) (y := .list [.int j]) ?_ rfl rfl
    rw [fLc, e2]
    rfl
  | cons n t =>
    refine ⟨if n < 0 then -n else n, [.int j], ?_⟩
    have e2 : fIt (fSl (fVar 0) fO0 (fO1 (fC (.int 1)))) ρ s = .ok [.int n] s := by
      rw [fIt, e1, cut1]
      rfl
    refine f2_at (x := .list [.int (if n < 0 then -n else n)]) (y := .list [.int j]) ?_ rfl rfl
    have e3 : fVar v ((wipeE ρ [v]).set v (some (.d (.int n)))) s = .ok (.d (.int n)) s := by
      have : ((wipeE ρ [v]).set v (some (W.d (.int n))))[v]? = some (some (.d (.int n))) := by
        rw [List.getElem?_set_self (by show v < (ρ.set v none).length; rw [List.length_set]; exact hv)]
      simp only [fVar, this]
    rw [fLc, e2]
    show (if [PyData.int n].length ≤ line then endL [] (compL (hN v) fYes _ (wipeE ρ [v]) [.int n] s) else .bad) = _
    rw [if_pos (show [PyData.int n].length ≤ line by unfold line; simp)]
    have e4 : fN DL.absD (fCons (fN DL.intD (fCons (fVar v) fNil)) fNil) ((wipeE ρ [v]).set v (some (.d (.int n)))) s = .ok (.d (.int (if n < 0 then -n else n))) s := fN1_at (x := .int n) (fN1_at (x := .int n) e3 rfl) rfl
    unfold compL
    simp only [hN, fYes, R.bind0, if_true, e4, consR, compL, endL]
    rfl
/-- a def's end -/
theorem fnR1 {n : Nat} {g : En → CS → RT} {w x : W} {s s' : CS} (e : g (startE n [w]) s = .rt x s') : fnR 1 n g [w] s = .ok x s' := by
  show (if [w].length = 1 then _ else _) = _
  rw [if_pos (show [w].length = 1 from rfl), e]
end DL
namespace DL
open PySem PySem.Spec PyProof.Rows L2
/-! ### frames over the written part -/
section
variable [KFrag]
instance hk_cx {CX : CXT} {P : Program} {w : World} {mg : Str → Option Value} {base : Heap} {N : List Str} {qual : Str} {scope : Scope} {f : Addr} {cd : Value} {A : Around} {outer : List Env} {s : Shared} {H : Hp} {E : XK} : HK (cxOf CX P w KFrag.K mg base N qual scope f cd A outer s H E) := ⟨rfl⟩
instance hk_blk {X : Cx} [h : HK X] {s : Shared} {H : Hp} {scope : Scope} {env : Env} {fp : List Addr} : HK (X.blk s H scope env fp) := ⟨h.eq⟩
/-! ### a tuple of the written part -/
theorem de_gtup {X : Cx} [HK X] {T : TX} {Wx : WXc} {x : Str} {a : Addr} {xs : List V} {ds : List D} {pos : Pos} (hg : Gl X x) (hm : X.mg x = some (.ref a)) (hk : KTp a xs) (f : ∀ H A, Fzs H A xs ds) (hd : (x == ("__debug__" : Str)) = false := by decide) : DE X T Wx (.Name x pos) (fC (.tuple ds)) :=
  de_const (v := .ref a) (pe_glob hg hm (show Value.ref a = Value.ref a from rfl) hd) fun H A => .tup (.inr hk) (f H A)
/-! ### x is None -/
def isN (neg : Bool) (w : W) (s : CS) : R W := match w with
  | .d .none => .ok (.d (.bool (!neg))) s
  | .d _ => .ok (.d (.bool neg)) s
  | _ => .bad
def fIsN (neg : Bool) (f : En → CS → R W) (ρ : En) (s : CS) : R W := (f ρ s).bind (isN neg)
section
variable {X : Cx} [HK X] {T : TX} {Wx : WXc} {e : Expr} {f : En → CS → R W} {pos pos' : Pos} {j : Nat}
theorem fz_none {H : Hp} {A : Addr → Prop} {v : V} {d : D} (h : Fz H A v d) (hd : d ≠ .none) : v ≠ .non := by
  cases h <;> first | (intro z; cases z; done) | exact absurd rfl hd
theorem isN_use {σ : L2.St} {H : Hp} {Q : VK} (q : tD T Wx (fIsN false f) σ H Q) : tIsN (tD T Wx f) σ H Q := by
  obtain ⟨B, μ, s, ρ, r, e, q⟩ := q
  refine tD_bind r e q fun w s1 v μ1 H1 st1 r1 e1 rel1 q1 => ?_
  unfold isN at q1
  split at q1
  · cases rel1.data
    exact Fin.here (a := W) q1 r1 (Fz.bl true)
  · rename_i d hd
    have := fz_none rel1.data (fun z => hd (by rw [z]))
    show Q (.bl (decide (v = .non))) H1
    rw [decide_eq_false this]
    exact Fin.here (a := W) q1 r1 (Fz.bl false)
  · exact q1.elim
theorem isNN_use {σ : L2.St} {H : Hp} {Q : VK} (q : tD T Wx (fIsN true f) σ H Q) : tNotN (tD T Wx f) σ H Q := by
  obtain ⟨B, μ, s, ρ, r, e, q⟩ := q
  refine tD_bind r e q fun w s1 v μ1 H1 st1 r1 e1 rel1 q1 => ?_
  unfold isN at q1
  split at q1
  · cases rel1.data
    exact Fin.here (a := W) q1 r1 (Fz.bl false)
  · rename_i d hd
    have := fz_none rel1.data (fun z => hd (by rw [z]))
    show Q (.bl (!decide (v = .non))) H1
    rw [decide_eq_false this]
    exact Fin.here (a := W) q1 r1 (Fz.bl true)
  · exact q1.elim
theorem de_isN (h : DE X T Wx e f) : DE X T Wx (.Compare e [.Is] [.Constant .none j pos'] pos) (fIsN false f) := PE_imp (pe_cmp (pc_isN h)) fun _ _ _ => isN_use
theorem de_isNN (h : DE X T Wx e f) : DE X T Wx (.Compare e [.IsNot] [.Constant .none j pos'] pos) (fIsN true f) := PE_imp (pe_cmp (pc_notN h)) fun _ _ _ => isNN_use
theorem dt_isN (h : DE X T Wx e f) : DT X T Wx (.Compare e [.Is] [.Constant .none j pos'] pos) (fB (fIsN false f)) := PT_imp (pt_cmp (pc_isN h)) fun _ _ _ q => tB_imp (fun _ _ _ => isN_use) (tB_use q)
theorem dt_isNN (h : DE X T Wx e f) : DT X T Wx (.Compare e [.IsNot] [.Constant .none j pos'] pos) (fB (fIsN true f)) := PT_imp (pt_cmp (pc_notN h)) fun _ _ _ q => tB_imp (fun _ _ _ => isNN_use) (tB_use q)
end
/-! ### t[a:b:c] -/
def pick {α : Type} (xs : List α) (ix : List Nat) : List α := ix.filterMap (xs[·]?)
def tIx (n : Nat) (lo hi : Option Int) (st : Int) : List Nat := (List.range (Builtin.Slice.slicePlaces (Builtin.Slice.sliceAdjust lo hi st n).1 (Builtin.Slice.sliceAdjust lo hi st n).2 st)).map fun (k : Nat) => ((Builtin.Slice.sliceAdjust lo hi st n).1 + (k : Int) * st).toNat
def lIx (n : Nat) (lo hi : Option Int) (st : Int) : List Nat := sliceRange (sliceBounds lo hi (some st) n).1 (sliceBounds lo hi (some st) n).2.1 (sliceBounds lo hi (some st) n).2.2
def slStD (lo hi : Option Int) (st : Int) (d : D) : Option D := if st = 0 then none else match d with
  | .tuple ds => if st = 1 then none else if (tIx ds.length lo hi st).length ≤ line then some (.tuple (pick ds (tIx ds.length lo hi st))) else none
  | .list ds => if (lIx ds.length lo hi st).length ≤ line then some (.list (pick ds (lIx ds.length lo hi st))) else none
  | _ => none
theorem pick_len {α : Type} (xs : List α) (ix : List Nat) : (pick xs ix).length ≤ ix.length := List.length_filterMap_le _ _
theorem Vals.pick {xs : List V} {us : List Value} (r : Vals xs us) : ∀ ix : List Nat, Vals (pick xs ix) (pick us ix)
  | [] => .nil
  | i :: ix => by
    show Vals (List.filterMap _ (i :: ix)) (List.filterMap _ (i :: ix))
    cases h : xs[i]? with
    | none =>
      have h2 : us[i]? = none := r.none_of h
      rw [List.filterMap_cons_none h, List.filterMap_cons_none h2]
      exact Vals.pick r ix
    | some x =>
      obtain ⟨u, h2, h3⟩ := r.get h
      rw [List.filterMap_cons_some h, List.filterMap_cons_some h2]
      exact .cons h3 (Vals.pick r ix)
theorem Fzs.pick {H : Hp} {A : Addr → Prop} {xs : List V} {ds : List D} (f : Fzs H A xs ds) : ∀ ix : List Nat, Fzs H A (pick xs ix) (pick ds ix)
  | [] => .nil
  | i :: ix => by
    show Fzs H A (List.filterMap _ (i :: ix)) (List.filterMap _ (i :: ix))
    cases h : xs[i]? with
    | none =>
      have h2 : ds[i]? = none := List.getElem?_eq_none_iff.mpr (by rw [← f.len]; exact List.getElem?_eq_none_iff.mp h)
      rw [List.filterMap_cons_none h, List.filterMap_cons_none h2]
      exact Fzs.pick f ix
    | some x =>
      obtain ⟨d, h2, h3⟩ := f.getV h
      rw [List.filterMap_cons_some h, List.filterMap_cons_some h2]
      exact .cons h3 (Fzs.pick f ix)
section
variable {prog : Program} {w : World} {A : Around} {E : Value → Shared → Prop} {s : Shared}
theorem applied_st {sl : Addr} {vl vu vs : Value} {lo hi : Option Int} {st : Int} {n : Nat} {Q : Int × Int × Nat → Shared → Prop} (hs : s.heap.IsSliceOf sl vl vu vs) (pl : IsPart vl lo) (pu : IsPart vu hi) (ps : IsPart vs (some st)) (h0 : st ≠ 0)
    (h : Q ((Builtin.Slice.sliceAdjust lo hi st n).1, st, Builtin.Slice.slicePlaces (Builtin.Slice.sliceAdjust lo hi st n).1 (Builtin.Slice.sliceAdjust lo hi st n).2 st) s) : wpAny (model prog w) A (Builtin.Slice.sliceApplied (.ref sl) (pure (n : Int))) Q E s := by
  obtain ⟨o, ho, hc, hd⟩ := id hs
  unfold Builtin.Slice.sliceApplied Builtin.Slice.sliceFields
  refine wpAny_bind (wpAny_bind (wpAny_field ho hd (x := vl) rfl (wpAny_bind (wpAny_field ho hd (x := vu) rfl (wpAny_bind (wpAny_field ho hd (x := vs) rfl (wpAny_pure ?_)))))))
  refine wpAny_bind (HT.slicePart_ ps ?_)
  show wpAny _ _ (if (st == 0) = true then _ else _) _ _ s
  rw [if_neg (by simpa using h0)]
  exact wpAny_bind (HT.slicePart_ pl (wpAny_bind (HT.slicePart_ pu (wpAny_bind (wpAny_pure (wpAny_pure h))))))
theorem tup_step {t sl : Addr} {items : Array Value} {vl vu vs : Value} {lo hi : Option Int} {st : Int} {Q : Value → Shared → Prop} (ht : IsTup s.heap t items) (hs : s.heap.IsSliceOf sl vl vu vs) (pl : IsPart vl lo) (pu : IsPart vu hi) (ps : IsPart vs (some st)) (h0 : st ≠ 0) (h1 : st ≠ 1)
    (h : Q (.ref s.heap.objs.size) { s with heap := s.heap.push { cls := .type "tuple", data := .seq (pick items.toList (tIx items.size lo hi st)).toArray } }) (hl : (tIx items.size lo hi st).length ≤ sizeLine) : wpAny (model prog w) A (getItem (.ref t) (.ref sl)) Q E s := by
  obtain ⟨o, ho, hc, hd⟩ := id hs
  have hT : s.TypeIs (.ref sl) "slice" := ⟨o, ho, hc⟩
  have hz : sizeOk (.seq (pick items.toList (tIx items.size lo hi st)).toArray) := by
    show (pick items.toList (tIx items.size lo hi st)).toArray.size ≤ sizeLine
    rw [List.size_toArray]
    exact Nat.le_trans (pick_len _ _) hl
  unfold getItem
  try with_reducible refine wpAny_holding ?_
  first | refine wpAny_bind (wpAny_pure ?_) | skip
  refine wpAny_bind (wpAny_sequenceKey ht.typeIs (by decide) ?_)
  refine wpAny_bind (wpAny_callSpecial?_slot (name := Str.ofString "__getitem__") ht.typeIs PyProof.Rows.slot_tuple_getitem (wpAny_call_entry PyProof.Rows.slot_tuple_getitem ht.typeIs entry_tuple_getitem ?_ (args_tuple_getitem _ _)))
  show wpAny _ _ (Builtin.Tuple.tupleItemsOf (.ref t) >>= _) _ _ s
  refine wpAny_bind (tupleItemsOf_ ht ?_)
  refine wpAny_bind (wpAny_typeOf hT ?_)
  rw [if_pos (by decide)]
  refine wpAny_bind (applied_st hs pl pu ps h0 ?_)
  have hno : ¬ (((Builtin.Slice.sliceAdjust lo hi st items.size).1 == 0 && st == 1 && Builtin.Slice.slicePlaces (Builtin.Slice.sliceAdjust lo hi st items.size).1 (Builtin.Slice.sliceAdjust lo hi st items.size).2 st == items.size) = true) := by
    intro q
    rw [Bool.and_eq_true, Bool.and_eq_true] at q
    exact h1 (eq_of_beq q.1.2)
  dsimp only
  rw [if_neg hno]
  have ep : ((List.range (Builtin.Slice.slicePlaces (Builtin.Slice.sliceAdjust lo hi st items.size).1 (Builtin.Slice.sliceAdjust lo hi st items.size).2 st)).filterMap fun (k : Nat) => items[((Builtin.Slice.sliceAdjust lo hi st items.size).1 + (k : Int) * st).toNat]?) = pick items.toList (tIx items.size lo hi st) := by
    unfold pick tIx
    rw [List.filterMap_map]
    congr 1
    funext k
    simp
  rw [ep]
  refine wpAny_bind ?_
  unfold Builtin.Tuple.tupleExact
  exact wpAny_newObj_type (wpAny_pure ⟨_, rfl, wpAny_pure h⟩)
end
/-! the expression -/
def rStep (K : PySem.W.Frag) (x : V) (lo hi : Option Int) (st : Int) (H : Hp) (Q : VK) : Prop := st ≠ 0 ∧ ((∃ a xs, x = .ref a ∧ SqT K H a xs ∧ st ≠ 1 ∧ (tIx xs.length lo hi st).length ≤ sizeLine ∧ ∀ p, H p = none → Q (.ref p) (upd H p (.tup (pick xs (tIx xs.length lo hi st))))) ∨
  ∃ a xs, x = .ref a ∧ SqL K H a xs ∧ (lIx xs.length lo hi st).length ≤ sizeLine ∧ ∀ p, H p = none → Q (.ref p) (upd H p (.lst (pick xs (lIx xs.length lo hi st)))))
section
variable {X : Cx} {e sp : Expr} {lo hi : Option Expr} {te : TE} {tl th ts : TO} {p2 pos : Pos}
theorem pe_step (he : PE X e te) (hl : PO X lo tl) (hu : PO X hi th) (hs : PO X (some sp) ts) (hop : ∀ v u, subscripted (.Slice lo hi (some sp) p2) false v u = operate [v, u] (getItem v u) := by intro _ _; rfl) :
    PE X (.Subscript e (.Slice lo hi (some sp) p2) pos) (fun σ H Q => te σ H fun x H1 => tl σ H1 fun l H2 => th σ H2 fun u H3 => ts σ H3 fun o H4 => ∃ st, o = some st ∧ rStep X.K x l u st H4 Q) := by
  refine ⟨fun pins s σ H Q I h => ?_⟩
  refine Subscript_ (thn (he.run pins s σ H _ I h) fun v s1 ⟨x, H1, I1, r1, q1⟩ => ?_)
  refine wpAny_Slice (thn (hl.run pins s1 σ H1 _ I1 q1) fun vl s2 ⟨l, H2, I2, pl, q2⟩ => thn (hu.run pins s2 σ H2 _ I2 q2) fun vu s3 ⟨u, H3, I3, pu, q3⟩ => thn (hs.run pins s3 σ H3 _ I3 q3) fun vs s4 ⟨o, H4, I4, ps, st, eo, h0, q4⟩ => ?_)
  subst eo
  have I5 : Inv X pins σ H4 { s4 with heap := s4.heap.push { cls := .type "slice", data := .fields #[vl, vu, vs] } } := I4.kept (t' := s4.toks) fun b ob q => Heap.get?_push_of_some _ q
  rcases q4 with ⟨a, xs, rfl, hx, h1, hz, q⟩ | ⟨a, xs, rfl, hx, hz, q⟩
  · obtain rfl : v = Value.ref a := r1
    obtain ⟨its, r, ht, hsz⟩ := I5.tuple hx
    have hn : its.toArray.size = xs.length := by rw [List.size_toArray]; exact r.length.symm
    show wpAny (model X.prog X.w) X.A (subscriptTail e (.Slice lo hi (some sp) p2) (.ref a) (.ref s4.heap.objs.size)) (EP X pins σ Q) X.xe { s4 with heap := s4.heap.push { cls := .type "slice", data := .fields #[vl, vu, vs] } }
    refine tail_any (ops := [.ref a, .ref s4.heap.objs.size]) ht.typeIs PyProof.Rows.slot_tuple_getitem.lookup ?_ (hop _ _)
    refine tup_step ht (Heap.IsSliceOf.new _ vl vu vs) pl pu ps h0 h1 ?_ (by rw [hn]; exact hz)
    rw [hn]
    refine ⟨.ref _, _, I5.laid (t' := s4.toks) (o := .tup (pick xs (tIx xs.length l u st))) (fun b ob q => Heap.get?_push_of_some _ q) (Nat.le_refl _) ?_, rfl, q _ (I5.hok.fresh (Nat.le_refl _))⟩
    exact ⟨Nat.le_trans (pick_len _ _) hz, _, Vals.pick r _, IsTup.new _ _⟩
  · obtain rfl : v = Value.ref a := r1
    obtain ⟨its, r, ht, hsz⟩ := I5.list hx
    have hn : its.toArray.size = xs.length := by rw [List.size_toArray]; exact r.length.symm
    show wpAny (model X.prog X.w) X.A (subscriptTail e (.Slice lo hi (some sp) p2) (.ref a) (.ref s4.heap.objs.size)) (EP X pins σ Q) X.xe { s4 with heap := s4.heap.push { cls := .type "slice", data := .fields #[vl, vu, vs] } }
    refine tail_any (ops := [.ref a, .ref s4.heap.objs.size]) ht.isList.typeIs (PySem.slot_list_getitem.lookup) ?_ (hop _ _)
    refine wpAny_getItem_list_slice ht.isList (Heap.IsSliceOf.new _ vl vu vs) pl pu ps (by simpa using h0) ?_ (by rw [hn]; exact hsz)
    have ep : slicePick its.toArray l u (some st) = (pick its (lIx xs.length l u st)).toArray := by
      unfold slicePick pick lIx
      rw [hn]
      congr 1
      congr 1
      funext k
      simp
    rw [ep]
    refine ⟨.ref _, _, I5.laid (t' := s4.toks) (o := .lst (pick xs (lIx xs.length l u st))) (fun b ob q => Heap.get?_push_of_some _ q) (Nat.le_refl _) ?_, rfl, q _ (I5.hok.fresh (Nat.le_refl _))⟩
    exact ⟨Nat.le_trans (pick_len _ _) hz, _, 0, Vals.pick r _, Heap.get?_push_size _ rfl⟩
end
def fStep (f : En → CS → R W) (lo hi st : fO) (ρ : En) (s : CS) : R W := (f ρ s).bind fun x s => (lo ρ s).bind fun l s => (hi ρ s).bind fun h s => (st ρ s).bind fun o s => match o, x with
  | some k, .d d => match slStD l h k d with
    | some z => .ok (.d z) s
    | none => .bad
  | _, _ => .bad
section
variable {X : Cx} [HK X] {T : TX} {Wx : WXc} {e sp : Expr} {lo hi : Option Expr} {f : En → CS → R W} {gl gh gs : fO} {p2 pos : Pos}
theorem de_step (h : DE X T Wx e f) (hl : DO X T Wx lo gl) (hu : DO X T Wx hi gh) (hs : DO X T Wx (some sp) gs) (hop : ∀ v u, subscripted (.Slice lo hi (some sp) p2) false v u = operate [v, u] (getItem v u) := by intro _ _; rfl) :
    DE X T Wx (.Subscript e (.Slice lo hi (some sp) p2) pos) (fStep f gl gh gs) := PE_imp (pe_step h hl hu hs hop) fun σ H Q ⟨B, μ, s, ρ, r, e, q⟩ =>
  tD_bind r e q fun w s1 v μ1 H1 st1 r1 e1 rel1 q1 => tD_bind r1 e1 q1 fun l s2 vl μ2 H2 st2 r2 e2 rel2 q2 => tD_bind r2 e2 q2 fun u s3 vu μ3 H3 st3 r3 e3 rel3 q3 => tD_bind r3 e3 q3 fun o s4 vo μ4 H4 st4 r4 e4 rel4 q4 => by
    cases rel2
    cases rel3
    cases rel4
    split at q4
    · rename_i k d
      have rel := (RW.stp ((st2.trans st3).trans st4) rel1).data
      split at q4
      · rename_i z hz
        unfold slStD at hz
        split at hz
        · cases hz
        · rename_i h0
          refine ⟨k, rfl, h0, ?_⟩
          cases rel with
          | @tup a xs ds h1 f1 =>
            simp only at hz
            split at hz
            · cases hz
            · rename_i h2
              split at hz
              · rename_i h3
                cases hz
                refine .inl ⟨a, xs, rfl, h1.sq, h2, by rw [f1.len, line_eq]; exact h3, fun p hp => Fin.use (a := W) q4 (same_upd hp) r4 ?_⟩
                have := Fz.newT r4.bt' hp (f1.pick (tIx ds.length l u k))
                rw [f1.len]
                exact this
              · cases hz
          | @lst a xs ds h1 f1 =>
            simp only at hz
            split at hz
            · rename_i h3
              cases hz
              refine .inr ⟨a, xs, rfl, h1.sq, by rw [f1.len, line_eq]; exact h3, fun p hp => Fin.use (a := W) q4 (same_upd hp) r4 ?_⟩
              have := Fz.newL r4.bt' hp (f1.pick (lIx ds.length l u k))
              rw [f1.len]
              exact this
            · cases hz
          | _ => cases hz
      · exact q4.elim
    · exact q4.elim
/-! an item of a cell or of data -/
def ixA (w u : W) (s : CS) : R W := match w with
  | .c n => ixC (.c n) u s
  | _ => lift2 ixD w u s
def fIxA (f g : En → CS → R W) (ρ : En) (s : CS) : R W := (f ρ s).bind fun w s => (g ρ s).bind fun u s => ixA w u s
theorem de_ixA {e2 : Expr} {g : En → CS → R W} (ha : DE X T Wx e f) (hb : DE X T Wx e2 g) (hs : PlainIx e2 := by exact fun _ _ => rfl) : DE X T Wx (.Subscript e e2 pos) (fIxA f g) := PE_imp (pe_ix (ix_list.or dix) ha hb hs) fun σ H Q ⟨B, μ, s, ρ, r, e, q⟩ =>
  tD_bind r e q fun w s1 v μ1 H1 st1 r1 e1 rel1 q1 => tD_bind r1 e1 q1 fun u s2 x μ2 H2 st2 r2 e2 rel2 q2 => by
    have rel1 := RW.stp st2 rel1
    unfold ixA at q2
    split at q2
    · exact .inl (ixC_use r2 rel1 rel2 q2)
    · exact .inr (lift2_use r2 rel1 rel2 q2)
end
/-! x in range(a, b, c) -/
theorem rg3_contains (r : Addr) (a b c i : Int) (t u v k : Tok) :
    Meets (Builtin.«range.__contains__» ⟨[.ref r, .int i k], []⟩) (fun _ R s => s.heap.get? r = some { cls := .type "range", dict := none, data := .fields #[.int a t, .int b u, .int c v], slots := #[] } ∧ R (.ok (.ret (.bool (Builtin.Range.rangePlace? a b c i).isSome))) s) :=
  .of_wp fun prog w A R s h => by obtain ⟨hp, g, d, tk, os⟩ := s; obtain ⟨hl, h⟩ := h; wp_walk; exact ⟨_, rfl, h⟩
def inRg (neg : Bool) (u : W) (ws : List W) (s : CS) : R W := match u, ws with
  | .d (.int i), [.d (.int a), .d (.int b), .d (.int c)] => if 0 < c ∧ c < 1000 ∧ -(2 ^ 62) < a ∧ a < 2 ^ 62 ∧ -(2 ^ 62) < b ∧ b < 2 ^ 62 then .ok (.d (.bool (xor neg (Builtin.Range.rangePlace? a b c i).isSome))) s else .bad
  | _, _ => .bad
def fInRg (neg : Bool) (f : En → CS → R W) (fs : En → CS → R (List W)) (ρ : En) (s : CS) : R W := (f ρ s).bind fun u s => (fs ρ s).bind fun ws s => inRg neg u ws s
section
variable {X : Cx} [HK X] {T : TX} {Wx : WXc} {e : Expr} {es : List Expr} {f : En → CS → R W} {fs : En → CS → R (List W)} {ty : TE} {ta : TA} {p pos p2 : Pos}
def tInRg (neg : Bool) (ty : TE) (ta : TA) : TE := fun σ H Q => ty σ H fun y H1 => ta σ H1 fun vs H2 => ∃ i a b c, y = .int i ∧ vs = [.int a, .int b, .int c] ∧ (0 < c ∧ c < 1000 ∧ -(2 ^ 62) < a ∧ a < 2 ^ 62 ∧ -(2 ^ 62) < b ∧ b < 2 ^ 62) ∧ Q (.bl (xor neg (Builtin.Range.rangePlace? a b c i).isSome)) H2
theorem rg_call (hg : Gl X "range") (hm : X.mg "range" = none) (ha : PA X (e :: es) ta) (hs : starEach (e :: es) X.env = (false, eval e X.env) :: starEach es X.env) (hpl : (backTo pos (starEach es X.env)).any (·.1) = false) {pins : List (Addr × Obj)} {s : Shared} {σ : L2.St} {H : Hp} {R : Value → Shared → Prop} {G : List V → Hp → Prop} (I : Inv X pins σ H s) (hG : ta σ H G)
    (h : ∀ vs H2, G vs H2 → ∃ a b c, vs = [.int a, .int b, .int c] ∧ (0 < c ∧ c < 1000 ∧ -(2 ^ 62) < a ∧ a < 2 ^ 62 ∧ -(2 ^ 62) < b ∧ b < 2 ^ 62) ∧ ∀ q s2 t u v, Inv X pins σ H2 s2 → s2.heap.get? q = some { cls := .type "range", dict := none, data := .fields #[.int a t, .int b u, .int c v], slots := #[] } → R (.ref q) s2) :
    wpAny (model X.prog X.w) X.A (eval (.Call (.Name "range" p) (e :: es) [] pos) X.env) R X.xe s := by
  refine wpAny_Call_Name_kw (ld_blt I hg hm PyProof.Rows.boot_range ?_ (by decide) (by decide))
  refine PyProof.Rows.callWith_type1 (thn (ha.run pos pins s σ H _ I hG) fun us s1 ⟨vs, H1, I1, r1, q1⟩ => ?_) hs hpl
  obtain ⟨a, b, c, rfl, hb, q⟩ := h _ _ q1
  cases r1 with
  | cons a1 a2 =>
  cases a2 with
  | cons a3 a4 =>
  cases a4 with
  | cons a5 a6 =>
  cases a6
  obtain ⟨t, rfl⟩ := a1
  obtain ⟨u, rfl⟩ := a3
  obtain ⟨v, rfl⟩ := a5
  refine call_range_3 (by omega) (q _ _ t u v (I1.kept (t' := s1.toks) fun b o e => Heap.get?_push_of_some _ e) (Heap.get?_push_size _ rfl)) (Or.inl (PyProof.noPylong_small (by omega)))
theorem rg_in {B : Around} {E : Value → Shared → Prop} {Q : Value → Shared → Prop} {s : Shared} {q : Addr} {a b c i : Int} {t u v k : Tok} (ho : s.heap.get? q = some { cls := .type "range", dict := none, data := .fields #[.int a t, .int b u, .int c v], slots := #[] }) (h : Q (.bool (Builtin.Range.rangePlace? a b c i).isSome) s) :
    wpAny (model X.prog X.w) B (compareOp .In (.int i k) (.ref q)) Q E s := by
  show wpAny _ _ (do return Value.bool (← contains (Value.ref q) (Value.int i k))) _ _ s
  exact wpAny_bind (wpAny_contains_slot (T := "range") ⟨_, ho, rfl⟩ F.slot_range_contains (call_meets F.slot_range_contains ⟨_, ho, rfl⟩ F.entry_range_contains (F.args_range_contains_2 _ _) (rg3_contains q a b c i t u v k) ⟨ho, wpAny_truthy_bool (wpAny_pure h)⟩))
theorem rg_nin {B : Around} {E : Value → Shared → Prop} {Q : Value → Shared → Prop} {s : Shared} {q : Addr} {a b c i : Int} {t u v k : Tok} (ho : s.heap.get? q = some { cls := .type "range", dict := none, data := .fields #[.int a t, .int b u, .int c v], slots := #[] }) (h : Q (.bool (!(Builtin.Range.rangePlace? a b c i).isSome)) s) :
    wpAny (model X.prog X.w) B (compareOp .NotIn (.int i k) (.ref q)) Q E s := by
  show wpAny _ _ (do return Value.bool (!(← contains (Value.ref q) (Value.int i k)))) _ _ s
  exact wpAny_bind (wpAny_contains_slot (T := "range") ⟨_, ho, rfl⟩ F.slot_range_contains (call_meets F.slot_range_contains ⟨_, ho, rfl⟩ F.entry_range_contains (F.args_range_contains_2 _ _) (rg3_contains q a b c i t u v k) ⟨ho, wpAny_truthy_bool (wpAny_pure h)⟩))
theorem pc_rgIn {e0 : Expr} (hg : Gl X "range") (hm : X.mg "range" = none) (hi : PE X e0 ty) (ha : PA X (e :: es) ta) (hs : starEach (e :: es) X.env = (false, eval e X.env) :: starEach es X.env) (hpl : (backTo pos (starEach es X.env)).any (·.1) = false) : PC X .In e0 (.Call (.Name "range" p) (e :: es) [] pos) (tInRg false ty ta) := by
  refine ⟨fun pins s σ H Q I h => thn (hi.run pins s σ H _ I h) fun iv s1 ⟨y, H1, I1, ry, q1⟩ => rg_call hg hm ha hs hpl I1 q1 fun vs H2 ⟨i, a, b, c, ey, ev, hb, q2⟩ => ⟨a, b, c, ev, hb, fun q s2 t u v I2 ho => ?_⟩⟩
  subst ey
  obtain ⟨k, rfl⟩ := ry
  refine rg_in ho ⟨.bl _, H2, I2, rfl, ?_⟩
  rw [Bool.false_xor] at q2
  exact q2
theorem pc_rgNin {e0 : Expr} (hg : Gl X "range") (hm : X.mg "range" = none) (hi : PE X e0 ty) (ha : PA X (e :: es) ta) (hs : starEach (e :: es) X.env = (false, eval e X.env) :: starEach es X.env) (hpl : (backTo pos (starEach es X.env)).any (·.1) = false) : PC X .NotIn e0 (.Call (.Name "range" p) (e :: es) [] pos) (tInRg true ty ta) := by
  refine ⟨fun pins s σ H Q I h => thn (hi.run pins s σ H _ I h) fun iv s1 ⟨y, H1, I1, ry, q1⟩ => rg_call hg hm ha hs hpl I1 q1 fun vs H2 ⟨i, a, b, c, ey, ev, hb, q2⟩ => ⟨a, b, c, ev, hb, fun q s2 t u v I2 ho => ?_⟩⟩
  subst ey
  obtain ⟨k, rfl⟩ := ry
  refine rg_nin ho ⟨.bl _, H2, I2, rfl, ?_⟩
  rw [Bool.true_xor] at q2
  exact q2
theorem inRg_use {neg : Bool} {σ : L2.St} {H : Hp} {Q : VK} (q : tD T Wx (fInRg neg f fs) σ H Q) : tInRg neg (tD T Wx f) (tD T Wx fs) σ H Q := by
  obtain ⟨B, μ, s, ρ, r, e, q⟩ := q
  refine tD_bind r e q fun u s1 y μ1 H1 st1 r1 e1 rel1 q1 => tD_bind r1 e1 q1 fun ws s2 vs μ2 H2 st2 r2 e2 rel2 q2 => ?_
  replace rel2 : RWs B μ2 s2 H2 vs ws := rel2
  unfold inRg at q2
  split at q2
  · rename_i i a b c
    split at q2
    · rename_i hb
      cases rel1.data
      cases rel2 with
      | cons a1 a2 =>
      cases a2 with
      | cons a3 a4 =>
      cases a4 with
      | cons a5 a6 =>
      cases a6
      cases a1.data
      cases a3.data
      cases a5.data
      exact ⟨i, a, b, c, rfl, rfl, hb, Fin.here (a := W) q2 r2 (Fz.bl _)⟩
    · exact q2.elim
  · exact q2.elim
theorem dt_rgNin {e0 : Expr} (hg : Gl X "range") (hm : X.mg "range" = none) (hi : DE X T Wx e0 f) (ha : DA X T Wx (e :: es) fs) (hs : starEach (e :: es) X.env = (false, eval e X.env) :: starEach es X.env := by rfl) (hpl : (backTo pos (starEach es X.env)).any (·.1) = false := by rfl)
    (hmk : behindInMarks .NotIn (.Call (.Name "range" p) (e :: es) [] pos) = false := by first | exact nomark _ | rfl) : DT X T Wx (.Compare e0 [.NotIn] [.Call (.Name "range" p) (e :: es) [] pos] p2) (fB (fInRg true f fs)) :=
  PT_imp (pt_cmp (pc_rgNin hg hm hi ha hs hpl) hmk) fun _ _ _ q => tB_imp (fun _ _ _ => inRg_use) (tB_use q)
theorem dt_rgIn {e0 : Expr} (hg : Gl X "range") (hm : X.mg "range" = none) (hi : DE X T Wx e0 f) (ha : DA X T Wx (e :: es) fs) (hs : starEach (e :: es) X.env = (false, eval e X.env) :: starEach es X.env := by rfl) (hpl : (backTo pos (starEach es X.env)).any (·.1) = false := by rfl)
    (hmk : behindInMarks .In (.Call (.Name "range" p) (e :: es) [] pos) = false := by first | exact nomark _ | rfl) : DT X T Wx (.Compare e0 [.In] [.Call (.Name "range" p) (e :: es) [] pos] p2) (fB (fInRg false f fs)) :=
  PT_imp (pt_cmp (pc_rgIn hg hm hi ha hs hpl) hmk) fun _ _ _ q => tB_imp (fun _ _ _ => inRg_use) (tB_use q)
end
end
end DL
namespace DL
open PySem PySem.Spec PyProof.Rows L2
section
variable [KFrag]
/-! ### from behind -/
theorem rev_at {α : Type} (xs : List α) {i : Nat} (h : i < xs.length) : xs.reverse[i]? = xs[xs.length - 1 - i]? := List.getElem?_reverse h
theorem itr_revR {B : Addr → Prop} {μ : List Addr} {s : CS} {H : Hp} {n : Nat} : ItR B μ s H (Itc (0 + ((n : Nat) : Int) - 1) (-1) n) (rngD 0 n).reverse := by
  have hl : (rngD 0 n).length = n := by simp [rngD]
  refine ⟨fun _ => True, YFn fun i => .int ((0 + ((n : Nat) : Int) - 1) + (i : Nat) * (-1)), by rw [List.length_reverse, hl]; exact walk_rangeC, fun _ _ _ _ => trivial, fun i H' A' v H'' k bt hi y => ?_⟩
  obtain ⟨rfl, rfl⟩ := y
  rw [List.length_reverse] at hi
  have hn : i < n := by rw [hl] at hi; exact hi
  have e : (0 + ((n : Nat) : Int) - 1) + ((i : Nat) : Int) * (-1) = 0 + ((n - 1 - i : Nat) : Int) := by omega
  refine ⟨Same.refl _, .int (0 + ((n - 1 - i : Nat) : Int)), ?_, ?_⟩
  · rw [rev_at _ hi, hl]
    have : n - 1 - i < n := by omega
    simp [rngD, this]
  · show Fz H'' A' (V.int ((0 + ((n : Nat) : Int) - 1) + ((i : Nat) : Int) * (-1))) _
    rw [e]
    exact .int _
def fRevR (f : En → CS → R W) (ρ : En) (s : CS) : R (List D) := (f ρ s).bind fun w s => match w with
  | .d (.int j) => if -(2 ^ 62) ≤ j ∧ j < 2 ^ 62 then .ok (rngD 0 j.toNat).reverse s else .bad
  | _ => .bad
def revW : W → CS → R (List D)
  | .d (.list ds), s => .ok ds.reverse s
  | .d (.tuple ds), s => .ok ds.reverse s
  | _, _ => .bad
def fRev (f : En → CS → R W) (ρ : En) (s : CS) : R (List D) := (f ρ s).bind revW
theorem itr_revL {K : PySem.W.Frag} {B : Addr → Prop} {μ : List Addr} {s : CS} {H : Hp} {a : Addr} {xs : List V} {ds : List D} (h : FL H (Av B μ s) a xs) (f : Fzs H (Av B μ s) xs ds) : ItR B μ s H (Itv K a xs.length) ds.reverse := by
  refine ⟨fun H => SqL K H a xs, fun i H x H' => H' = H ∧ xs[xs.length - 1 - i]? = some x, ?_, fun H' A' k bt => .of (k.keep _ _ h.1 h.2), fun i H' A' v H'' k bt hi y => ?_⟩
  · rw [List.length_reverse, ← f.len]
    exact walk_rev
  · obtain ⟨rfl, e⟩ := y
    rw [List.length_reverse] at hi
    obtain ⟨d, e1, e2⟩ := (f.kp k).getV e
    exact ⟨Same.refl _, d, by rw [rev_at _ hi, ← f.len]; exact e1, e2⟩
theorem itr_revT {X : Cx} [HK X] {B : Addr → Prop} {μ : List Addr} {s : CS} {H : Hp} {a : Addr} {xs : List V} {ds : List D} (h : FT H (Av B μ s) a xs) (f : Fzs H (Av B μ s) xs ds) : ItR B μ s H (RT.ItvT X.K a xs.length) ds.reverse := by
  refine ⟨fun H => SqT X.K H a xs, fun i H x H' => H' = H ∧ xs[xs.length - 1 - i]? = some x, ?_, fun H' A' k bt => (h.kp k.keep k.new).sq, fun i H' A' v H'' k bt hi y => ?_⟩
  · rw [List.length_reverse, ← f.len]
    exact ⟨fun i _ hi q => ⟨hi, xs, xs[xs.length - 1 - i]'(by omega), q, by simp [show xs.length - 1 - i < xs.length by omega]⟩, fun _ _ => Nat.le_refl _, fun _ _ _ _ _ q y => ⟨y.1, y.2 xs q⟩⟩
  · obtain ⟨rfl, e⟩ := y
    rw [List.length_reverse] at hi
    obtain ⟨d, e1, e2⟩ := (f.kp k).getV e
    exact ⟨Same.refl _, d, by rw [rev_at _ hi, ← f.len]; exact e1, e2⟩
section
variable {X : Cx} [HK X] {T : TX} {Wx : WXc} {tg e : Expr} {f : En → CS → R W} {p p2 pos pos2 : Pos}
theorem di_revR (hr : Gl X "reversed") (hrm : X.mg "reversed" = none) (hg : Gl X "range") (hm : X.mg "range" = none) (h : DE X T Wx e f) (hs : starEach [e] X.env = (false, eval e X.env) :: starEach [] X.env := by rfl)
    (hs2 : starEach [.Call (.Name "range" p) [e] [] pos] X.env = (false, eval (.Call (.Name "range" p) [e] [] pos) X.env) :: starEach [] X.env := by rfl) : DI X T Wx tg (.Call (.Name "reversed" p2) [.Call (.Name "range" p) [e] [] pos] [] pos2) (fRevR f) :=
  PI_imp (pi_revR hr hrm (prg_1 hg hm h hs) hs2) fun σ H Q ⟨B, μ, s, ρ, r, e, q⟩ =>
  tD_bind r e q fun w s1 v μ1 H1 st1 r1 e1 rel1 q1 => by
    split at q1
    · rename_i j
      split at q1
      · rename_i hj
        have rel1 : Fz H1 (Av B μ1 s1) v (.int j) := rel1
        cases rel1
        refine ⟨j, rfl, by decide, by decide, hj.1, hj.2, ?_⟩
        rw [Int.sub_zero]
        exact Fin.here (a := List D) q1 r1 itr_revR
      · exact q1.elim
    · exact q1.elim
theorem di_rev (hr : Gl X "reversed") (hrm : X.mg "reversed" = none) (h : DE X T Wx e f) (hs : starEach [e] X.env = (false, eval e X.env) :: starEach [] X.env := by rfl) : DI X T Wx tg (.Call (.Name "reversed" p2) [e] [] pos2) (fRev f) :=
  PI_imp (RT.pi_revA hr hrm h hs) fun σ H Q ⟨B, μ, s, ρ, r, e, q⟩ =>
  tD_bind r e q fun w s1 v μ1 H1 st1 r1 e1 rel1 q1 => by
    unfold revW at q1
    split at q1
    · rename_i ds
      have rel1 : Fz H1 (Av B μ1 s1) v (.list ds) := rel1
      cases rel1 with
      | @lst a xs _ h1 f1 => exact ⟨a, xs, rfl, .inl ⟨h1.sq, Fin.here (a := List D) q1 r1 (itr_revL h1 f1)⟩⟩
    · rename_i ds
      have rel1 : Fz H1 (Av B μ1 s1) v (.tuple ds) := rel1
      cases rel1 with
      | @tup a xs _ h1 f1 => exact ⟨a, xs, rfl, .inr ⟨h1.sq, Fin.here (a := List D) q1 r1 (itr_revT h1 f1)⟩⟩
    · exact q1.elim
end
/-! ### list(d), d a dict that stays -/
def rLstN (w : World) : List V → Hp → VK → Prop := fun vs H Q => ∃ A a es ds, vs = [.ref a] ∧ Rd H a (DObj w a es) ∧ KPs H A es ds ∧ ∀ ys p, Fzs H A ys (ds.map (·.1)) → H p = none → Q (.ref p) (upd H p (.lst ys))
theorem cr_lstN {X : Cx} [HK X] (hc : X.calm = true) : CallR X (.type "list") (rLstN X.w) := by
  rintro pins s σ H vs us Q I rv ⟨A, a, es, ds, rfl, e, kp, q⟩
  cases rv with
  | cons r1 r2 =>
  cases r2
  cases (show _ = Value.ref a from r1)
  obtain ⟨hl, hs, xs, rel, dd⟩ := dct_rd I.hok (kin I) e kp
  obtain ⟨o, eps, ep, g1, g2, g3, g4, _, _⟩ := id dd
  have hsz : eps.size = es.length := by rw [← Array.length_toList, g4, List.length_map]; exact (Paired.length rel).symm
  refine PySem.W.kdl_call (KdlSrc.rawDict (es := eps) (ep := ep) hs) (I.ok.hd hc) ⟨o, g1, g2, g3⟩ (by rw [hsz]; exact hl) fun h' tk acc c hk hS hacc => ?_
  have vr : Vals (es.map fun e => .ref e.2.1) acc.toList := refs_at (by rw [Array.length_toList, hacc.1, hsz]) fun j v ej => by
    obtain ⟨hi, ev⟩ := hacc.2 j v (by rw [← Array.getElem?_toList]; exact ej)
    have hj : j < es.length := by rw [← hsz]; exact hi
    obtain ⟨x, hx, r1, r2, r3⟩ := paired_get rel (List.getElem?_eq_getElem hj)
    refine ⟨_, List.getElem?_eq_getElem hj, ?_⟩
    have : eps[j]? = some (entryOfKey (nestedKind X.prog X.w) x) := by rw [← Array.getElem?_toList, g4, List.getElem?_map, hx]; rfl
    rw [Array.getElem?_eq_getElem hi] at this
    rw [ev, Option.some.inj this, r2]
    rfl
  refine ⟨.ref s.heap.objs.size, upd H s.heap.objs.size (.lst (es.map fun e => .ref e.2.1)), I.laid (t' := tk) hk (Nat.le_refl _) ⟨?_, acc.toList, c, vr, ?_⟩, rfl, q _ _ kp.keys (I.hok.fresh (Nat.le_refl _))⟩
  · rw [List.length_map]; exact hl
  · rw [Array.toArray_toList]; exact hS
def lstF (ws : List W) (s : CS) : R W := match ws with
  | [.fd kvs] => if unm kvs = true then .ok (.d (.list (kvs.map (·.1)))) s else .bad
  | _ => .bad
def fLstF (fs : En → CS → R (List W)) (ρ : En) (s : CS) : R W := (fs ρ s).bind lstF
theorem de_lstF {X : Cx} [HK X] {T : TX} {Wx : WXc} {e : Expr} {fs : En → CS → R (List W)} {p pos : Pos} (hw : X.w = KFrag.w) (hc : X.calm = true) (hg : Gl X "list") (hm : X.mg "list" = none) (ha : DA X T Wx [e] fs)
    (he : starEach [e] X.env = (false, eval e X.env) :: starEach [] X.env := by rfl) (hpl : (backTo pos (starEach [] X.env)).any (·.1) = false := by rfl) : DE X T Wx (.Call (.Name "list" p) [e] [] pos) (fLstF fs) :=
  PE_imp (pe_callTy (cr_lstN hc) hg hm PyProof.Rows.boot_list ha (by decide) (by decide) he hpl) fun σ H Q ⟨B, μ, s, ρ, r, e, q⟩ => tD_bind r e q fun ws s1 vs μ1 H1 st1 r1 e1 rel1 q1 => by
    replace rel1 : RWs B μ1 s1 H1 vs ws := rel1
    unfold lstF at q1
    split at q1
    · rename_i kvs
      cases rel1 with
      | cons a1 a2 =>
      cases a2
      split at q1
      case isFalse => exact q1.elim
      rename_i hu
      obtain ⟨a, o, ns, rfl, ea, na, kp⟩ := FD.un a1 hu
      exact ⟨Av B μ1 s1, a, ns, kvs, rfl, .inr ⟨o, by rw [hw]; exact ea⟩, kp, fun ys p fy hp => Fin.use (a := W) (w := .d (.list (kvs.map (·.1)))) q1 (same_upd hp) r1 (Fz.newL r1.bt' hp fy)⟩
    · exact q1.elim
end
end DL
namespace DL
open PySem PySem.Spec PyProof.Rows L2
/-! ### {k: v for ..}: the block of names, whatever the dict is and whatever comes behind the first clause -/
abbrev Nope {α : Type} : α → Shared → Prop := fun _ _ => False
abbrev TestsIn (ifs : List Expr) (ce : Env) : Sem Bool := forIn ifs true fun c r => if r = true then do let ok ← isTrue c ce (eval c ce); pure (ForInStep.yield ok) else pure (ForInStep.yield r)
/-- a turn of the first clause -/
def Turn1 (X : Cx) (tg : Expr) (ifs : List Expr) (ce : Env) (it : Value) (R : Result → Shared → Prop) (rest : (Shared → Prop) → Shared → Prop) (J : Nat → Shared → Prop) (n : Nat) (s : Shared) : Prop :=
  wpAny (model X.prog X.w) X.A (pyNext it) (fun r s1 => match r with
    | none => R (.ok .next) s1
    | some v => wpAny (model X.prog X.w) X.A (letOwnedTupleGo tg it v) (fun _ s2 => wpAny (model X.prog X.w) X.A (assign tg ce v) (fun _ s3 => wpAny (model X.prog X.w) X.A (TestsIn ifs ce) (fun b s4 =>
        if b = true then rest (fun s' => ∃ m, m < n ∧ J m s') s4 else ∃ m, m < n ∧ J m s4) Nope s3) Nope s2) Nope s1) Nope s
/-- the loop of the first clause goes by turns -/
def Loop1 (X : Cx) (e tg : Expr) (ifs : List Expr) (rest : Env → Addr → (Shared → Prop) → Shared → Prop) : Prop := ∀ (ce : Env) (it : Value) (D : Addr) (R : Result → Shared → Prop) (J : Nat → Shared → Prop),
  (∀ n s, J n s → Turn1 X tg ifs ce it R (rest ce D) J n s) → ∀ n s, J n s → codeAny (model X.prog X.w) X.A (.compLoop e 0 it (.ref D) ce) R s
/-- what is told of a turn -/
def tDx (ob : Addr → HO) (wi : TI) (g : TG) (tt : TT) (tr : Addr → L2.St → Hp → (Hp → Prop) → Prop) (vs : List Nat) : TE := fun σ H Q => wi σ H fun J H1 => ∀ D, H1 D = none → ∃ W : Nat → Nat → Hp → Prop, (∃ m, W 0 m (upd H1 D (ob D))) ∧ ∀ i m H, W i m H →
  (J.stop i H ∧ Q (.ref D) H) ∨ (J.go i H ∧ ∃ Nx : Hp → Prop, (∀ H', Nx H' → ∃ m', m' < m ∧ W (i + 1) m' H') ∧ ∀ x H', J.yld i H x H' → g x (wipe σ vs) H' fun σ2 H2 => wipe σ2 vs = wipe σ vs ∧ tt σ2 H2 fun b H3 =>
    if b = true then tr D σ2 H3 Nx else Nx H3)
/-- the rest of a turn does what is told of it -/
def RestOk (X : Cx) (rest : (Shared → Prop) → Shared → Prop) (tr : L2.St → Hp → (Hp → Prop) → Prop) (vs : List Nat) : Prop := ∀ (pins : List (Addr × Obj)) (σ : L2.St) (H : Hp) (s : Shared) (N : Hp → Prop) (P : Shared → Prop), Inv X pins σ H s → tr σ H N →
  (∀ σ' H' s', Inv X pins σ' H' s' → σ'.length = σ.length → (∀ (j : Nat) v, (wipe σ vs)[j]? = some (some v) → σ'[j]? = some (some v)) → N H' → P s') → rest P s
abbrev newD (h : Heap) : Heap := h.push { cls := .type "dict", data := .dict #[] }
section
variable {X : Cx} {tg iter kx vx : Expr} {ifs : List Expr} {more : List Comprehension} {scope : Scope} {own : List (Str × Nat)} {pos pos' : Pos} {ob : Addr → HO} {wi : TI} {g : TG} {tt : TT} {tr : Addr → L2.St → Hp → (Hp → Prop) → Prop} {rest : Env → Addr → (Shared → Prop) → Shared → Prop}
  {pins : List (Addr × Obj)} {s : Shared} {σ : L2.St} {H : Hp} {Q : VK} {use : Option (Value → Sem Unit)} {Qf : Value → Shared → Prop}
theorem dcx (hc : X.calm = true) (hN : X.N.Nodup) (I : Inv X pins σ H s) (hi : PI X tg iter wi) (ok : BlkOk X.N X.env.scope scope own)
    (hg : ∀ s0 H0 C cl fp, PG (X.blk s0 H0 scope (compEnvC scope cl C X.env) fp) tg g) (ht : ∀ s0 H0 C cl fp, PTs (X.blk s0 H0 scope (compEnvC scope cl C X.env) fp) ifs tt)
    (hob : ∀ (h : Heap) (H' : Hp), sysModules < h.objs.size → ObjOk X.prog X.w H' (newD h) h.objs.size (ob h.objs.size))
    (hl : Loop1 X (.DictComp kx vx (⟨tg, iter, ifs, 0⟩ :: more) scope pos) tg ifs rest)
    (hr : ∀ s0 H0 C cl fp D, RestOk (X.blk s0 H0 scope (compEnvC scope cl C X.env) fp) (rest (compEnvC scope cl C X.env) D) (tr D) (own.map (·.2)))
    (hs : ∀ x, foldedSetIterable iter X.env x = pure x) (h : tDx ob wi g tt tr (own.map (·.2)) σ H Q)
    (hRR : ∀ D C s' m H', Inv X pins σ H' s' → Q (.ref D) H' → s'.heap.Ns C m → FpOk X pins H' C → compPost (model X.prog X.w) X.A X.xe use Qf (.ref D) C (.ok .next) s') :
    wpAny (model X.prog X.w) X.A (comprehension (.DictComp kx vx (⟨tg, iter, ifs, 0⟩ :: more) scope pos) scope X.env pos' newDict false (eval iter X.env) use) Qf X.xe s := by
  refine wpAny_comprehension_free (use := use) rfl hs (closure_ok fun y hy e => (ok.free y hy e).elim (fun k => I.ok.has _ (.inl k)) fun k => I.ok.has _ (.inr k)) ok.kind (fun y hy e => by rw [ok.uniq y hy, e])
    (thn (hi.run pins s σ H _ I h) fun _ sa ha => thn ha fun _ sb ⟨it, fp, tn, J, Hb, ev, Ib, Tn, stb, fpb, hb⟩ => ?_)
  cases ev
  refine wpAny_newObj_type (newEnv_comp ?_)
  obtain ⟨W, ⟨m0, w0⟩, turns⟩ := hb sb.heap.objs.size (Ib.hok.fresh (Nat.le_refl _))
  -- the dict is there
  have low : ∀ b ∈ fp, b < sb.heap.objs.size := fun b q => let ⟨_, e, _⟩ := Tn.obj _ _ stb b q; Heap.lt_size e
  have Id : Inv X pins σ (upd Hb sb.heap.objs.size (ob sb.heap.objs.size)) { sb with heap := newD sb.heap } := Ib.laid (t' := sb.toks) (fun _ _ e => Heap.get?_push_of_some _ e) (Nat.le_refl _) (hob sb.heap _ Ib.big)
  have std : tn 0 (newD sb.heap) := Tn.keep _ _ _ stb fun _ _ _ e => Heap.get?_push_of_some _ e
  have hsz : (newD sb.heap).objs.size = sb.heap.objs.size + 1 := Heap.size_push ..
  generalize hD : sb.heap.objs.size = D at low Id w0 hsz turns ⊢
  have fp2 : ∀ b ∈ fp, FpOk X pins (upd Hb D (ob D)) b ∧ b < (newD sb.heap).objs.size := fun b q => by
    refine ⟨⟨?_, (fpb b q).2⟩, by rw [hsz]; exact Nat.lt_succ_of_lt (low b q)⟩
    rw [upd_ne (Nat.ne_of_lt (low b q))]
    exact (fpb b q).1
  generalize upd Hb D (ob D) = Hd at Id w0 fp2
  generalize hsd : ({ sb with heap := newD sb.heap } : Shared) = sd at Id
  have hd : newD sb.heap = sd.heap := by rw [← hsd]
  rw [hd] at std fp2
  show codeAny (model X.prog X.w) X.A (.compStart (.DictComp kx vx (⟨tg, iter, ifs, 0⟩ :: more) scope pos) 0 (.ref it) (.ref D) (compEnvC scope (cellsFrom (sd.heap.objs.size + 1) scope.names (cloFrom X.env.cells scope.names [])) sd.heap.objs.size X.env))
    (compPost (model X.prog X.w) X.A X.xe use Qf (.ref D) sd.heap.objs.size) { sd with heap := pushCells (newD sd.heap) scope.names }
  have Ic := block_start Id ok hN fp2
  have pg := hg sd Hd sd.heap.objs.size (cellsFrom (sd.heap.objs.size + 1) scope.names (cloFrom X.env.cells scope.names [])) fp
  have pt := ht sd Hd sd.heap.objs.size (cellsFrom (sd.heap.objs.size + 1) scope.names (cloFrom X.env.cells scope.names [])) fp
  have pr := hr sd Hd sd.heap.objs.size (cellsFrom (sd.heap.objs.size + 1) scope.names (cloFrom X.env.cells scope.names [])) fp D
  generalize hce : compEnvC scope (cellsFrom (sd.heap.objs.size + 1) scope.names (cloFrom X.env.cells scope.names [])) sd.heap.objs.size X.env = ce at Ic pg pt pr ⊢
  have hloc : ce.locals = sd.heap.objs.size := by rw [← hce]; rfl
  generalize hsc : ({ sd with heap := pushCells (newD sd.heap) scope.names } : Shared) = sc at Ic ⊢
  have stc : tn 0 sc.heap := Tn.keep _ _ _ std fun _ _ _ e => by rw [← hsc]; exact pushCells_keeps _ _ _ _ (Heap.get?_push_of_some _ e)
  -- an iterator's objects stay apart
  have apart : ∀ {σ' : L2.St} {H' : Hp} {s' : Shared}, Inv (X.blk sd Hd scope ce fp) [] σ' H' s' → (∀ b ∈ fp, H' b = none) → ∀ b ∈ fp, FpOk (X.blk sd Hd scope ce fp) [] H' b := fun {σ' H' s'} I' hn b q =>
    ⟨hn b q, (I'.ok.exf b q).1, I'.ok.exfs b q, Or.inl q, fun x c e => (I'.ok.exf b q).2 x c e, fun p hp => nomatch hp⟩
  refine codeAny_compStart_dict ?G (Tn.self X.A 0 _ _ _ stc ?G)
  refine hl ce (.ref it) D _ (fun n s' => ∃ i H', Inv (X.blk sd Hd scope ce fp) [] (wipe σ (own.map (·.2))) H' s' ∧ tn i s'.heap ∧ (∀ b ∈ fp, H' b = none) ∧ W i n H') ?_ m0 sc ⟨0, Hd, Ic, stc, fun b q => (fp2 b q).1.1, w0⟩
  rintro n s1 ⟨i, H1, I1, st1, no1, w1⟩
  unfold Turn1
  rcases turns i n H1 w1 with ⟨stop, qq⟩ | ⟨go, Nx, down, step⟩
  · refine thnF (Tn.done (X.blk sd Hd scope ce fp) rfl rfl rfl hc i [] s1 _ H1 Nope I1 (apart I1 no1) st1 stop) fun _ s2 ⟨er, I2⟩ => ?_
    subst er
    have free : H1 sd.heap.objs.size = none := by
      have z : H1 ce.locals = none := I2.free
      rwa [hloc] at z
    obtain ⟨m, hns, _⟩ := I2.loc
    have hns : s2.heap.Ns ce.locals m := hns
    rw [hloc] at hns
    exact hRR D _ s2 m H1 (Id.call' (ch := fp) I2.os I2.base I2.hok I2.bare fun b q => let z := (fp2 b q).1.2; ⟨z.2.2.1, z.1, z.2.2.2.1, z.2.2.2.2⟩) qq hns (Id.fpOk (Nat.le_refl _) free)
  · refine thnF (Tn.item (X.blk sd Hd scope ce fp) rfl rfl rfl hc i [] s1 _ H1 Nope I1 (apart I1 no1) st1 go) fun _ s2 ⟨u, er, h2⟩ => ?_
    subst er
    refine thnF h2 fun _ s3 ⟨x, H3, I3, r3, y3, st3, no3⟩ => ?_
    refine thnF (pg.run _ s3 _ H3 x u _ (I3.pinned (apart I3 no3) (Tn.obj _ _ st3)) r3 (step x H3 y3)) fun _ s4 ⟨σ4, H4, I4, hw4, q4⟩ => ?_
    have close : ∀ σ' H' s', Inv (X.blk sd Hd scope ce fp) ([] ++ pinsAt fp s3.heap) σ' H' s' → σ'.length = σ4.length → (∀ (j : Nat) v, (wipe σ4 (own.map (·.2)))[j]? = some (some v) → σ'[j]? = some (some v)) → Nx H' →
        ∃ m, m < n ∧ ∃ i H', Inv (X.blk sd Hd scope ce fp) [] (wipe σ (own.map (·.2))) H' s' ∧ tn i s'.heap ∧ (∀ b ∈ fp, H' b = none) ∧ W i m H' := fun σ' H' s' I' el ag nx => by
      obtain ⟨m', lt, w'⟩ := down H' nx
      have pinned : ∀ b ∈ fp, ∀ o, s3.heap.get? b = some o → s'.heap.get? b = some o ∧ H' b = none := fun b q o e =>
        let z := I'.pin (b, o) (List.mem_append_right _ (List.mem_append_right _ (mem_pinsAt q e)))
        ⟨z.1, z.2.1⟩
      refine ⟨m', lt, i + 1, H', I'.unpinned.weak (by rw [← hw4, wipe_length, el]) (fun j v e => ag j v (by rw [hw4]; exact e)), Tn.keep _ _ _ st3 fun b q o e => (pinned b q o e).1, fun b q => ?_, w'⟩
      obtain ⟨o, e, _⟩ := Tn.obj _ _ st3 b q
      exact (pinned b q o e).2
    refine thnF (pt.run _ s4 σ4 H4 _ I4 q4) fun b s5 ⟨H5, I5, q5⟩ => ?_
    cases b with
    | false =>
      simp only [Bool.false_eq_true, if_false] at q5 ⊢
      exact close _ _ _ I5 rfl (fun j v e => (wipe_some e).1) q5
    | true =>
      simp only [if_true] at q5 ⊢
      exact pr _ σ4 H5 s5 Nx _ I5 q5 close
end
/-! one clause -/
/-- d[k] = v within a comprehension, as it is told -/
def PSt (X : Cx) (sr : Addr → V → V → Hp → (Hp → Prop) → Prop) : Prop := ∀ {pins : List (Addr × Obj)} {σ : L2.St} {H : Hp} {s : Shared} {D : Addr} {y v : V} {u r : Value} {N : Hp → Prop} {P : Shared → Prop}, Inv X pins σ H s → RelV y u → RelV v r → sr D y v H N →
  (∀ H' s', Inv X pins σ H' s' → N H' → P s') → wpAny (model X.prog X.w) X.A (dictSet D u r) (fun _ s' => P s') Nope s
def rest1 (X : Cx) (kx vx : Expr) (ce : Env) (D : Addr) (P : Shared → Prop) (s : Shared) : Prop :=
  wpAny (model X.prog X.w) X.A (eval kx ce) (fun kv s1 => wpAny (model X.prog X.w) X.A (eval vx ce) (fun vv s2 => wpAny (model X.prog X.w) X.A (dictSet D kv vv) (fun _ s3 => P s3) Nope s2) Nope s1) Nope s
def tr1 (tk tv : TE) (sr : Addr → V → V → Hp → (Hp → Prop) → Prop) (D : Addr) (σ : L2.St) (H : Hp) (N : Hp → Prop) : Prop := tk σ H fun y H1 => tv σ H1 fun z H2 => sr D y z H2 N
section
variable {X : Cx} {tg iter kx vx : Expr} {ifs : List Expr} {scope : Scope} {pos : Pos} {tk tv : TE} {sr : Addr → V → V → Hp → (Hp → Prop) → Prop} {vs : List Nat}
theorem loop_one : Loop1 X (.DictComp kx vx [⟨tg, iter, ifs, 0⟩] scope pos) tg ifs (rest1 X kx vx) := fun ce it D R J turn n s h => by
  refine compLoop_anyD J (fun n s hJ => thnF (turn n s hJ) fun r s1 h1 => ?_) n h
  cases r with
  | none => exact h1
  | some v =>
    refine thnF h1 fun _ s2 h2 => thnF h2 fun _ s3 h3 => thnF h3 fun b s4 h4 => ?_
    cases b with
    | false => exact h4
    | true =>
      simp only [if_true] at h4 ⊢
      exact thnF h4 fun _ s5 h5 => thnF h5 fun _ s6 h6 => thnF h6 fun _ s7 h7 => h7
theorem rest_one {ce : Env} {D : Addr} (hce : X.env = ce) (hk : PE X kx tk) (hv : PE X vx tv) (hst : PSt X sr) (hx : X.xe = Nope) : RestOk X (rest1 X kx vx ce D) (tr1 tk tv sr D) vs := fun pins σ H s N P I q fin => by
  subst hce
  have ek := hk.run pins s σ H _ I q
  rw [hx] at ek
  refine thnF ek fun kv s1 ⟨y, H1, I1, r1, q1⟩ => ?_
  have ev := hv.run pins s1 σ H1 _ I1 q1
  rw [hx] at ev
  exact thnF ev fun vv s2 ⟨z, H2, I2, r2, q2⟩ => hst I2 r1 r2 q2 fun H' s' I' n => fin σ H' s' I' rfl (fun j v e => (wipe_some e).1) n
end
/-! two clauses -/
section
variable {X : Cx} {t0 i0 t1 i1 kx vx : Expr} {ifs0 ifs1 : List Expr} {scope : Scope} {pos : Pos}
def rest2 (X : Cx) (e i1 : Expr) (ce : Env) (D : Addr) (P : Shared → Prop) (s : Shared) : Prop :=
  wpAny (model X.prog X.w) X.A (eval i1 ce) (fun x s1 => wpAny (model X.prog X.w) X.A (pyIter x) (fun it1 s2 => codeAny (model X.prog X.w) X.A (.compStart e 1 it1 (.ref D) ce) (fun r s' => match r with
    | .ok _ => P s'
    | .error _ => False) s2) Nope s1) Nope s
theorem first_turn {it acc : Value} {ce : Env} : compTurn (.DictComp kx vx [⟨t0, i0, ifs0, 0⟩, ⟨t1, i1, ifs1, 0⟩] scope pos) 0 it acc ce = (do
    standAt i0.pos
    match ← pyNext it with
    | none => pure (.done .next)
    | some v =>
      letOwnedTupleGo t0 it v
      assign t0 ce v
      let mut b := true
      for c in ifs0 do
        if b then b ← isTrue c ce (eval c ce)
      if b then
        let y ← eval i1 ce
        standAt i1.pos
        let y ← foldedSetIterable i1 ce y
        let _ ← runOwn (.compStart (.DictComp kx vx [⟨t0, i0, ifs0, 0⟩, ⟨t1, i1, ifs1, 0⟩] scope pos) 1 (← holding [y] (pyIter y)) acc ce) ce
      again (.compLoop (.DictComp kx vx [⟨t0, i0, ifs0, 0⟩, ⟨t1, i1, ifs1, 0⟩] scope pos) 0 it acc ce)) := by rfl
theorem second_turn {it : Value} {D : Addr} {ce : Env} : compTurn (.DictComp kx vx [⟨t0, i0, ifs0, 0⟩, ⟨t1, i1, ifs1, 0⟩] scope pos) 1 it (.ref D) ce = (do
    standAt i1.pos
    match ← pyNext it with
    | none => pure (.done .next)
    | some v =>
      letOwnedTupleGo t1 it v
      assign t1 ce v
      let mut b := true
      for c in ifs1 do
        if b then b ← isTrue c ce (eval c ce)
      if b then
        (do
          let y ← eval kx ce
          let z ← holding [y] (eval vx ce)
          standAt { kx.pos with endLine := vx.pos.endLine, endCol := vx.pos.endCol }
          holding [y, z] (dictSet D y z))
      again (.compLoop (.DictComp kx vx [⟨t0, i0, ifs0, 0⟩, ⟨t1, i1, ifs1, 0⟩] scope pos) 1 it (.ref D) ce)) := by rfl
theorem loop_two (hs1 : ∀ ce x, foldedSetIterable i1 ce x = pure x) : Loop1 X (.DictComp kx vx [⟨t0, i0, ifs0, 0⟩, ⟨t1, i1, ifs1, 0⟩] scope pos) t0 ifs0 (rest2 X (.DictComp kx vx [⟨t0, i0, ifs0, 0⟩, ⟨t1, i1, ifs1, 0⟩] scope pos) i1) := fun ce it D R J turn n s h => by
  refine codeAny_loop rfl J (fun n s hJ => ?_) n h
  show wpAny _ X.A ((compTurn (.DictComp kx vx [⟨t0, i0, ifs0, 0⟩, ⟨t1, i1, ifs1, 0⟩] scope pos) 0 it (.ref D) ce).onRaise fun x => do noteFrame x ce; theTreesLotGoes x) _ _ s
  refine wpAny_noted ?_
  rw [first_turn]
  refine wpAny_bind (wpAny_standAt (wpAny_bind (thnF (turn n s hJ) fun r s1 h1 => ?_)))
  cases r with
  | none => exact wpAny_pure h1
  | some v =>
    refine wpAny_bind (thnF h1 fun _ s2 h2 => wpAny_bind (thnF h2 fun _ s3 h3 => wpAny_bind (thnF h3 fun b s4 h4 => ?_)))
    cases b with
    | false => exact wpAny_pure ⟨rfl, h4⟩
    | true =>
      simp only [if_true] at h4 ⊢
      refine wpAny_bind (thnF h4 fun x s5 h5 => wpAny_bind (wpAny_standAt (wpAny_bind (wpAny_of_eq (hs1 ce x) (wpAny_bind (wpAny_holding (thnF h5 fun j s6 h6 => wpAny_bind (wpAny_runOwn ?_))))))))
      rw [Around.mark_none]
      refine codeAny_mono h6 fun r s' q => ?_
      cases r with
      | ok _ => first | exact wpAny_pure ⟨rfl, q⟩ | exact wpAny_bind (wpAny_pure (wpAny_pure ⟨rfl, q⟩))
      | error _ => exact q.elim
/-- the loop of the second clause -/
theorem loop_in {ce : Env} {it : Value} {D : Addr} {R : Result → Shared → Prop} {J : Nat → Shared → Prop} (turn : ∀ n s, J n s → Turn1 X t1 ifs1 ce it R (rest1 X kx vx ce D) J n s) (n : Nat) (s : Shared) (h : J n s) :
    codeAny (model X.prog X.w) X.A (.compLoop (.DictComp kx vx [⟨t0, i0, ifs0, 0⟩, ⟨t1, i1, ifs1, 0⟩] scope pos) 1 it (.ref D) ce) R s := by
  refine codeAny_loop rfl J (fun n s hJ => ?_) n h
  show wpAny _ X.A ((compTurn (.DictComp kx vx [⟨t0, i0, ifs0, 0⟩, ⟨t1, i1, ifs1, 0⟩] scope pos) 1 it (.ref D) ce).onRaise fun x => do noteFrame x ce; theTreesLotGoes x) _ _ s
  refine wpAny_noted ?_
  rw [second_turn]
  refine wpAny_bind (wpAny_standAt (wpAny_bind (thnF (turn n s hJ) fun r s1 h1 => ?_)))
  cases r with
  | none => exact wpAny_pure h1
  | some v =>
    refine wpAny_bind (thnF h1 fun _ s2 h2 => wpAny_bind (thnF h2 fun _ s3 h3 => wpAny_bind (thnF h3 fun b s4 h4 => ?_)))
    cases b with
    | false => exact wpAny_pure ⟨rfl, h4⟩
    | true =>
      simp only [if_true] at h4 ⊢
      exact wpAny_bind (wpAny_bind (thnF h4 fun y s5 h5 => wpAny_bind (wpAny_holding (thnF h5 fun z s6 h6 => wpAny_bind (wpAny_standAt (wpAny_holding (thnF h6 fun _ s7 h7 => wpAny_pure ⟨rfl, h7⟩)))))))
theorem start_in {ce : Env} {it acc : Value} {R : Result → Shared → Prop} {s : Shared} (h0 : codeAny (model X.prog X.w) X.A (.compLoop (.DictComp kx vx [⟨t0, i0, ifs0, 0⟩, ⟨t1, i1, ifs1, 0⟩] scope pos) 1 it acc ce) R s)
    (h : wpAny (model X.prog X.w) X.A (pyIter it) (fun j s' => codeAny (model X.prog X.w) X.A (.compLoop (.DictComp kx vx [⟨t0, i0, ifs0, 0⟩, ⟨t1, i1, ifs1, 0⟩] scope pos) 1 j acc ce) R s') (notedBy (model X.prog X.w) X.A ce fun x s' => R (.error x) s') s) :
    codeAny (model X.prog X.w) X.A (.compStart (.DictComp kx vx [⟨t0, i0, ifs0, 0⟩, ⟨t1, i1, ifs1, 0⟩] scope pos) 1 it acc ce) R s := by
  refine codeAny_of_tree ?_
  show wpAny _ _ ((compStart (.DictComp kx vx [⟨t0, i0, ifs0, 0⟩, ⟨t1, i1, ifs1, 0⟩] scope pos) 1 it acc ce).onRaise fun x => do noteFrame x ce; standAt theWindowsPlace) _ _ s
  refine wpAny_notedAt ?_
  unfold compStart
  show wpAny _ _ (ask >>= _) _ _ s
  refine wpAny_bind (wpAny_askSetting (wpAny_ite ?_))
  split
  · first
      | exact wpAny_bind (wpAny_pure (wpAny_pure (And.intro rfl h0)))
      | exact wpAny_pure (And.intro rfl h0)
  · refine wpAny_bind (wpAny_rule ?_)
    show wpAny _ _ (standAt i1.pos >>= _) _ _ s
    exact wpAny_bind (wpAny_standAt (wpAny_bind (wpAny_mono h (fun _ _ q => wpAny_pure (And.intro rfl q)) fun _ _ x => x)))
def tr2 (wi1 : TI) (g1 : TG) (tt1 : TT) (tk tv : TE) (sr : Addr → V → V → Hp → (Hp → Prop) → Prop) (vs1 : List Nat) (D : Addr) (σ : L2.St) (H : Hp) (N : Hp → Prop) : Prop := wi1 σ H fun J H1 => ∃ W : Nat → Nat → Hp → Prop, (∃ m, W 0 m H1) ∧ ∀ j k H, W j k H →
  (J.stop j H ∧ N H) ∨ (J.go j H ∧ ∃ Nx : Hp → Prop, (∀ H', Nx H' → ∃ k', k' < k ∧ W (j + 1) k' H') ∧ ∀ x H', J.yld j H x H' → g1 x (wipe σ vs1) H' fun σ2 H2 => wipe σ2 vs1 = wipe σ vs1 ∧ tt1 σ2 H2 fun b H3 =>
    if b = true then tr1 tk tv sr D σ2 H3 Nx else Nx H3)
theorem rest_two {ce : Env} {D : Addr} {wi1 : TI} {g1 : TG} {tt1 : TT} {tk tv : TE} {sr : Addr → V → V → Hp → (Hp → Prop) → Prop} {vs vs1 : List Nat} (hc : X.calm = true) (hce : X.env = ce) (hv : ∀ i ∈ vs1, i ∈ vs) (hi : PI X t1 i1 wi1) (hg : PG X t1 g1) (ht : PTs X ifs1 tt1) (hk : PE X kx tk) (hx : PE X vx tv) (hst : PSt X sr) (hxe : X.xe = Nope) :
    RestOk X (rest2 X (.DictComp kx vx [⟨t0, i0, ifs0, 0⟩, ⟨t1, i1, ifs1, 0⟩] scope pos) i1 ce D) (tr2 wi1 g1 tt1 tk tv sr vs1 D) vs := fun pins σ H s N P I q fin => by
  subst hce
  have ei := hi.run pins s σ H _ I q
  rw [hxe] at ei
  refine thnF ei fun _ sa ha => thnF ha fun _ sb ⟨it, fp, tn, J, Hb, ev, Ib, Tn, stb, fpb, W, ⟨m0, w0⟩, turns⟩ => ?_
  subst ev
  have apart : ∀ {H' : Hp}, (∀ b ∈ fp, H' b = none) → ∀ b ∈ fp, FpOk X pins H' b := fun no b q => ⟨no b q, (fpb b q).2⟩
  have loop : codeAny (model X.prog X.w) X.A (.compLoop (.DictComp kx vx [⟨t0, i0, ifs0, 0⟩, ⟨t1, i1, ifs1, 0⟩] scope pos) 1 (.ref it) (.ref D) X.env) (fun r s' => match r with
      | .ok _ => P s'
      | .error _ => False) sb := by
    refine loop_in (J := fun k s' => ∃ j H', Inv X pins (wipe σ vs1) H' s' ∧ tn j s'.heap ∧ (∀ b ∈ fp, H' b = none) ∧ W j k H') ?_ m0 sb ⟨0, Hb, Ib.weak (wipe_length _ _) (fun j v e => (wipe_some e).1), stb, fun b q => (fpb b q).1, w0⟩
    rintro k s1 ⟨j, H1, I1, st1, no1, w1⟩
    unfold Turn1
    rcases turns j k H1 w1 with ⟨stop, nx⟩ | ⟨go, Nx, down, step⟩
    · refine thnF (Tn.done X rfl rfl rfl hc j pins s1 (wipe σ vs1) H1 Nope I1 (apart no1) st1 stop) fun _ s2 ⟨er, I2⟩ => ?_
      subst er
      refine fin _ _ _ I2 (wipe_length _ _) (fun j v e => ?_) nx
      obtain ⟨e1, e2⟩ := wipe_some e
      rw [wipe_out fun z => e2 (hv j z)]
      exact e1
    · refine thnF (Tn.item X rfl rfl rfl hc j pins s1 (wipe σ vs1) H1 Nope I1 (apart no1) st1 go) fun _ s2 ⟨u, er, h2⟩ => ?_
      subst er
      refine thnF h2 fun _ s3 ⟨x, H3, I3, r3, y3, st3, no3⟩ => ?_
      have eg := hg.run _ s3 (wipe σ vs1) H3 x u _ (I3.pinned (apart no3) (Tn.obj _ _ st3)) r3 (step x H3 y3)
      rw [hxe] at eg
      refine thnF eg fun _ s4 ⟨σ4, H4, I4, hw4, q4⟩ => ?_
      have close : ∀ σ' H' s', Inv X (pins ++ pinsAt fp s3.heap) σ' H' s' → σ'.length = σ4.length → (∀ (j : Nat) v, (wipe σ4 vs1)[j]? = some (some v) → σ'[j]? = some (some v)) → Nx H' →
          ∃ m, m < k ∧ ∃ j H', Inv X pins (wipe σ vs1) H' s' ∧ tn j s'.heap ∧ (∀ b ∈ fp, H' b = none) ∧ W j m H' := fun σ' H' s' I' el ag nx => by
        obtain ⟨m', lt, w'⟩ := down H' nx
        have pinned : ∀ b ∈ fp, ∀ o, s3.heap.get? b = some o → s'.heap.get? b = some o ∧ H' b = none := fun b q o e =>
          let z := I'.pin (b, o) (List.mem_append_right _ (List.mem_append_right _ (mem_pinsAt q e)))
          ⟨z.1, z.2.1⟩
        refine ⟨m', lt, j + 1, H', I'.unpinned.weak (by rw [← hw4, wipe_length, el]) (fun j v e => ag j v (by rw [hw4]; exact e)), Tn.keep _ _ _ st3 fun b q o e => (pinned b q o e).1, fun b q => ?_, w'⟩
        obtain ⟨o, e, _⟩ := Tn.obj _ _ st3 b q
        exact (pinned b q o e).2
      have et := ht.run _ s4 σ4 H4 _ I4 q4
      rw [hxe] at et
      refine thnF et fun b s5 ⟨H5, I5, q5⟩ => ?_
      cases b with
      | false =>
        simp only [Bool.false_eq_true, if_false] at q5 ⊢
        exact close _ _ _ I5 rfl (fun j v e => (wipe_some e).1) q5
      | true =>
        simp only [if_true] at q5 ⊢
        exact rest_one (vs := vs1) rfl hk hx hst hxe _ σ4 H5 s5 Nx _ I5 q5 close
  exact start_in loop (Tn.self X.A 0 _ _ _ stb loop)
end
end DL
namespace DL
open PySem PySem.Spec PyProof.Rows L2
/-! ### whole numbers as keys -/
def isI (d : D) (i : Int) : Bool := match d, i with
  | .int (.ofNat a), .ofNat b => Nat.beq a b
  | .int (.negSucc a), .negSucc b => Nat.beq a b
  | _, _ => false
theorem isI_int {j i : Int} : isI (.int j) i = decide (j = i) := by
  cases j with
  | ofNat a => cases i with
    | ofNat b =>
      show Nat.beq a b = _
      by_cases e : a = b
      · subst e
        rw [decide_eq_true rfl]
        exact Nat.beq_refl a
      · rw [decide_eq_false fun z => e (Int.ofNat.inj z)]
        exact Bool.eq_false_iff.mpr fun z => e (Nat.eq_of_beq_eq_true z)
    | negSucc b => exact (decide_eq_false (fun e => nomatch e)).symm
  | negSucc a => cases i with
    | ofNat b => exact (decide_eq_false (fun e => nomatch e)).symm
    | negSucc b =>
      show Nat.beq a b = _
      by_cases e : a = b
      · subst e
        rw [decide_eq_true rfl]
        exact Nat.beq_refl a
      · rw [decide_eq_false fun z => e (Int.negSucc.inj z)]
        exact Bool.eq_false_iff.mpr fun z => e (Nat.eq_of_beq_eq_true z)
def lookI : List (D × D) → Int → Option D
  | [], _ => none
  | p :: r, i => if isI p.1 i = true then some p.2 else lookI r i
def anyI : List (D × D) → Int → Bool
  | [], _ => false
  | p :: r, i => if isI p.1 i = true then true else anyI r i
def setI : List (D × D) → Int → D → List (D × D)
  | [], _, _ => []
  | p :: r, i, y => (if isI p.1 i = true then (p.1, y) else p) :: setI r i y
def putI (ds : List (D × D)) (i : Int) (y : D) : List (D × D) := if anyI ds i = true then setI ds i y else ds ++ [(.int i, y)]
section
variable [KFrag] {H : Hp} {A : Addr → Prop}
theorem key_int {a i : Int} : ((Sum.inl a : Key) = .inl i) ↔ a = i := ⟨fun e => Sum.inl.inj e, fun e => by rw [e]⟩
theorem IKs.len : ∀ {ks : List (Key × V)} {ds : List (D × D)}, IKs H A ks ds → ks.length = ds.length
  | _, _, .nil => rfl
  | _, _, .cons _ t => by rw [List.length_cons, List.length_cons, IKs.len t]
theorem IKs.look : ∀ {ks : List (Key × V)} {ds : List (D × D)} {i : Int}, IKs H A ks ds → (lookI ds i = none ∧ valV ks (.inl i) = none) ∨ ∃ v y, lookI ds i = some y ∧ valV ks (.inl i) = some v ∧ Fz H A v y
  | _, _, i, .nil => .inl ⟨rfl, rfl⟩
  | _, _, i, .cons (i := a) (v := v) (ks := ks) (y := y) (ds := ds) f t => by
    by_cases e : a = i
    · refine .inr ⟨v, y, ?_, valV_pos (key_int.mpr e), f⟩
      simp [lookI, isI_int, e]
    · have h1 : lookI ((.int a, y) :: ds) i = lookI ds i := by simp [lookI, isI_int, e]
      have h2 : valV ((Sum.inl a, v) :: ks) (.inl i) = valV ks (.inl i) := valV_neg (fun z => e (key_int.mp z))
      rw [h1, h2]
      exact IKs.look t
theorem IKs.any : ∀ {ks : List (Key × V)} {ds : List (D × D)} {i : Int}, IKs H A ks ds → (ks.any fun kv => decide (kv.1 = .inl i)) = anyI ds i
  | _, _, i, .nil => rfl
  | _, _, i, .cons (i := a) (v := v) (ks := ks) (y := y) (ds := ds) f t => by
    rw [List.any_cons, IKs.any t]
    by_cases e : a = i
    · simp [anyI, isI_int, e]
    · have : ¬ (Sum.inl a : Key) = .inl i := fun z => e (key_int.mp z)
      simp [anyI, isI_int, e, this]
theorem IKs.set {v : V} {y : D} (f : Fz H A v y) : ∀ {ks : List (Key × V)} {ds : List (D × D)} {i : Int}, IKs H A ks ds → IKs H A (ks.map fun kv => if kv.1 = .inl i then (kv.1, v) else kv) (setI ds i y)
  | _, _, i, .nil => .nil
  | _, _, i, .cons (i := a) (v := v0) (ks := ks) (y := y0) (ds := ds) f0 t => by
    rw [List.map_cons]
    unfold setI
    by_cases e : a = i
    · have h1 : isI (.int a) i = true := by simp [isI_int, e]
      simp only [key_int, e, if_true, h1]
      subst e
      simp only [h1, if_true]
      exact .cons f (IKs.set f t)
    · have h1 : isI (.int a) i = false := by simp [isI_int, e]
      simp only [key_int, e, if_false, h1, Bool.false_eq_true]
      exact .cons f0 (IKs.set f t)
theorem IKs.app : ∀ {ks : List (Key × V)} {ds : List (D × D)} {v : V} {y : D} {i : Int}, IKs H A ks ds → Fz H A v y → IKs H A (ks ++ [(.inl i, v)]) (ds ++ [(.int i, y)])
  | _, _, _, _, _, .nil, f => .cons f .nil
  | _, _, _, _, _, .cons g t, f => .cons g (IKs.app t f)
theorem IKs.put {ks : List (Key × V)} {ds : List (D × D)} {v : V} {y : D} {i : Int} (h : IKs H A ks ds) (f : Fz H A v y) : IKs H A (putK ks (.inl i) v) (putI ds i y) := by
  unfold putK putI
  rw [h.any]
  split
  · exact h.set f
  · exact h.app f
end
theorem setI_len : ∀ {ds : List (D × D)} {i : Int} {y : D}, (setI ds i y).length = ds.length
  | [], _, _ => rfl
  | p :: r, _, _ => by unfold setI; rw [List.length_cons, List.length_cons, setI_len]
theorem putI_len {ds : List (D × D)} {i : Int} {y : D} : (putI ds i y).length ≤ ds.length + 1 := by
  unfold putI
  split
  · rw [setI_len]; omega
  · simp
theorem putD_len : ∀ {ds : List (D × D)} {k y : D}, (putD ds k y).length ≤ ds.length + 1
  | [], _, _ => by simp [putD]
  | p :: r, k, y => by
    unfold putD
    rw [eqF_eq]
    split
    · simp
    · have := putD_len (ds := r) (k := k) (y := y)
      simp only [List.length_cons]
      omega
/-! ### the dict that a comprehension makes -/
def stepX (ik : Bool) (acc : List (D × D)) (d : D) : List (D × D) := match d with
  | .tuple [k, v] => if ik = true then (match k with
    | .int i => putI acc i v
    | _ => acc) else putD acc k v
  | _ => acc
def mkX (ik : Bool) (ds : List D) : List (D × D) := ds.foldl (stepX ik) []
def dX (ik : Bool) (ds : List D) : List (D × D) := if ik = true then mark :: mkX ik ds else mkX ik ds
/-- where it goes: a cell more, or a dict that stays -/
abbrev Out := List (D × D) → CS → R W
def outC : Out := fun c s => .ok (.c s.length) (s ++ [.dct c])
def outF : Out := fun c s => .ok (.fd c) s
theorem stepX_len {ik : Bool} {acc : List (D × D)} {d : D} : (stepX ik acc d).length ≤ acc.length + 1 := by
  unfold stepX
  split
  · split
    · split
      · exact putI_len
      · omega
    · exact putD_len
  · omega
theorem foldX_len {ik : Bool} : ∀ {ds : List D} {acc : List (D × D)}, (ds.foldl (stepX ik) acc).length ≤ acc.length + ds.length
  | [], acc => by simp
  | d :: ds, acc => by
    rw [List.foldl_cons]
    have h1 := foldX_len (ik := ik) (ds := ds) (acc := stepX ik acc d)
    have h2 := stepX_len (ik := ik) (acc := acc) (d := d)
    simp only [List.length_cons]
    omega
theorem mkX_len {ik : Bool} {ds : List D} : (mkX ik ds).length ≤ ds.length := by
  have := foldX_len (ik := ik) (ds := ds) (acc := [])
  simpa [mkX] using this
theorem mkX_snoc {ik : Bool} {ds : List D} {d : D} : mkX ik (ds ++ [d]) = stepX ik (mkX ik ds) d := by
  unfold mkX
  rw [List.foldl_append]
  rfl
/-- a pair whose first is a key -/
def keyX (ik : Bool) (k : D) : Bool := if ik = true then (match k with
  | .int _ => true
  | _ => false) else keyOk k
def pairX (ik : Bool) (w u : W) (s : CS) : R W := match w, u with
  | .d k, .d v => if keyX ik k = true then .ok (.d (.tuple [k, v])) s else .bad
  | _, _ => .bad
def fPr (ik : Bool) (fk fv : En → CS → R W) (ρ : En) (s : CS) : R W := (fk ρ s).bind0 fun w s => (fv ρ s).bind0 fun u s => pairX ik w u s
def endX (out : Out) (ik : Bool) (pre : List D) (r : R (List D)) : R W := r.bind0 fun ys s => out (dX ik (pre ++ ys)) s
def fDc (out : Out) (ik : Bool) (vs : List Nat) (fi : En → CS → R (List D)) (h : W → En → Option En) (tt : En → CS → R Bool) (fk fv : En → CS → R W) (ρ : En) (s : CS) : R W :=
  (fi ρ s).bind fun items s => if items.length ≤ line then endX out ik [] (compL h tt (fPr ik fk fv) (wipeE ρ vs) items s) else .bad
def fDc2 (out : Out) (ik : Bool) (vs vs1 : List Nat) (fi : En → CS → R (List D)) (h : W → En → Option En) (tt : En → CS → R Bool) (fi1 : En → CS → R (List D)) (h1 : W → En → Option En) (tt1 : En → CS → R Bool) (fk fv : En → CS → R W) (ρ : En) (s : CS) : R W :=
  (fi ρ s).bind fun items s => if items.length ≤ 4096 then endX out ik [] (comp2 vs1 h tt fi1 h1 tt1 (fPr ik fk fv) (wipeE ρ vs) items s) else .bad
section
variable [KFrag]
def Ob (ik : Bool) (H : Hp) (A : Addr → Prop) (D : Addr) (ds : List PyData) : Prop := (ik = true ∧ ∃ ks, H D = some (.dK ks) ∧ IKs H A ks (mkX ik ds)) ∨ (ik = false ∧ ∃ es, H D = some (DObj KFrag.w D es) ∧ KPs H A es (mkX ik ds))
def obX (ik : Bool) (D : Addr) : HO := if ik = true then .dK [] else DObj KFrag.w D []
def srX (ik : Bool) (D : Addr) (y v : V) (H : Hp) (N : Hp → Prop) : Prop := (ik = true ∧ ∃ ks i, H D = some (.dK ks) ∧ y = .int i ∧ ks.length < sizeLine ∧ N (upd H D (.dK (putK ks (.inl i) v)))) ∨
  (ik = false ∧ ∃ A es ds d z, H D = some (DObj KFrag.w D es) ∧ KPs H A es ds ∧ Fz H A y d ∧ keyOk d = true ∧ Fz H A v z ∧ ds.length < line ∧ ∀ es', KPs H A es' (putD ds d z) → N (upd H D (DObj KFrag.w D es')))
theorem psX {X : Cx} [HK X] (hw : X.w = KFrag.w) (hu : X.A.units + 64 < cLine) {ik : Bool} : PSt X (srX ik) := fun {pins σ H s D y v u r N P} I ry rv q fin => by
  rcases q with ⟨_, ks, i, e, rfl, hz, n⟩ | ⟨_, A, es, ds, d, z, e, kp, f, hk, fv, hz, n⟩
  · exact d_dictSet I e hz (k := .inl i) ry rv fun s' I' => fin _ s' I' n
  · rw [← hw] at e n
    obtain ⟨b, k, rfl, rfl, e1, e2, hi⟩ := n_key I f ry hk
    obtain ⟨hl, hs, xs, rel, dd⟩ := dct_of I.hok (kin I) e kp
    have hle : es.length = ds.length := kp.len
    have hxs : xs.length ≤ sizeLine := by rw [← Paired.length rel]; exact hl
    obtain ⟨_, _, _, _, _, _, _, _, hn⟩ := id dd
    obtain ⟨es', k1, k2, k3⟩ := put_kp kp rel hn e1 e2 f fv rv
    refine wpAny_dictSet_heap (hsz := hxs) (by show X.A.units + 8 < cLine; omega) hi dd fun h' dd' hsb => fin _ _ ?_ (n es' k1)
    have he : ∃ q, h'.get? D = some q := let ⟨q, _, _, hq, _⟩ := dd'; ⟨q, hq⟩
    refine d_write I (by rw [e]; exact True.intro) hsb he (dct_ok ?_ hs k2 dd')
    rw [sizeLine_eq]
    unfold line at hz
    omega
theorem obX_ok {X : Cx} (hw : X.w = KFrag.w) {ik : Bool} (h : Heap) (H' : Hp) (hb : sysModules < h.objs.size) : ObjOk X.prog X.w H' (newD h) h.objs.size (obX ik h.objs.size) := by
  unfold obX
  split
  · exact dk_empty h hb
  · rw [← hw]
    exact dobj_empty h hb
/-! while it is made -/
structure MkX (ik : Bool) (B : Addr → Prop) (μ1 : List Addr) (s1 : CS) (H1 : Hp) (D : Addr) (μ : List Addr) (s : CS) (H : Hp) (ds : List PyData) : Prop where
  st : Stp μ1 s1 H1 μ s H
  sr : SR (And1 B D) μ s H
  ob : Ob ik H (Av (And1 B D) μ s) D ds
section
variable {out : Out} {ik : Bool} {T : TX} {Wx : WXc} {B : Addr → Prop} {μ1 μ μ' : List Addr} {s1 s s' : CS} {H1 H H' : Hp} {D : Addr} {ds : List PyData} {σ : L2.St} {Q : VK}
theorem MkX.kp (m : MkX ik B μ1 s1 H1 D μ s H ds) (hD : H1 D = none) : Kp H1 H (Av B μ1 s1) (Av (And1 B D) μ s) :=
  ⟨m.st.kp.keep, fun a o e n z => z.elim (fun z => z.elim (fun z => n (.inl z)) fun z => by rw [z, hD] at e; cases e) fun z => m.st.kp.new a o e n (.inr z)⟩
theorem MkX.step (m : MkX ik B μ1 s1 H1 D μ s H ds) (st : Stp μ s H μ' s' H') (sr : SR (And1 B D) μ' s' H') : MkX ik B μ1 s1 H1 D μ' s' H' ds := by
  have kd : ∀ o, H D = some o → H' D = some o := fun o e => st.keep _ _ e fun ⟨n, _, z, _⟩ => m.sr.nb n D z (.inr rfl)
  refine ⟨m.st.trans st, sr, ?_⟩
  rcases m.ob with ⟨hi, ks, e, k⟩ | ⟨hi, es, e, k⟩
  · exact .inl ⟨hi, ks, kd _ e, k.kp st.kp⟩
  · exact .inr ⟨hi, es, kd _ e, k.kp st.kp⟩
theorem MkX.start (r : SR B μ s H) (hD : H D = none) : MkX ik B μ s H D μ s (upd H D (obX ik D)) [] := by
  refine ⟨Stp.same (same_upd hD), r.on hD, ?_⟩
  cases ik with
  | true => exact .inl ⟨rfl, [], upd_same, .nil⟩
  | false => exact .inr ⟨rfl, [], upd_same, .nil⟩
theorem MkX.put1 (m : MkX ik B μ1 s1 H1 D μ s H ds) (hD : H1 D = none) {o : HO} {es : List PyData} (ob : Ob ik (upd H D o) (Av (And1 B D) μ s) D es) : MkX ik B μ1 s1 H1 D μ s (upd H D o) es := by
  refine ⟨⟨m.st.pre, fun a x ea n => ?_, fun a ea => ?_, m.st.new⟩, m.sr.updB (.inr rfl), ob⟩
  · rw [upd_ne (fun z => by rw [z, hD] at ea; cases ea)]
    exact m.st.keep a x ea n
  · rw [upd_ne (fun z => by rw [z] at ea; exact ea hD)]
    exact m.st.th a ea
theorem MkX.push (m : MkX ik B μ1 s1 H1 D μ s H ds) (hD : H1 D = none) {y v : V} {k z : PyData} {N : Hp → Prop} (fk : Fz H (Av (And1 B D) μ s) y k) (fz : Fz H (Av (And1 B D) μ s) v z) (hk : keyX ik k = true) (hz : ds.length < line)
    (n : ∀ o, MkX ik B μ1 s1 H1 D μ s (upd H D o) (ds ++ [.tuple [k, z]]) → N (upd H D o)) : srX ik D y v H N := by
  have hl : (mkX ik ds).length < line := Nat.lt_of_le_of_lt mkX_len hz
  rcases m.ob with ⟨hi, ks, e, kp⟩ | ⟨hi, es, e, kp⟩
  · subst hi
    unfold keyX at hk
    simp only [if_true] at hk
    split at hk
    · rename_i i _
      cases fk
      refine .inl ⟨rfl, ks, _, e, rfl, by rw [kp.len, line_eq]; exact hl, n _ (m.put1 hD (.inl ⟨rfl, _, upd_same, ?_⟩))⟩
      rw [mkX_snoc]
      exact (kp.put fz).kp (kp_upd (.inl (.inr rfl)))
    · cases hk
  · subst hi
    refine .inr ⟨rfl, _, es, _, k, z, e, kp, fk, hk, fz, hl, fun es' kp' => n _ (m.put1 hD (.inr ⟨rfl, _, upd_same, ?_⟩))⟩
    rw [mkX_snoc]
    exact kp'.kp (kp_upd (.inl (.inr rfl)))
theorem MkX.done (m : MkX ik B μ1 s1 H1 D μ s H ds) (r1 : SR B μ1 s1 H1) (hD : H1 D = none) (q : Fin (a := W) T Wx B μ1 s1 H1 σ Q (outC (dX ik ds) s)) : Q (.ref D) H := by
  have q : Fin (a := W) T Wx B μ1 s1 H1 σ Q (.ok (.c s.length) (s ++ [.dct (dX ik ds)])) := q
  have r := m.sr
  have hm : ∀ (n : Nat), μ[n]? ≠ some D := fun n z => r.nb n D z (.inr rfl)
  have thD : H D ≠ none := r.bt D (.inr rfl)
  have un : ∀ a, Av B (μ ++ [D]) (s ++ [.dct (dX ik ds)]) a → Av (And1 B D) μ s a := fun a z => by
    rcases z with z | z
    · exact .inl (.inl z)
    · rcases lv_last r.len z with z | z
      · exact .inr z
      · exact .inl (.inr z)
  have kk : Kp H H (Av (And1 B D) μ s) (Av B (μ ++ [D]) (s ++ [.dct (dX ik ds)])) := ⟨fun _ _ e _ => e, fun a _ _ n z => n (un a z)⟩
  refine q (.ref D) (μ ++ [D]) H ⟨?_, fun a o e n => m.st.keep a o e n, fun a e => m.st.th a e, fun a z => ?_⟩ ⟨by simp [r.len], fun n k a e1 e2 => ?_, fun n a e => ?_, fun n a e z => ?_, fun a z => r.bt a (.inl z), fun n a c e1 e2 => ?_⟩ ⟨D, rfl, ?_⟩
  · obtain ⟨t, rfl⟩ := m.st.pre
    exact ⟨t ++ [D], by simp⟩
  · rcases lv_last r.len z with z | z
    · exact m.st.new a z
    · exact .inr (by rw [z]; exact hD)
  · rcases get_last e1 with z1 | ⟨z1, y1⟩
    · rcases get_last e2 with z2 | ⟨z2, y2⟩
      · exact r.inj n k a z1 z2
      · exact absurd (by rw [← y2]; exact z1) (hm n)
    · rcases get_last e2 with z2 | ⟨z2, y2⟩
      · exact absurd (by rw [← y1]; exact z2) (hm k)
      · rw [z1, z2]
  · rcases get_last e with z | ⟨_, z⟩
    · exact r.th n a z
    · rw [z]; exact thD
  · rcases get_last e with y | ⟨_, y⟩
    · exact r.nb n a y (.inl z)
    · exact r1.bt a z (by rw [y]; exact hD)
  · rcases get_last e1 with z | ⟨zn, z⟩
    · rcases get_last e2 with y | ⟨y, _⟩
      · exact ((r.cell n a _ z y).kp kk fun o e => e).mu fun m b e => by rw [List.getElem?_append_left (List.getElem?_eq_some_iff.mp e).1]; exact e
      · have := (List.getElem?_eq_some_iff.mp z).1
        have := r.len
        omega
    · rcases get_last e2 with y | ⟨_, y⟩
      · have := (List.getElem?_eq_some_iff.mp y).1
        have := r.len
        omega
      · subst z
        subst y
        unfold dX
        rcases m.ob with ⟨hi, ks, e, k⟩ | ⟨hi, es, e, k⟩
        · subst hi
          exact .inr ⟨ks, _, rfl, e, k.kp kk⟩
        · subst hi
          exact .inl ⟨es, e, k.kp kk⟩
  · rw [← r.len]
    simp
theorem MkX.doneF (m : MkX ik B μ1 s1 H1 D μ s H ds) (r1 : SR B μ1 s1 H1) (hD : H1 D = none) (q : Fin (a := W) T Wx B μ1 s1 H1 σ Q (outF (dX ik ds) s)) : Q (.ref D) H ∨ ∃ a u, V.ref D = .ref a ∧ H a = some u ∧ Mut (some u) ∧ ∀ od, Q (.ref D) (upd H a (.frz od u)) := by
  have q : Fin (a := W) T Wx B μ1 s1 H1 σ Q (.ok (.fd (dX ik ds)) s) := q
  have r := m.sr
  have na : ¬ Av B μ s D := fun z => z.elim (fun z => r1.bt D z hD) fun ⟨n, _, z, _⟩ => r.nb n D z (.inr rfl)
  have kk : ∀ o, Kp H (upd H D o) (Av (And1 B D) μ s) (Av B μ s) := fun o => ⟨fun a x e n => by rw [upd_ne (fun z => n (by rw [z]; exact .inl (.inr rfl)))]; exact e, fun a _ _ n z => n (z.elim (fun z => .inl (.inl z)) .inr)⟩
  have st : ∀ o, Stp μ1 s1 H1 μ s (upd H D o) := fun o => ⟨m.st.pre, fun a x ea n => by rw [upd_ne (fun z => by rw [z, hD] at ea; cases ea)]; exact m.st.keep a x ea n, fun a ea => by rw [upd_ne (fun z => by rw [z] at ea; exact ea hD)]; exact m.st.th a ea, m.st.new⟩
  rcases m.ob with ⟨hi, ks, e, k⟩ | ⟨hi, es, e, k⟩
  · subst hi
    exact .inr ⟨D, .dK ks, rfl, e, True.intro, fun od => q (.ref D) μ _ (st _) (r.updB (.inr rfl)).off (.inr ⟨D, od, ks, _, rfl, rfl, upd_same, na, k.kp (kk _)⟩)⟩
  · subst hi
    exact .inr ⟨D, _, rfl, e, True.intro, fun od => q (.ref D) μ _ (st _) (r.updB (.inr rfl)).off (.inl ⟨D, od, es, rfl, upd_same, na, k.kp (kk _)⟩)⟩
theorem ER.updX {ρ : En} (e : ER (And1 B D) μ s H σ ρ) (hD : H1 D = none) (m : MkX ik B μ1 s1 H1 D μ s H ds) (o : HO) : ER (And1 B D) μ s (upd H D o) σ ρ := by
  refine ⟨e.len, fun i w z => ?_⟩
  obtain ⟨v, e1, e2⟩ := e.at_ i w z
  refine ⟨v, e1, ?_⟩
  cases w with
  | d x => exact Fz.kp (kp_upd (.inl (.inr rfl))) e2
  | c n => exact e2
  | sc ns =>
    obtain ⟨b, eb, r⟩ := e2
    rcases r with ⟨u, q, n⟩ | r
    · refine ⟨b, eb, .inl ⟨u, ?_, n⟩⟩
      rw [upd_ne (fun z => ?_)]
      · exact q
      · subst z
        rcases m.ob with ⟨_, ks, e, _⟩ | ⟨_, es, e, _⟩ <;> (rw [e] at q; first | cases q | (unfold DObj at q; cases q))
    · exact ⟨b, eb, .inr r⟩
  | fd ns => exact FD.kp (kp_upd (.inl (.inr rfl))) e2
  | rg lo hi => exact FR.kp (kp_upd (.inl (.inr rfl))) e2
theorem bind0_bind0 {a b c : Type} {r : R a} {f : a → CS → R b} {g : b → CS → R c} : (r.bind0 f).bind0 g = r.bind0 fun x s => (f x s).bind0 g := by
  cases r <;> rfl
theorem endX_bind {a : Type} {pre : List PyData} {r : R a} {k : a → CS → R (List PyData)} : endX out ik pre (r.bind0 k) = r.bind0 fun x s => endX out ik pre (k x s) := by
  cases r <;> rfl
theorem endX_ite {pre : List PyData} {b : Bool} {x y : R (List PyData)} : endX out ik pre (if b = true then x else y) = if b = true then endX out ik pre x else endX out ik pre y := by
  cases b <;> rfl
theorem endX_cons {pre : List PyData} {y : PyData} {r : CS → R (List PyData)} {s : CS} : endX out ik pre (consR (.d y) r s) = endX out ik (pre ++ [y]) (r s) := by
  unfold consR endX
  cases r s with
  | ok ys s => show out (dX ik (pre ++ (y :: ys))) s = out (dX ik ((pre ++ [y]) ++ ys)) s; rw [List.append_assoc]; rfl
  | exc e s => rfl
  | bad => rfl
theorem endX_pr {pre : List PyData} {fk fv : En → CS → R W} {ρ : En} {s : CS} {k : W → CS → R (List PyData)} : endX out ik pre ((fPr ik fk fv ρ s).bind0 k) = (fk ρ s).bind0 fun w s => (fv ρ s).bind0 fun u s => (pairX ik w u s).bind0 fun x s => endX out ik pre (k x s) := by
  rw [endX_bind]
  unfold fPr
  rw [bind0_bind0]
  congr 1
  funext w s
  rw [bind0_bind0]
end
section
variable {X : Cx} [HK X] {T : TX} {Wx : WXc} {kx vx tg iter tg1 iter1 : Expr} {ifs ifs1 : List Expr} {scope : Scope} {own : List (Str × Nat)} {vs1 : List Nat} {pos : Pos} {fi fi1 : En → CS → R (List D)} {is is1 : List Nat} {h h1 : W → En → Option En} {tt tt1 : En → CS → R Bool} {fk fv : En → CS → R W} {out : Out} {ik : Bool}
theorem tDc_use {σ : L2.St} {H : Hp} {Q Q' : VK} (hsub : ∀ i ∈ is, i ∈ own.map (·.2)) (hdone : ∀ {B μ1 s1 H1 D μ s H ds}, MkX ik B μ1 s1 H1 D μ s H ds → SR B μ1 s1 H1 → H1 D = none → Fin T Wx B μ1 s1 H1 σ Q (out (dX ik ds) s) → Q' (.ref D) H) (q : tD T Wx (fDc out ik (own.map (·.2)) fi h tt fk fv) σ H Q) :
    tDx (obX ik) (tD T Wx fi) (tG is h) (tD T Wx0 tt) (tr1 (tD T Wx0 fk) (tD T Wx0 fv) (srX ik)) (own.map (·.2)) σ H Q' := by
  obtain ⟨B, μ, s, ρ, r, e, q⟩ := q
  refine tD_bind r e q fun ds s1 J μ1 H1 st1 r1 e1 rel1 q1 D hD => ?_
  split at q1
  case isFalse => exact q1.elim
  rename_i hlen
  obtain ⟨G, Y, w, gg, yy⟩ := rel1.ex
  refine ⟨fun i m H' => m = ds.length - i ∧ i ≤ ds.length ∧ ∃ μ' s' ys, MkX ik B μ1 s1 H1 D μ' s' H' ys ∧ ys.length ≤ i ∧ Fin T Wx B μ1 s1 H1 σ Q (endX out ik ys (compL h tt (fPr ik fk fv) (wipeE ρ (own.map (·.2))) (ds.drop i) s')),
    ⟨ds.length, by simp, Nat.zero_le _, μ1, s1, [], MkX.start r1 hD, Nat.le_refl _, q1⟩, ?_⟩
  rintro i m H' ⟨rfl, hi, μ', s', ys, m, hys, fq⟩
  have hG := gg H' _ (m.kp hD) m.sr.bt'
  by_cases hlt : i < ds.length
  · refine .inr ⟨w.goes i H' hlt hG, fun H' => ∃ μ' s' ys, MkX ik B μ1 s1 H1 D μ' s' H' ys ∧ ys.length ≤ i + 1 ∧ Fin T Wx B μ1 s1 H1 σ Q (endX out ik ys (compL h tt (fPr ik fk fv) (wipeE ρ (own.map (·.2))) (ds.drop (i + 1)) s')),
      fun H' p' => ⟨ds.length - (i + 1), by omega, rfl, hlt, p'⟩, fun x H'' y => ?_⟩
    obtain ⟨sm, d, ed, fd⟩ := yy i H' _ x H'' (m.kp hD) m.sr.bt' hlt (w.yields i H' x H'' hlt hG y)
    have ec : ds.drop i = d :: ds.drop (i + 1) := by
      obtain ⟨hl, rfl⟩ := List.getElem?_eq_some_iff.mp ed
      exact List.drop_eq_getElem_cons hl
    rw [ec] at fq
    unfold compL at fq
    have m2 : MkX ik B μ1 s1 H1 D μ' s' H'' ys := m.step (Stp.same sm) (m.sr.same sm)
    have er : ER (And1 B D) μ' s' H'' (wipe σ (own.map (·.2))) (wipeE ρ (own.map (·.2))) := (e1.kpB m2.st (m2.kp hD)).wipe _
    cases z1 : h (.d d) (wipeE ρ (own.map (·.2))) with
    | none => simp only [z1] at fq; exact fq.elim
    | some ρ1 =>
      simp only [z1] at fq
      refine ⟨_, μ', s', _, .d d, ρ1, m2.sr, er, fd, z1, fun σ2 e2 l2 a2 => ⟨by rw [wipe_eq l2 a2 hsub, wipe_wipe], ?_⟩⟩
      rw [endX_bind] at fq
      refine tD_bind0 m2.sr e2 fq fun b s3 v3 μ3 H3 st3 r3 e3 rel3 q3 => ?_
      cases rel3
      have m3 := m2.step st3 r3
      rw [endX_ite] at q3
      cases b with
      | false =>
        rw [if_neg Bool.false_ne_true] at q3 ⊢
        exact ⟨μ3, s3, ys, m3, by omega, q3⟩
      | true =>
        rw [if_pos rfl] at q3 ⊢
        rw [endX_pr] at q3
        refine tD_bind0 r3 e3 q3 fun wk s4 vk μ4 H4 st4 r4 e4 rel4 q4 => tD_bind0 r4 e4 q4 fun wv s5 vv μ5 H5 st5 r5 e5 rel5 q5 => ?_
        have m5 := (m3.step st4 r4).step st5 r5
        have rel4 := RW.stp st5 rel4
        unfold pairX at q5
        split at q5
        · split at q5
          · rename_i hk
            have q5 : Fin T Wx B μ1 s1 H1 σ Q (endX out ik ys (consR (.d (.tuple [_, _])) _ s5)) := q5
            rw [endX_cons] at q5
            exact m5.push hD rel4 rel5 hk (by omega) fun o m6 => ⟨μ5, s5, _, m6, by simp; omega, q5⟩
          · exact q5.elim
        · exact q5.elim
  · have ei : i = ds.length := by omega
    subst ei
    rw [List.drop_length] at fq
    have fq : Fin (a := W) T Wx B μ1 s1 H1 σ Q (out (dX ik (ys ++ [])) s') := fq
    rw [List.append_nil] at fq
    exact .inl ⟨w.stops H' hG, hdone m r1 hD fq⟩
theorem tDc2_use {σ : L2.St} {H : Hp} {Q Q' : VK} (hsub : ∀ i ∈ is, i ∈ own.map (·.2)) (hsub1 : ∀ i ∈ is1, i ∈ vs1) (hdone : ∀ {B μ1 s1 H1 D μ s H ds}, MkX ik B μ1 s1 H1 D μ s H ds → SR B μ1 s1 H1 → H1 D = none → Fin T Wx B μ1 s1 H1 σ Q (out (dX ik ds) s) → Q' (.ref D) H) (q : tD T Wx (fDc2 out ik (own.map (·.2)) vs1 fi h tt fi1 h1 tt1 fk fv) σ H Q) :
    tDx (obX ik) (tD T Wx fi) (tG is h) (tD T Wx0 tt) (tr2 (tD T Wx0 fi1) (tG is1 h1) (tD T Wx0 tt1) (tD T Wx0 fk) (tD T Wx0 fv) (srX ik) vs1) (own.map (·.2)) σ H Q' := by
  obtain ⟨B, μ, s, ρ, r, e, q⟩ := q
  refine tD_bind r e q fun ds s1 J μ1 H1 st1 r1 e1 rel1 q1 D hD => ?_
  split at q1
  case isFalse => exact q1.elim
  rename_i hlen
  obtain ⟨G, Y, w, gg, yy⟩ := rel1.ex
  refine ⟨fun i m H' => m = ds.length - i ∧ i ≤ ds.length ∧ ∃ μ' s' ys, MkX ik B μ1 s1 H1 D μ' s' H' ys ∧ ys.length ≤ 4096 * i ∧ Fin T Wx B μ1 s1 H1 σ Q (endX out ik ys (comp2 vs1 h tt fi1 h1 tt1 (fPr ik fk fv) (wipeE ρ (own.map (·.2))) (ds.drop i) s')),
    ⟨ds.length, by simp, Nat.zero_le _, μ1, s1, [], MkX.start r1 hD, Nat.zero_le _, q1⟩, ?_⟩
  rintro i m H' ⟨rfl, hi, μ', s', ys, m, hys, fq⟩
  have hG := gg H' _ (m.kp hD) m.sr.bt'
  by_cases hlt : i < ds.length
  · refine .inr ⟨w.goes i H' hlt hG, fun H' => ∃ μ' s' ys, MkX ik B μ1 s1 H1 D μ' s' H' ys ∧ ys.length ≤ 4096 * (i + 1) ∧ Fin T Wx B μ1 s1 H1 σ Q (endX out ik ys (comp2 vs1 h tt fi1 h1 tt1 (fPr ik fk fv) (wipeE ρ (own.map (·.2))) (ds.drop (i + 1)) s')),
      fun H' p' => ⟨ds.length - (i + 1), by omega, rfl, hlt, p'⟩, fun x H'' y => ?_⟩
    obtain ⟨sm, d, ed, fd⟩ := yy i H' _ x H'' (m.kp hD) m.sr.bt' hlt (w.yields i H' x H'' hlt hG y)
    have ec : ds.drop i = d :: ds.drop (i + 1) := by
      obtain ⟨hl, rfl⟩ := List.getElem?_eq_some_iff.mp ed
      exact List.drop_eq_getElem_cons hl
    rw [ec] at fq
    unfold comp2 at fq
    have m2 : MkX ik B μ1 s1 H1 D μ' s' H'' ys := m.step (Stp.same sm) (m.sr.same sm)
    have er : ER (And1 B D) μ' s' H'' (wipe σ (own.map (·.2))) (wipeE ρ (own.map (·.2))) := (e1.kpB m2.st (m2.kp hD)).wipe _
    cases z1 : h (.d d) (wipeE ρ (own.map (·.2))) with
    | none => simp only [z1] at fq; exact fq.elim
    | some ρ1 =>
      simp only [z1] at fq
      refine ⟨_, μ', s', _, .d d, ρ1, m2.sr, er, fd, z1, fun σ2 e2 l2 a2 => ⟨by rw [wipe_eq l2 a2 hsub, wipe_wipe], ?_⟩⟩
      rw [endX_bind] at fq
      refine tD_bind0 m2.sr e2 fq fun b s3 v3 μ3 H3 st3 r3 e3 rel3 q3 => ?_
      cases rel3
      have m3 := m2.step st3 r3
      rw [endX_ite] at q3
      cases b with
      | false =>
        rw [if_neg Bool.false_ne_true] at q3 ⊢
        exact ⟨μ3, s3, ys, m3, by omega, q3⟩
      | true =>
        rw [if_pos rfl] at q3 ⊢
        rw [endX_bind] at q3
        refine tD_bind0 r3 e3 q3 fun ds1 s4 J1 μ4 H4 st4 r4 e4 rel4 q4 => ?_
        have m4 := m3.step st4 r4
        split at q4
        case isFalse => exact q4.elim
        rename_i hlen1
        obtain ⟨G1, Y1, w1, gg1, yy1⟩ := rel4.ex
        refine ⟨fun j k H' => k = ds1.length - j ∧ j ≤ ds1.length ∧ ∃ μ' s' ys, MkX ik B μ1 s1 H1 D μ' s' H' ys ∧ ys.length ≤ 4096 * i + j ∧ ER (And1 B D) μ' s' H' σ2 ρ1 ∧ Kp H4 H' (Av (And1 B D) μ4 s4) (Av (And1 B D) μ' s') ∧
            Fin T Wx B μ1 s1 H1 σ Q (endX out ik ys (appR (compL h1 tt1 (fPr ik fk fv) (wipeE ρ1 vs1) (ds1.drop j) s') fun s => comp2 vs1 h tt fi1 h1 tt1 (fPr ik fk fv) (wipeE ρ (own.map (·.2))) (ds.drop (i + 1)) s)),
          ⟨ds1.length, by simp, Nat.zero_le _, μ4, s4, ys, m4, by omega, e4, ⟨fun _ _ z _ => z, fun _ _ _ n => n⟩, q4⟩, ?_⟩
        rintro j k H5 ⟨rfl, hj, μ5, s5, zs, m5, hzs, e5, k5, f5⟩
        have hG1 := gg1 H5 _ k5 m5.sr.bt'
        by_cases hlt1 : j < ds1.length
        · refine .inr ⟨w1.goes j H5 hlt1 hG1, fun H' => ∃ μ' s' ys, MkX ik B μ1 s1 H1 D μ' s' H' ys ∧ ys.length ≤ 4096 * i + (j + 1) ∧ ER (And1 B D) μ' s' H' σ2 ρ1 ∧ Kp H4 H' (Av (And1 B D) μ4 s4) (Av (And1 B D) μ' s') ∧
              Fin T Wx B μ1 s1 H1 σ Q (endX out ik ys (appR (compL h1 tt1 (fPr ik fk fv) (wipeE ρ1 vs1) (ds1.drop (j + 1)) s') fun s => comp2 vs1 h tt fi1 h1 tt1 (fPr ik fk fv) (wipeE ρ (own.map (·.2))) (ds.drop (i + 1)) s)),
            fun H' p' => ⟨ds1.length - (j + 1), by omega, rfl, hlt1, p'⟩, fun x1 H6 y1 => ?_⟩
          obtain ⟨sm1, d1, ed1, fd1⟩ := yy1 j H5 _ x1 H6 k5 m5.sr.bt' hlt1 (w1.yields j H5 x1 H6 hlt1 hG1 y1)
          have ec1 : ds1.drop j = d1 :: ds1.drop (j + 1) := by
            obtain ⟨hl, rfl⟩ := List.getElem?_eq_some_iff.mp ed1
            exact List.drop_eq_getElem_cons hl
          rw [ec1] at f5
          unfold compL at f5
          have st6 : Stp μ5 s5 H5 μ5 s5 H6 := Stp.same sm1
          have m6 : MkX ik B μ1 s1 H1 D μ5 s5 H6 zs := m5.step st6 (m5.sr.same sm1)
          have e6 := e5.stp st6
          have k6 := k5.trans st6.kp
          cases z2 : h1 (.d d1) (wipeE ρ1 vs1) with
          | none => simp only [z2] at f5; exact f5.elim
          | some ρ2 =>
            simp only [z2] at f5
            refine ⟨_, μ5, s5, _, .d d1, ρ2, m6.sr, e6.wipe _, fd1, z2, fun σ3 e7 l3 a3 => ⟨by rw [wipe_eq l3 a3 hsub1, wipe_wipe], ?_⟩⟩
            rw [appR_bind, endX_bind] at f5
            refine tD_bind0 m6.sr e7 f5 fun b s7 v7 μ7 H7 st7 r7 e8 rel7 q7 => ?_
            cases rel7
            have m7 := m6.step st7 r7
            rw [appR_ite, endX_ite] at q7
            cases b with
            | false =>
              rw [if_neg Bool.false_ne_true] at q7 ⊢
              exact ⟨μ7, s7, zs, m7, by omega, e6.stp st7, k6.trans st7.kp, q7⟩
            | true =>
              rw [if_pos rfl] at q7 ⊢
              rw [appR_bind, endX_pr] at q7
              refine tD_bind0 r7 e8 q7 fun wk s8 vk μ8 H8 st8 r8 e9 rel8 q8 => tD_bind0 r8 e9 q8 fun wv s9 vv μ9 H9 st9 r9 e10 rel9 q9 => ?_
              have m9 := (m7.step st8 r8).step st9 r9
              have rel8 := RW.stp st9 rel8
              unfold pairX at q9
              split at q9
              · split at q9
                · rename_i hk
                  have q9 : Fin T Wx B μ1 s1 H1 σ Q (endX out ik zs (appR (consR (.d (.tuple [_, _])) _ s9) _)) := q9
                  rw [appR_cons, endX_cons] at q9
                  refine m9.push hD rel8 rel9 hk (sq4096 (by omega) (by omega) hzs) fun o m10 => ?_
                  have kf := ((k6.trans st7.kp).trans st8.kp).trans st9.kp
                  exact ⟨μ9, s9, _, m10, by simp; omega, (((e6.stp st7).stp st8).stp st9).updX hD m9 o, kf.trans (kp_upd (.inl (.inr rfl))), q9⟩
                · exact q9.elim
              · exact q9.elim
        · have ej : j = ds1.length := by omega
          subst ej
          rw [List.drop_length] at f5
          exact .inl ⟨w1.stops H5 hG1, μ5, s5, zs, m5, by omega, f5⟩
  · have ei : i = ds.length := by omega
    subst ei
    rw [List.drop_length] at fq
    have fq : Fin (a := W) T Wx B μ1 s1 H1 σ Q (out (dX ik (ys ++ [])) s') := fq
    rw [List.append_nil] at fq
    exact .inl ⟨w.stops H' hG, hdone m r1 hD fq⟩
/-! the expressions -/
section
variable {ob : Addr → HO} {wi : TI} {g : TG} {tx : TT} {tr : Addr → L2.St → Hp → (Hp → Prop) → Prop} {rest : Env → Addr → (Shared → Prop) → Shared → Prop} {more : List Comprehension}
theorem pe_dx (hc : X.calm = true) (hN : X.N.Nodup) (hi : PI X tg iter wi) (ok : BlkOk X.N X.env.scope scope own)
    (hg : ∀ s0 H0 C cl fp, PG (X.blk s0 H0 scope (compEnvC scope cl C X.env) fp) tg g) (ht : ∀ s0 H0 C cl fp, PTs (X.blk s0 H0 scope (compEnvC scope cl C X.env) fp) ifs tx)
    (hob : ∀ (h : Heap) (H' : Hp), sysModules < h.objs.size → ObjOk X.prog X.w H' (newD h) h.objs.size (ob h.objs.size))
    (hl : Loop1 X (.DictComp kx vx (⟨tg, iter, ifs, 0⟩ :: more) scope pos) tg ifs rest)
    (hr : ∀ s0 H0 C cl fp D, RestOk (X.blk s0 H0 scope (compEnvC scope cl C X.env) fp) (rest (compEnvC scope cl C X.env) D) (tr D) (own.map (·.2)))
    (hs : ∀ x, foldedSetIterable iter X.env x = pure x) : PE X (.DictComp kx vx (⟨tg, iter, ifs, 0⟩ :: more) scope pos) (tDx ob wi g tx tr (own.map (·.2))) := ⟨fun pins s σ H Q I q => by
  rw [arm_eval_DictComp]
  exact dcx hc hN I hi ok hg ht hob hl hr hs q fun D C s' m H' I' q' hn ⟨z0, z1, z3, z4, z5, z6⟩ => ⟨m, hn, fun h'' sb => ⟨.ref D, H', I'.turned (t' := s'.toks) (fun b o hb e => (sb.2 b hb).trans e) z0 z1 z4 z5 z6, rfl, q'⟩⟩⟩
theorem ps_dx {i : Nat} {y : Str} {py spos : Pos} (hc : X.calm = true) (hN : X.N.Nodup) (hy : X.N[i]? = some y) (hyl : X.env.scope.names.lookup y = some .local)
    (hsw : swapsWith (.DictComp kx vx (⟨tg, iter, ifs, 0⟩ :: more) scope pos) (some (.Name y py)) spos.line X.env = pure true) (hi : PI X tg iter wi) (ok : BlkOk X.N X.env.scope scope own)
    (hg : ∀ s0 H0 C cl fp, PG (X.blk s0 H0 scope (compEnvC scope cl C X.env) fp) tg g) (ht : ∀ s0 H0 C cl fp, PTs (X.blk s0 H0 scope (compEnvC scope cl C X.env) fp) ifs tx)
    (hob : ∀ (h : Heap) (H' : Hp), sysModules < h.objs.size → ObjOk X.prog X.w H' (newD h) h.objs.size (ob h.objs.size))
    (hl : Loop1 X (.DictComp kx vx (⟨tg, iter, ifs, 0⟩ :: more) scope pos) tg ifs rest)
    (hr : ∀ s0 H0 C cl fp D, RestOk (X.blk s0 H0 scope (compEnvC scope cl C X.env) fp) (rest (compEnvC scope cl C X.env) D) (tr D) (own.map (·.2)))
    (hs : ∀ x, foldedSetIterable iter X.env x = pure x) : PS X (.Assign [.Name y py] (.DictComp kx vx (⟨tg, iter, ifs, 0⟩ :: more) scope pos) spos) (tAsg (tDx ob wi g tx tr (own.map (·.2))) (gName i)) := ⟨fun pins s σ H D I q => by
  rw [exec_Assign_Name_used _ _ _ _ hsw]
  refine wpAny_bind (wpAny_standAt (wpAny_bind ?_))
  show wpAny _ X.A (do let _ ← comprehension (.DictComp kx vx (⟨tg, iter, ifs, 0⟩ :: more) scope pos) scope X.env (firstIterPos (⟨tg, iter, ifs, 0⟩ :: more) pos) newDict false (eval iter X.env) (some (assign (.Name y py) X.env))) _ _ s
  refine wpAny_bind (thn (dcx (Q := fun x H1 => gName i x σ H1 D.nx) (Qf := fun _ s' => SP X pins D .next s') hc hN I hi ok hg ht hob hl hr hs q fun L C s' m H' I' q' hn ⟨z0, z1, z3, z4, z5, z6⟩ => ?_) fun _ s' hq => wpAny_pure (wpAny_pure hq))
  show wpAny _ _ (assign (.Name y py) X.env (.ref L)) _ _ _
  refine wpAny_assign_Name (store_ok2 (v := V.ref L) I' hN hy (.inl hyl) rfl (fun s2 I2 ⟨a, sb, ha⟩ => ?_) (.inr hyl))
  have apart : C ≠ a := ha.elim (fun z => by rw [z]; exact z1) fun z e => z5 y a z e.symm
  exact ⟨m, hn.sameBut sb apart, fun h3 sb3 => ⟨_, H', I2.turned (t' := s2.toks) (fun b o hb e => (sb3.2 b hb).trans e) z0 z1 z4 z5 z6, q'⟩⟩⟩
end
end
end
end DL
namespace DL
open PySem PySem.Spec PyProof.Rows L2
section
variable [KFrag]
/-! ### {k: v for ..} as an expression, as a name's value -/
section
variable {X : Cx} [HK X] {T : TX} {Wx : WXc} {kx vx tg iter tg1 iter1 : Expr} {ifs ifs1 : List Expr} {scope : Scope} {own : List (Str × Nat)} {vs1 : List Nat} {pos : Pos} {fi fi1 : En → CS → R (List D)} {is is1 : List Nat} {h h1 : W → En → Option En} {tt tt1 : En → CS → R Bool} {fk fv : En → CS → R W} {ik : Bool}
theorem de_dc (hw : X.w = KFrag.w) (hu : X.A.units + 64 < cLine) (hc : X.calm = true) (hNd : X.N.Nodup) (hi : DI X T Wx tg iter fi) (ok : BlkOk X.N X.env.scope scope own) (hsub : ∀ i ∈ is, i ∈ own.map (·.2))
    (hg : ∀ s0 H0 C cl fp, DG (X.blk s0 H0 scope (compEnvC scope cl C X.env) fp) tg is h) (ht : ∀ s0 H0 C cl fp, PTs (X.blk s0 H0 scope (compEnvC scope cl C X.env) fp) ifs (tD T Wx0 tt))
    (hk : ∀ s0 H0 C cl fp, DE (X.blk s0 H0 scope (compEnvC scope cl C X.env) fp) T Wx0 kx fk) (hv : ∀ s0 H0 C cl fp, DE (X.blk s0 H0 scope (compEnvC scope cl C X.env) fp) T Wx0 vx fv) (hs : ∀ x, foldedSetIterable iter X.env x = pure x := by intro _; rfl) :
    DE X T Wx (.DictComp kx vx [⟨tg, iter, ifs, 0⟩] scope pos) (fDc outC ik (own.map (·.2)) fi h tt fk fv) :=
  PE_imp (pe_dx (ob := obX ik) (rest := rest1 X kx vx) (tr := tr1 (tD T Wx0 fk) (tD T Wx0 fv) (srX ik)) hc hNd hi ok hg ht (fun h H' hb => obX_ok hw h H' hb) loop_one
    (fun s0 H0 C cl fp D => rest_one (X := X.blk s0 H0 scope (compEnvC scope cl C X.env) fp) rfl (hk s0 H0 C cl fp) (hv s0 H0 C cl fp) (psX (X := X.blk s0 H0 scope (compEnvC scope cl C X.env) fp) hw hu) rfl) hs) fun σ H Q => tDc_use hsub fun m r1 hD q => m.done r1 hD q
theorem ds_setDc {i : Nat} {y : Str} {py spos : Pos} (hw : X.w = KFrag.w) (hu : X.A.units + 64 < cLine) (hc : X.calm = true) (hNd : X.N.Nodup) (hy : X.N[i]? = some y) (hyl : X.env.scope.names.lookup y = some .local)
    (hsw : swapsWith (.DictComp kx vx [⟨tg, iter, ifs, 0⟩] scope pos) (some (.Name y py)) spos.line X.env = pure true) (hi : DI X T Wx tg iter fi) (ok : BlkOk X.N X.env.scope scope own) (hsub : ∀ i ∈ is, i ∈ own.map (·.2))
    (hg : ∀ s0 H0 C cl fp, DG (X.blk s0 H0 scope (compEnvC scope cl C X.env) fp) tg is h) (ht : ∀ s0 H0 C cl fp, PTs (X.blk s0 H0 scope (compEnvC scope cl C X.env) fp) ifs (tD T Wx0 tt))
    (hk : ∀ s0 H0 C cl fp, DE (X.blk s0 H0 scope (compEnvC scope cl C X.env) fp) T Wx0 kx fk) (hv : ∀ s0 H0 C cl fp, DE (X.blk s0 H0 scope (compEnvC scope cl C X.env) fp) T Wx0 vx fv) (hs : ∀ x, foldedSetIterable iter X.env x = pure x := by intro _; rfl) :
    DS X T Wx (.Assign [.Name y py] (.DictComp kx vx [⟨tg, iter, ifs, 0⟩] scope pos) spos) (gAsg (hN i) (fDc outC ik (own.map (·.2)) fi h tt fk fv)) :=
  PS_imp (ps_dx (ob := obX ik) (rest := rest1 X kx vx) (tr := tr1 (tD T Wx0 fk) (tD T Wx0 fv) (srX ik)) hc hNd hy hyl hsw hi ok hg ht (fun h H' hb => obX_ok hw h H' hb) loop_one
    (fun s0 H0 C cl fp D => rest_one (X := X.blk s0 H0 scope (compEnvC scope cl C X.env) fp) rfl (hk s0 H0 C cl fp) (hv s0 H0 C cl fp) (psX (X := X.blk s0 H0 scope (compEnvC scope cl C X.env) fp) hw hu) rfl) hs) fun D σ H q => by
  have hx : ∀ (t : TE), (∀ σ H Q, tD T Wx (fDc outC ik (own.map (·.2)) fi h tt fk fv) σ H Q → t σ H Q) → tAsg t (gName i) D σ H := fun t k => by
    obtain ⟨B, μ, s, ρ, r, e, q⟩ := q
    exact k σ H _ (tD_bindT r e q fun w s1 v μ1 H1 st1 r1 e1 rel1 q1 => q1 _ μ1 H1 Stp.refl r1 (e1.set rel1 i))
  exact hx _ fun σ H Q z => tDc_use hsub (fun m r1 hD q => m.done r1 hD q) z
theorem de_dc2 (hw : X.w = KFrag.w) (hu : X.A.units + 64 < cLine) (hc : X.calm = true) (hNd : X.N.Nodup) (hi : DI X T Wx tg iter fi) (ok : BlkOk X.N X.env.scope scope own) (hvs : ∀ i ∈ vs1, i ∈ own.map (·.2)) (hsub : ∀ i ∈ is, i ∈ own.map (·.2)) (hsub1 : ∀ i ∈ is1, i ∈ vs1)
    (hg : ∀ s0 H0 C cl fp, DG (X.blk s0 H0 scope (compEnvC scope cl C X.env) fp) tg is h) (ht : ∀ s0 H0 C cl fp, PTs (X.blk s0 H0 scope (compEnvC scope cl C X.env) fp) ifs (tD T Wx0 tt))
    (hi1 : ∀ s0 H0 C cl fp, DI (X.blk s0 H0 scope (compEnvC scope cl C X.env) fp) T Wx0 tg1 iter1 fi1) (hg1 : ∀ s0 H0 C cl fp, DG (X.blk s0 H0 scope (compEnvC scope cl C X.env) fp) tg1 is1 h1) (ht1 : ∀ s0 H0 C cl fp, PTs (X.blk s0 H0 scope (compEnvC scope cl C X.env) fp) ifs1 (tD T Wx0 tt1))
    (hk : ∀ s0 H0 C cl fp, DE (X.blk s0 H0 scope (compEnvC scope cl C X.env) fp) T Wx0 kx fk) (hv : ∀ s0 H0 C cl fp, DE (X.blk s0 H0 scope (compEnvC scope cl C X.env) fp) T Wx0 vx fv) (hs : ∀ x, foldedSetIterable iter X.env x = pure x := by intro _; rfl) (hs1 : ∀ ce x, foldedSetIterable iter1 ce x = pure x := by intro _ _; rfl) :
    DE X T Wx (.DictComp kx vx [⟨tg, iter, ifs, 0⟩, ⟨tg1, iter1, ifs1, 0⟩] scope pos) (fDc2 outC ik (own.map (·.2)) vs1 fi h tt fi1 h1 tt1 fk fv) :=
  PE_imp (pe_dx (ob := obX ik) (rest := rest2 X (.DictComp kx vx [⟨tg, iter, ifs, 0⟩, ⟨tg1, iter1, ifs1, 0⟩] scope pos) iter1) (tr := tr2 (tD T Wx0 fi1) (tG is1 h1) (tD T Wx0 tt1) (tD T Wx0 fk) (tD T Wx0 fv) (srX ik) vs1) hc hNd hi ok hg ht (fun h H' hb => obX_ok hw h H' hb) (loop_two hs1)
    (fun s0 H0 C cl fp D => rest_two (X := X.blk s0 H0 scope (compEnvC scope cl C X.env) fp) hc rfl hvs (hi1 s0 H0 C cl fp) (hg1 s0 H0 C cl fp) (ht1 s0 H0 C cl fp) (hk s0 H0 C cl fp) (hv s0 H0 C cl fp) (psX (X := X.blk s0 H0 scope (compEnvC scope cl C X.env) fp) hw hu) rfl) hs) fun σ H Q => tDc2_use hsub hsub1 fun m r1 hD q => m.done r1 hD q
theorem ds_setDc2 {i : Nat} {y : Str} {py spos : Pos} (hw : X.w = KFrag.w) (hu : X.A.units + 64 < cLine) (hc : X.calm = true) (hNd : X.N.Nodup) (hy : X.N[i]? = some y) (hyl : X.env.scope.names.lookup y = some .local)
    (hsw : swapsWith (.DictComp kx vx [⟨tg, iter, ifs, 0⟩, ⟨tg1, iter1, ifs1, 0⟩] scope pos) (some (.Name y py)) spos.line X.env = pure true) (hi : DI X T Wx tg iter fi) (ok : BlkOk X.N X.env.scope scope own) (hvs : ∀ i ∈ vs1, i ∈ own.map (·.2)) (hsub : ∀ i ∈ is, i ∈ own.map (·.2)) (hsub1 : ∀ i ∈ is1, i ∈ vs1)
    (hg : ∀ s0 H0 C cl fp, DG (X.blk s0 H0 scope (compEnvC scope cl C X.env) fp) tg is h) (ht : ∀ s0 H0 C cl fp, PTs (X.blk s0 H0 scope (compEnvC scope cl C X.env) fp) ifs (tD T Wx0 tt))
    (hi1 : ∀ s0 H0 C cl fp, DI (X.blk s0 H0 scope (compEnvC scope cl C X.env) fp) T Wx0 tg1 iter1 fi1) (hg1 : ∀ s0 H0 C cl fp, DG (X.blk s0 H0 scope (compEnvC scope cl C X.env) fp) tg1 is1 h1) (ht1 : ∀ s0 H0 C cl fp, PTs (X.blk s0 H0 scope (compEnvC scope cl C X.env) fp) ifs1 (tD T Wx0 tt1))
    (hk : ∀ s0 H0 C cl fp, DE (X.blk s0 H0 scope (compEnvC scope cl C X.env) fp) T Wx0 kx fk) (hv : ∀ s0 H0 C cl fp, DE (X.blk s0 H0 scope (compEnvC scope cl C X.env) fp) T Wx0 vx fv) (hs : ∀ x, foldedSetIterable iter X.env x = pure x := by intro _; rfl) (hs1 : ∀ ce x, foldedSetIterable iter1 ce x = pure x := by intro _ _; rfl) :
    DS X T Wx (.Assign [.Name y py] (.DictComp kx vx [⟨tg, iter, ifs, 0⟩, ⟨tg1, iter1, ifs1, 0⟩] scope pos) spos) (gAsg (hN i) (fDc2 outC ik (own.map (·.2)) vs1 fi h tt fi1 h1 tt1 fk fv)) :=
  PS_imp (ps_dx (ob := obX ik) (rest := rest2 X (.DictComp kx vx [⟨tg, iter, ifs, 0⟩, ⟨tg1, iter1, ifs1, 0⟩] scope pos) iter1) (tr := tr2 (tD T Wx0 fi1) (tG is1 h1) (tD T Wx0 tt1) (tD T Wx0 fk) (tD T Wx0 fv) (srX ik) vs1) hc hNd hy hyl hsw hi ok hg ht (fun h H' hb => obX_ok hw h H' hb) (loop_two hs1)
    (fun s0 H0 C cl fp D => rest_two (X := X.blk s0 H0 scope (compEnvC scope cl C X.env) fp) hc rfl hvs (hi1 s0 H0 C cl fp) (hg1 s0 H0 C cl fp) (ht1 s0 H0 C cl fp) (hk s0 H0 C cl fp) (hv s0 H0 C cl fp) (psX (X := X.blk s0 H0 scope (compEnvC scope cl C X.env) fp) hw hu) rfl) hs) fun D σ H q => by
  have hx : ∀ (t : TE), (∀ σ H Q, tD T Wx (fDc2 outC ik (own.map (·.2)) vs1 fi h tt fi1 h1 tt1 fk fv) σ H Q → t σ H Q) → tAsg t (gName i) D σ H := fun t k => by
    obtain ⟨B, μ, s, ρ, r, e, q⟩ := q
    exact k σ H _ (tD_bindT r e q fun w s1 v μ1 H1 st1 r1 e1 rel1 q1 => q1 _ μ1 H1 Stp.refl r1 (e1.set rel1 i))
  exact hx _ fun σ H Q z => tDc2_use hsub hsub1 (fun m r1 hD q => m.done r1 hD q) z
theorem de_dcF (hw : X.w = KFrag.w) (hu : X.A.units + 64 < cLine) (hc : X.calm = true) (hNd : X.N.Nodup) (hi : DI X T Wx tg iter fi) (ok : BlkOk X.N X.env.scope scope own) (hsub : ∀ i ∈ is, i ∈ own.map (·.2))
    (hg : ∀ s0 H0 C cl fp, DG (X.blk s0 H0 scope (compEnvC scope cl C X.env) fp) tg is h) (ht : ∀ s0 H0 C cl fp, PTs (X.blk s0 H0 scope (compEnvC scope cl C X.env) fp) ifs (tD T Wx0 tt))
    (hk : ∀ s0 H0 C cl fp, DE (X.blk s0 H0 scope (compEnvC scope cl C X.env) fp) T Wx0 kx fk) (hv : ∀ s0 H0 C cl fp, DE (X.blk s0 H0 scope (compEnvC scope cl C X.env) fp) T Wx0 vx fv) (hs : ∀ x, foldedSetIterable iter X.env x = pure x := by intro _; rfl) :
    DE X T Wx (.DictComp kx vx [⟨tg, iter, ifs, 0⟩] scope pos) (fDc outF ik (own.map (·.2)) fi h tt fk fv) :=
  PE_imp (pe_lockV (pe_dx (ob := obX ik) (rest := rest1 X kx vx) (tr := tr1 (tD T Wx0 fk) (tD T Wx0 fv) (srX ik)) hc hNd hi ok hg ht (fun h H' hb => obX_ok hw h H' hb) loop_one
    (fun s0 H0 C cl fp D => rest_one (X := X.blk s0 H0 scope (compEnvC scope cl C X.env) fp) rfl (hk s0 H0 C cl fp) (hv s0 H0 C cl fp) (psX (X := X.blk s0 H0 scope (compEnvC scope cl C X.env) fp) hw hu) rfl) hs)) fun σ H Q => tDc_use hsub fun m r1 hD q => m.doneF r1 hD q
theorem de_dcF2 (hw : X.w = KFrag.w) (hu : X.A.units + 64 < cLine) (hc : X.calm = true) (hNd : X.N.Nodup) (hi : DI X T Wx tg iter fi) (ok : BlkOk X.N X.env.scope scope own) (hvs : ∀ i ∈ vs1, i ∈ own.map (·.2)) (hsub : ∀ i ∈ is, i ∈ own.map (·.2)) (hsub1 : ∀ i ∈ is1, i ∈ vs1)
    (hg : ∀ s0 H0 C cl fp, DG (X.blk s0 H0 scope (compEnvC scope cl C X.env) fp) tg is h) (ht : ∀ s0 H0 C cl fp, PTs (X.blk s0 H0 scope (compEnvC scope cl C X.env) fp) ifs (tD T Wx0 tt))
    (hi1 : ∀ s0 H0 C cl fp, DI (X.blk s0 H0 scope (compEnvC scope cl C X.env) fp) T Wx0 tg1 iter1 fi1) (hg1 : ∀ s0 H0 C cl fp, DG (X.blk s0 H0 scope (compEnvC scope cl C X.env) fp) tg1 is1 h1) (ht1 : ∀ s0 H0 C cl fp, PTs (X.blk s0 H0 scope (compEnvC scope cl C X.env) fp) ifs1 (tD T Wx0 tt1))
    (hk : ∀ s0 H0 C cl fp, DE (X.blk s0 H0 scope (compEnvC scope cl C X.env) fp) T Wx0 kx fk) (hv : ∀ s0 H0 C cl fp, DE (X.blk s0 H0 scope (compEnvC scope cl C X.env) fp) T Wx0 vx fv) (hs : ∀ x, foldedSetIterable iter X.env x = pure x := by intro _; rfl) (hs1 : ∀ ce x, foldedSetIterable iter1 ce x = pure x := by intro _ _; rfl) :
    DE X T Wx (.DictComp kx vx [⟨tg, iter, ifs, 0⟩, ⟨tg1, iter1, ifs1, 0⟩] scope pos) (fDc2 outF ik (own.map (·.2)) vs1 fi h tt fi1 h1 tt1 fk fv) :=
  PE_imp (pe_lockV (pe_dx (ob := obX ik) (rest := rest2 X (.DictComp kx vx [⟨tg, iter, ifs, 0⟩, ⟨tg1, iter1, ifs1, 0⟩] scope pos) iter1) (tr := tr2 (tD T Wx0 fi1) (tG is1 h1) (tD T Wx0 tt1) (tD T Wx0 fk) (tD T Wx0 fv) (srX ik) vs1) hc hNd hi ok hg ht (fun h H' hb => obX_ok hw h H' hb) (loop_two hs1)
    (fun s0 H0 C cl fp D => rest_two (X := X.blk s0 H0 scope (compEnvC scope cl C X.env) fp) hc rfl hvs (hi1 s0 H0 C cl fp) (hg1 s0 H0 C cl fp) (ht1 s0 H0 C cl fp) (hk s0 H0 C cl fp) (hv s0 H0 C cl fp) (psX (X := X.blk s0 H0 scope (compEnvC scope cl C X.env) fp) hw hu) rfl) hs)) fun σ H Q => tDc2_use hsub hsub1 fun m r1 hD q => m.doneF r1 hD q
theorem sw_dict {gs : List Comprehension} {py : Pos} {y : Str} {l : Nat} {ce : Env} (hk : ce.scope.kind = .function) (hy : ce.scope.names.lookup y = some .local) (hl : (py.line == pos.line) = true)
    (ha : (scope.names.any fun (n, k) => n == y && (k == .local || k == .cell)) = false) : swapsWith (.DictComp kx vx gs scope pos) (some (.Name y py)) l ce = pure true := by
  have k1 : ce.kindOf y = some .local := hy
  have k2 : ce.blockKind = .function := by unfold Env.blockKind; rw [hk]; rfl
  unfold swapsWith
  simp only [k1, k2, ha, Expr.pos, hl]
  rfl
end
/-! ### whole numbers as keys: in, sorted, update -/
def isMk (p : D × D) : Bool := match p with
  | (.none, .none) => true
  | _ => false
theorem isMk_is {p : D × D} (h : isMk p = true) : p = mark := by
  unfold isMk at h
  split at h
  · rfl
  · cases h
def dctI (w : W) (s : CS) : Option (List (D × D)) := match w with
  | .c n => match s[n]? with
    | some (.dct (p :: r)) => if isMk p = true then some r else none
    | _ => none
  | .fd (p :: r) => if isMk p = true then some r else none
  | _ => none
theorem dctI_rd {B : Addr → Prop} {μ : List Addr} {s : CS} {H : Hp} {x : V} {w : W} {ds : List (D × D)} (r : SR B μ s H) (h : RW B μ s H x w) (e : dctI w s = some ds) : ∃ a ks, x = .ref a ∧ Rd H a (.dK ks) ∧ IKs H (Av B μ s) ks ds := by
  unfold dctI at e
  split at e
  · rename_i n
    split at e
    · rename_i p t z
      split at e
      · rename_i hm
        cases e
        rw [isMk_is hm] at z
        obtain ⟨a, rfl, ha⟩ := h
        obtain ⟨ks, ea, k⟩ := CellOk.mk (r.cell n a _ ha z)
        exact ⟨a, ks, rfl, .inl ea, k⟩
      · cases e
    · cases e
  · rename_i p t
    split at e
    · rename_i hm
      cases e
      rw [isMk_is hm] at h
      obtain ⟨a, o, ks, rfl, ea, _, k⟩ := FD.mk h
      exact ⟨a, ks, rfl, .inr ⟨o, ea⟩, k⟩
    · cases e
  · cases e
def dInI (neg : Bool) (u w : W) (s : CS) : R W := match dctI w s, u with
  | some ds, .d (.int i) => .ok (.d (.bool (xor neg (lookI ds i).isSome))) s
  | _, _ => .bad
def fIIn (neg : Bool) (f g : En → CS → R W) (ρ : En) (s : CS) : R W := (f ρ s).bind fun u s => (g ρ s).bind fun w s => dInI neg u w s
def tIIn (ty td : TE) : TE := fun σ H Q => ty σ H fun y H1 => td σ H1 fun x H2 => ∃ a o, x = .ref a ∧ DGet H2 a y o ∧ Q (.bl o.isSome) H2
section
variable {X : Cx} [HK X] {T : TX} {Wx : WXc} {e e2 : Expr} {f g : En → CS → R W} {fs : En → CS → R (List W)} {p p2 pos apos : Pos} {ty td : TE}
theorem pc_iin (hu : X.A.units + 64 < cLine) (hi : PE X e ty) (ho : PE X e2 td) : PC X .In e e2 (tIIn ty td) := by
  refine ⟨fun pins s σ H Q I h => ?_⟩
  refine thn (hi.run pins s σ H _ I h) fun iv s1 ⟨y, H1, I1, ry, q1⟩ => thn (ho.run pins s1 σ H1 _ I1 q1) fun u s2 ⟨x, H2, I2, rx, a, o, ex, g, q2⟩ => ?_
  subst ex
  obtain rfl : u = Value.ref a := rx
  exact d_in (by omega) I2 g ry fun s3 I3 => ⟨.bl o.isSome, H2, I3, rfl, q2⟩
theorem dInI_use {σ : L2.St} {H : Hp} {Q : VK} (q : tD T Wx (fIIn false f g) σ H Q) : tIIn (tD T Wx f) (tD T Wx g) σ H Q := by
  obtain ⟨B, μ, s, ρ, r, e, q⟩ := q
  refine tD_bind r e q fun u s1 y μ1 H1 st1 r1 e1 rel1 q1 => tD_bind r1 e1 q1 fun w s2 x μ2 H2 st2 r2 e2 rel2 q2 => ?_
  unfold dInI at q2
  split at q2
  · rename_i ds i hd
    have ry := RW.stp st2 rel1
    cases ry.data
    obtain ⟨a, ks, ex, rd, k⟩ := dctI_rd r2 rel2 hd
    rw [Bool.false_xor] at q2
    refine ⟨a, valV ks (.inl i), ex, .inl ⟨ks, .inl i, rd, rfl, rfl⟩, ?_⟩
    have es : (valV ks (.inl i)).isSome = (lookI ds i).isSome := by
      rcases k.look (i := i) with ⟨h1, h2⟩ | ⟨v, y, h1, h2, _⟩ <;> rw [h1, h2] <;> rfl
    rw [es]
    exact Fin.here (a := W) q2 r2 (Fz.bl _)
  · exact q2.elim
theorem de_iin (hu : X.A.units + 64 < cLine) (ha : DE X T Wx e f) (hb : DE X T Wx e2 g) (hm : behindInMarks .In e2 = false := by first | exact nomark _ | rfl) : DE X T Wx (.Compare e [.In] [e2] pos) (fIIn false f g) :=
  PE_imp (pe_cmp (pc_iin hu ha hb) hm) fun _ _ _ => dInI_use
theorem dt_iin (hu : X.A.units + 64 < cLine) (ha : DE X T Wx e f) (hb : DE X T Wx e2 g) (hm : behindInMarks .In e2 = false := by first | exact nomark _ | rfl) : DT X T Wx (.Compare e [.In] [e2] pos) (fB (fIIn false f g)) :=
  PT_imp (pt_cmp (pc_iin hu ha hb) hm) fun _ _ _ q => tB_imp (fun _ _ _ => dInI_use) (tB_use q)
end
end
end DL
namespace DL
open PySem PySem.Spec PyProof.Rows L2
def mergeI (ds es : List (D × D)) : List (D × D) := es.foldl (fun acc p => match p.1 with
  | .int i => putI acc i p.2
  | _ => acc) ds
abbrev mergeK (ks ls : List (Key × V)) : List (Key × V) := ls.foldl (fun acc kv => putK acc kv.1 kv.2) ks
theorem KV.merge : ∀ {ls : List (Key × V)} {ws : List (Key × Value)}, KV ls ws → ∀ {ks : List (Key × V)} {vs : List (Key × Value)}, KV ks vs → KV (mergeK ks ls) (merged vs ws) := by
  intro ls ws h
  unfold KV at h
  induction h with
  | nil => exact fun r => r
  | @cons p q ps qs h t ih =>
    intro ks vs r
    obtain ⟨h1, h2⟩ := h
    show KV (mergeK (putK ks p.1 p.2) ps) (merged (stored vs q.1 q.2) qs)
    rw [← h1]
    exact ih (r.put p.1 h2)
theorem mergeK_len : ∀ {ls ks : List (Key × V)}, (mergeK ks ls).length ≤ ks.length + ls.length
  | [], ks => by simp
  | p :: ls, ks => by
    show (mergeK (putK ks p.1 p.2) ls).length ≤ _
    have h1 := mergeK_len (ls := ls) (ks := putK ks p.1 p.2)
    have h2 := length_putK ks p.1 p.2
    simp only [List.length_cons]
    omega
section
variable [KFrag]
theorem IKs.merge {H : Hp} {A : Addr → Prop} : ∀ {ls : List (Key × V)} {es : List (D × D)}, IKs H A ls es → ∀ {ks : List (Key × V)} {ds : List (D × D)}, IKs H A ks ds → IKs H A (mergeK ks ls) (mergeI ds es)
  | _, _, .nil, _, _, k => k
  | _, _, .cons (i := i) (v := v) (ks := ls) (y := y) (ds := es) f t, ks, ds, k => by
    show IKs H A (mergeK (putK ks (.inl i) v) ls) (mergeI (putI ds i y) es)
    exact IKs.merge t (k.put f)
def rUpdI : V → List V → Hp → VK → Prop := fun x xs H Q => ∃ a b ks ls, x = .ref a ∧ xs = [.ref b] ∧ a ≠ b ∧ H a = some (.dK ks) ∧ Rd H b (.dK ls) ∧ ks.length + ls.length ≤ sizeLine ∧ Q .non (upd H a (.dK (mergeK ks ls)))
theorem mt_updI {X : Cx} : MtR X "dict.update" rUpdI := by
  intro pins s σ H x vs v us Q I rx rv ⟨a, b, ks, ls, ex, ev, hne, ea, eb, hz, q⟩
  subst ex ev
  obtain rfl : v = Value.ref a := rx
  cases rv with
  | cons r1 r2 =>
  cases r2
  cases (show _ = Value.ref b from r1)
  obtain ⟨z1, hd1, vs, rel1, dd1⟩ := dk_of I.hok ea
  obtain ⟨z2, hd2, ws, rel2, dd2⟩ := dk_rd I.hok eb
  refine call_meetsIn PySem.F.slot_dict_update dd1.typeIs PySem.F.entry_dict_update (PySem.F.args_dict_update_2 _ _) (meets_dict_update (mixKind X.prog X.w) a b hne hd2) ⟨vs, ws, dd1, dd2, by rw [← rel1.length, ← rel2.length]; exact hz, fun h' dd' _ hs => ?_⟩
  have he : ∃ q, h'.get? a = some q := let ⟨q, _, _, hq, _⟩ := dd'; ⟨q, hq⟩
  exact ⟨.non, _, d_write (t' := s.toks) I (by rw [ea]; exact True.intro) hs he (dk_new (Nat.le_trans mergeK_len hz) hd1 (KV.merge rel2 rel1) dd'), rfl, q⟩
/-! over cells -/
def onI (k : Nat → CS → RT) (w : W) (s : CS) : RT := match w with
  | .c n => match s[n]? with
    | some (.dct (p :: _)) => if isMk p = true then k n s else .bad
    | _ => .bad
  | _ => .bad
def difC (u : W) (n : Nat) : Bool := match u with
  | .c m => !decide (m = n)
  | _ => true
def updI (n : Nat) (u : W) (s : CS) (ρ : En) : RT := match dctI (.c n) s, dctI u s with
  | some ds, some es => if difC u n = true ∧ ds.length + es.length ≤ line then .nx ρ (s.set n (.dct (mark :: mergeI ds es))) else .bad
  | _, _ => .bad
def gUpdI (f g : En → CS → R W) (ρ : En) (s : CS) : RT := (f ρ s).toT ρ (onI fun n s => (g ρ s).toT ρ fun u s => updI n u s ρ)
theorem dctI_c {s : CS} {n : Nat} {ds : List (D × D)} (e : dctI (.c n) s = some ds) : s[n]? = some (.dct (mark :: ds)) := by
  unfold dctI at e
  simp only at e
  split at e
  · rename_i p t z
    split at e
    · rename_i hm
      cases e
      rw [isMk_is hm] at z
      exact z
    · cases e
  · cases e
section
variable {X : Cx} [HK X] {T : TX} {Wx : WXc} {e e2 : Expr} {f g : En → CS → R W} {fs : En → CS → R (List W)} {p p2 pos apos : Pos}
theorem ds_updI (ha : DE X T Wx e f) (hb : DE X T Wx e2 g) (hbase : attributeBase e "update" X.env (eval e X.env) = eval e X.env := by rfl)
    (hfew : ((backTo p2 (starEach [e2] X.env)).all (fun x => !x.1) && (backToKw p2 (keywordEach [] X.env)).all (fun x => x.1.isSome) && decide ([e2].length + ([] : List Keyword).length + (if ([] : List Keyword).isEmpty then 0 else 1) < 30)) = true := by rfl)
    (hline : (apos.endLine == p2.line) = true := by rfl) (hs : starEach [e2] X.env = (false, eval e2 X.env) :: starEach [] X.env := by rfl) (hplain : (backTo p2 (starEach [] X.env)).any (·.1) = false := by rfl)
    (hsw : swapsWith (.Call (.Attribute e "update" apos) [e2] [] p2) none pos.line X.env = pure false := by rfl) : DS X T Wx (.Expr (.Call (.Attribute e "update" apos) [e2] [] p2) pos) (gUpdI f g) :=
  PS_imp (ps_expr (pe_bm PySem.F.plainAttrs_dict PySem.F.slot_dict_update PySem.F.type_dict_update mt_updI ha (pa_cons hb pa_nil hs) hbase hfew hline hs hplain) hsw) fun D σ H ⟨B, μ, s, ρ, r, e, q⟩ =>
  tD_bindT r e q fun w s1 x μ1 H1 st1 r1 e1 rel1 q1 => by
    unfold onI at q1
    split at q1
    · rename_i n
      split at q1
      · rename_i pp t hn
        split at q1
        · rename_i hm
          rw [isMk_is hm] at hn
          obtain ⟨a, ev, ha⟩ := rel1
          subst ev
          obtain ⟨ks, ea, _⟩ := CellOk.mk (r1.cell n a _ ha hn)
          refine ⟨.inr (.inr (.inl ⟨rfl, .inl ⟨ks, ea⟩⟩)), ?_⟩
          exact tD_bindT r1 e1 q1 fun u s2 y μ2 H2 st2 r2 e2 rel2 q2 => by
            have ha2 : μ2[n]? = some a := by
              obtain ⟨t, rfl⟩ := st2.pre
              rw [List.getElem?_append_left (List.getElem?_eq_some_iff.mp ha).1]
              exact ha
            unfold updI at q2
            split at q2
            · rename_i ds es h1 h2
              split at q2
              · rename_i hz
                have hc := dctI_c h1
                obtain ⟨ks2, ea2, k2⟩ := CellOk.mk (r2.cell n a _ ha2 hc)
                obtain ⟨b, ls, eb, rb, k3⟩ := dctI_rd r2 rel2 h2
                have hne : a ≠ b := fun z => by
                  subst z
                  unfold dctI at h2
                  split at h2
                  · rename_i m
                    obtain ⟨b', e3, hb'⟩ := rel2
                    rw [eb] at e3
                    cases e3
                    have := hz.1
                    simp [difC, r2.inj m n a hb' ha2] at this
                  · rename_i pp2 t2
                    rcases rel2 with ⟨b', o, es', e3, e4, _, _⟩ | ⟨b', o, ks', r', _, e3, e4, _, _⟩
                    · rw [eb] at e3
                      cases e3
                      rw [ea2] at e4
                      cases e4
                    · rw [eb] at e3
                      cases e3
                      rw [ea2] at e4
                      cases e4
                  · cases h2
                obtain ⟨a1, a2⟩ := putCc (o := .dK (mergeK ks2 ls)) (c1 := .dct (mark :: mergeI ds es)) r2 ha2 hc (by simp) fun H' A' kk e => .inr ⟨_, _, rfl, e, (IKs.merge k3 k2).kp kk⟩
                refine ⟨a, b, ks2, ls, rfl, by rw [eb], hne, ea2, rb, ?_, ?_⟩
                · rw [k2.len, k3.len, line_eq]
                  exact hz.2
                · exact q2 σ _ _ a2 a1 (e2.stp a2)
              · exact q2.elim
            · exact q2.elim
        · exact q1.elim
      · exact q1.elim
    · exact q1.elim
/-! sorted -/
theorem IKs.keys {H : Hp} {A : Addr → Prop} : ∀ {ks : List (Key × V)} {ds : List (D × D)}, IKs H A ks ds → Fzs H A (ks.map fun kv => kV kv.1) (ds.map (·.1))
  | _, _, .nil => .nil
  | _, _, .cons _ t => .cons (.int _) (IKs.keys t)
def rSortI : List V → Hp → VK → Prop := fun vs H Q => ∃ A a ks ds es, vs = [.ref a] ∧ Rd H a (.dK ks) ∧ IKs H A ks ds ∧ srtD (ds.map (·.1)) = some es ∧ ∀ ys p, Fzs H A ys es → H p = none → Q (.ref p) (upd H p (.lst ys))
theorem cr_sortI (hc : X.calm = true) (hu : X.A.units + 64 < cLine) : CallR X (.builtin "sorted") rSortI := by
  rintro pins s σ H vs us Q I rv ⟨A, a, ks, ds, es, rfl, e, kp, h, q⟩
  cases rv with
  | cons r1 r2 =>
  cases r2
  cases (show _ = Value.ref a from r1)
  obtain ⟨z, hs, ws, rel, dd⟩ := dk_rd I.hok e
  obtain ⟨ep, hat⟩ := dd.dictAt
  have hl : ks.length = ws.length := Paired.length rel
  obtain ⟨_, ok⟩ := srt_merge h
  obtain ⟨f1, f2, f3⟩ := srt_facts ok
  refine Calls.call_function_entry PyProof.Rows.kind_sorted PyProof.Rows.plain_sorted PyProof.Rows.entry_sorted (PyProof.Rows.args_sorted1 _) ?_
  unfold Builtin.«sorted»
  refine wpAny_bind (m := checkCount "sorted" 1 1 _) (wpAny_pure ?_)
  refine wpAny_bind (PySem.W.kdu_collect (A := X.A.in1) (PySem.W.kdl_dict (knd := mixKind X.prog X.w) (kvs := ws) (ep := ep) hs) (I.ok.hd hc) hat (by rw [← hl]; exact z) fun h' tk acc hk hacc => ?_)
  have vr : Vals (ks.map fun kv => kV kv.1) acc.toList := vals_of_at (by rw [List.length_map, hl, ← hacc.1]; exact (Array.length_toList ..).symm) fun j x w h1 h2 => by
    obtain ⟨k, y, hky, hi⟩ := hacc.2 j w (by rw [← Array.getElem?_toList]; exact h2)
    have e1 : (ks.map (·.1))[j]? = some k := by rw [KV.keys rel, List.getElem?_map, hky] <;> rfl
    rw [List.getElem?_map] at h1 e1
    cases hx : ks[j]? with
    | none => rw [hx] at h1; cases h1
    | some kv =>
      rw [hx] at h1 e1
      cases h1
      cases e1
      exact keyIs_rel hi
  have fz := kp.keys
  have I1 : Inv X pins σ H { s with heap := h', toks := tk } := I.kept hk
  have hal : acc.toList.length = ks.length := by rw [← vr.length, List.length_map]
  refine wpAny_bind (wpAny_newList ?_ (by rw [hal]; exact z))
  show wpAny _ _ _ _ _ { s with heap := h'.push (seqObj "list" acc.toList.toArray 0), toks := tk }
  have hoL : (h'.push (seqObj "list" acc.toList.toArray 0)).get? h'.objs.size = some (seqObj "list" acc.toList.toArray 0) := Heap.get?_push_size _ rfl
  have I2 : Inv X pins σ H { s with heap := h'.push (seqObj "list" acc.toList.toArray 0), toks := tk } := I1.kept (t' := tk) fun b u z => Heap.get?_push_of_some _ z
  have el := each_of fz vr
  have ez := zip_snd fz
  have bl : ((ks.map fun kv => kV kv.1).zip (ds.map (·.1))).length = ks.length := by rw [List.length_zip, List.length_map, List.length_map, kp.len]; omega
  refine wpAny_bind (wpAny_holding (PySem.W.list_sort_data (R := RVD H A) (enc := (·.2)) (vs := acc.toList) (bs := (ks.map fun kv => kV kv.1).zip (ds.map (·.1))) hoL el (each_readsN I2 el (zip_all f1)) (by rw [ez]; exact fun d hd d' hd' => sh_alike _ _ (f2 d hd d' hd')) (by rw [ez]; exact f3) (by rw [bl]; exact z)
    (fun b hb => by
      have := pl_depth 8 _ (zip_all f1 b hb)
      show X.A.units + 1 + 1 + _ < cLine
      omega) fun out ho1 ho2 => ?_))
  obtain ⟨ys, y1, y2⟩ := srt_out fz h ho2
  obtain ⟨c, he'⟩ := PyProof.Rows.sortedHeap_at (vs := acc.toList) (out := List.toArray out) hoL
  refine wpAny_pure ⟨_, rfl, .ref h'.objs.size, upd H h'.objs.size (.lst ys), I1.laid (t' := tk) (fun b u z => ?_) (Nat.le_refl _) ⟨?_, out, c, y1, he'⟩, rfl, q ys _ y2 (I1.hok.fresh (Nat.le_refl _))⟩
  · have hb : b < h'.objs.size := Heap.lt_size z
    rw [PyProof.Rows.sortedHeap_old (Nat.ne_of_lt hb) (by rw [size_push']; exact Nat.lt_succ_of_lt hb)]
    exact Heap.get?_push_of_some _ z
  · rw [y1.length, ho1, bl]
    exact z
def srtI (ws : List W) (s : CS) : R W := match ws with
  | [w] => match dctI w s with
    | some ds => (match srtD (ds.map (·.1)) with
      | some es => .ok (.d (.list es)) s
      | none => .bad)
    | none => .bad
  | _ => .bad
def fSrtI (fs : En → CS → R (List W)) (ρ : En) (s : CS) : R W := (fs ρ s).bind srtI
theorem de_srtI (hc : X.calm = true) (hu : X.A.units + 64 < cLine) (hg : Gl X "sorted") (hm : X.mg "sorted" = none) (hv : bootBuiltins "sorted" = some (.builtin "sorted")) (ha : DA X T Wx [e] fs)
    (he : starEach [e] X.env = (false, eval e X.env) :: starEach [] X.env := by rfl) (hpl : (backTo pos (starEach [] X.env)).any (·.1) = false := by rfl) : DE X T Wx (.Call (.Name "sorted" p) [e] [] pos) (fSrtI fs) :=
  PE_imp (pe_callB (cr_sortI hc hu) hg hm hv ha (by decide) (by decide) he hpl) fun σ H Q ⟨B, μ, s, ρ, r, e, q⟩ => tD_bind r e q fun ws s1 vs μ1 H1 st1 r1 e1 rel1 q1 => by
    replace rel1 : RWs B μ1 s1 H1 vs ws := rel1
    unfold srtI at q1
    split at q1
    · rename_i w
      cases rel1 with
      | cons a1 a2 =>
      cases a2
      split at q1
      · rename_i ds hd
        split at q1
        · rename_i es hs
          obtain ⟨a, ks, ex, rd, k⟩ := dctI_rd r1 a1 hd
          subst ex
          exact ⟨Av B μ1 s1, a, ks, ds, es, rfl, rd, k, hs, fun ys p fy hp => Fin.use (a := W) (w := .d (.list es)) q1 (same_upd hp) r1 (Fz.newL r1.bt' hp fy)⟩
        · exact q1.elim
      · exact q1.elim
    · exact q1.elim
end
end
end DL
namespace DL
open PySem PySem.Spec PyProof.Rows L2
section
variable [KFrag]
/-! ### what the law never comes to -/
def fBad {a : Type} (_ : En) (_ : CS) : R a := .bad
def gBad (_ : En) (_ : CS) : RT := .bad
section
variable {X : Cx} {T : TX} {Wx : WXc}
theorem de_bad {e : Expr} : DE X T Wx e fBad := ⟨fun pins s σ H Q I ⟨_, _, _, _, _, _, q⟩ => q.elim⟩
theorem da_bad {e : List Expr} : DA X T Wx e fBad := ⟨fun pos pins s σ H Q I ⟨_, _, _, _, _, _, q⟩ => q.elim⟩
theorem dt_bad {e : Expr} : DT X T Wx e fBad := ⟨fun pins s σ H Q I ⟨_, _, _, _, _, _, q⟩ => q.elim⟩
theorem di_bad {tg e : Expr} : DI X T Wx tg e fBad := ⟨fun pins s σ H Q I ⟨_, _, _, _, _, _, q⟩ => q.elim⟩
theorem ds_bad {st : Stmt} : DS X T Wx st gBad := ⟨fun pins s σ H D I ⟨_, _, _, _, _, _, q⟩ => q.elim⟩
theorem dss_bad {st : List Stmt} : DSs X T Wx st gBad := ⟨fun pins s σ H D I ⟨_, _, _, _, _, _, q⟩ => q.elim⟩
end
/-! ### or, of values of any kind -/
def fOrT (f g : En → CS → R W) (ρ : En) (s : CS) : R W := (f ρ s).bind fun w s => (toTr w s).bind fun b s => if b = true then .ok w s else g ρ s
section
variable {X : Cx} [HK X] {T : TX} {Wx : WXc} {a b : Expr} {rest : List Expr} {f g : En → CS → R W} {pos : Pos}
theorem toTr_use {B : Addr → Prop} {μ : List Addr} {s : CS} {H : Hp} {σ : L2.St} {v : V} {w : W} {k : Bool → CS → R W} {Q : VK} (r : SR B μ s H) (rel : RW B μ s H v w) (q : Fin T Wx B μ s H σ Q ((toTr w s).bind k)) :
    ∃ c, TruV X.K v H c ∧ Fin T Wx B μ s H σ Q (k c s) := by
  unfold toTr at q
  split at q
  · cases rel.data; exact ⟨_, rfl, q⟩
  · cases rel.data; exact ⟨_, rfl, q⟩
  · cases rel.data; exact ⟨_, rfl, q⟩
  · cases rel.data with
    | lst h1 f1 => exact ⟨_, .inl ⟨_, h1.sq, empty_fz f1⟩, q⟩
  · cases rel.data with
    | tup h1 f1 => exact ⟨_, .inr (.inl ⟨_, h1.sq, empty_fz f1⟩), q⟩
  · split at q
    · rename_i hs
      obtain ⟨a, rfl, ha⟩ := rel
      obtain ⟨xs, ea, f1⟩ := r.cell _ a _ ha hs
      exact ⟨_, .inl ⟨_, .of ea, empty_fz f1⟩, q⟩
    · exact q.elim
  · exact q.elim
theorem de_orT (h : DE X T Wx a f) (k : DE X T Wx (.BoolOp .Or (b :: rest) pos) g) : DE X T Wx (.BoolOp .Or (a :: b :: rest) pos) (fOrT f g) := PE_imp (pe_orT h k) fun σ H Q ⟨B, μ, s, ρ, r, e, q⟩ =>
  tD_bind r e q fun w s1 v μ1 H1 st1 r1 e1 rel1 q1 => by
    obtain ⟨c, tv, q2⟩ := toTr_use (X := X) r1 rel1 q1
    refine ⟨c, tv, ?_⟩
    cases c with
    | true => exact Fin.here (a := W) q2 r1 rel1
    | false => exact ⟨B, μ1, s1, ρ, r1, e1, q2⟩
end
/-! ### try, where nothing is raised -/
def gOnly (g : En → CS → RT) (ρ : En) (s : CS) : RT := match g ρ s with
  | .exc _ _ _ => .bad
  | r => r
theorem ds_tryOk {X : Cx} {T : TX} {Wx : WXc} {body : List Stmt} {h₀ : ExceptHandler} {hs : List ExceptHandler} {pos : Pos} {g : En → CS → RT} (hb : DSs X.nox T Wx0 body g) : DS X T Wx (.Try body (h₀ :: hs) [] [] pos) (gOnly g) :=
  PS_imp (ps_try_thru0 hb) fun D σ H ⟨B, μ, s, ρ, r, e, q⟩ => by
    refine ⟨B, μ, s, ρ, r, e, ?_⟩
    unfold gOnly at q
    cases z : g ρ s with
    | exc x ρ1 s1 => simp only [z] at q; exact q.elim
    | nx ρ1 s1 => simp only [z] at q; exact q
    | rt w s1 => simp only [z] at q; exact q
    | bk ρ1 s1 => simp only [z] at q; exact q
    | ct ρ1 s1 => simp only [z] at q; exact q
    | bad => simp only [z] at q; exact q
end
/-! ### enumerate over a dict that no one changes -/
section
variable {prog : Program} {w : World} {A : Around} {E : Value → Shared → Prop} {s : Shared}
theorem nextOf_key_item {it d : Addr} {i n ep : Nat} {od : Obj} {es : Array DictEntry} {en : DictEntry} {Q : Value → Shared → Prop} (hit : s.heap.IsKeyIter it d i n ep) (hod : s.heap.get? d = some od) (hdd : od.data = .dict es ep)
    (hsz : es.size = n) (hx : es[i]? = some en) (hQ : ∀ h', h'.IsKeyIter it d (i + 1) n ep → Heap.SameBut it s.heap h' → Q en.key { s with heap := h' }) : wpAny (model prog w) A (Builtin.SmallTypes.nextOf (.ref it)) Q E s := by
  obtain ⟨o, ho, hc, hd⟩ := id hit
  unfold Builtin.SmallTypes.nextOf
  refine wpAny_bind (wpAny_callSpecial?_slot (name := Str.ofString "__next__") hit.typeIs F.slot_dict_keyiterator_next
    (wpAny_call_entry F.slot_dict_keyiterator_next hit.typeIs F.entry_dict_keyiterator_next ?_ (F.args_dict_keyiterator_next_1 _)))
  refine wpAny_bind (wpAny_pure ?_)
  refine wpAny_bind ?_
  refine wpAny_bind ?_
  first | refine wpAny_bind (wpAny_typeNameOfWhole_keyiter hit.typeIs (wpAny_pure ?_)) | refine wpAny_bind (wpAny_typeNameOf_keyiter hit.typeIs (wpAny_pure ?_))
  refine wpAny_bind (wpAny_fieldsOf ho hd ?_)
  have hown : Builtin.Dict_items.ownsTuple "dict_keyiterator" = false := by decide
  simp only [hown, Bool.false_eq_true, if_false]
  show wpAny _ _ (if (Value.ref d == Value.none) = true then _ else _) _ _ s
  rw [if_neg (show ¬ ((Value.ref d == Value.none) = true) from Bool.false_ne_true)]
  refine wpAny_bind (wpAny_pure ?_)
  refine wpAny_bind (wpAny_dictEntries hod hdd ?_)
  rw [if_neg (by rw [hsz]; simp)]
  refine wpAny_bind (wpAny_pure ?_)
  refine wpAny_bind (wpAny_dictEpoch hod hdd ?_)
  rw [if_neg (by simp)]
  refine wpAny_pure ?_
  obtain ⟨hlt', hen⟩ := Array.getElem?_eq_some_iff.mp hx
  simp only [show ¬ ((i : Int) < 0) from by omega, if_false, Int.toNat_natCast, Array.getElem?_eq_getElem hlt']
  refine wpAny_bind ?_
  first | refine wpAny_bind (wpAny_typeNameOfWhole_keyiter hit.typeIs (wpAny_pure ?_)) | refine wpAny_bind (wpAny_typeNameOf_keyiter hit.typeIs (wpAny_pure ?_))
  refine wpAny_bind (wpAny_isOneOf_keyiter hit.typeIs ?_)
  show wpAny _ _ (setField (.ref it) 1 (rawInt ((i : Int) + 1)) >>= _) _ _ s
  refine wpAny_bind (wpAny_setField ho hd (by simp) ?_)
  have hit' : (s.heap.update it (Obj.mapFields (·.setIfInBounds 1 (rawInt ((i : Int) + 1))))).IsKeyIter it d (i + 1) n ep :=
    ⟨_, Heap.get?_update_self _ ho (Obj.isFreed_of_fields (Obj.data_mapFields hd _)), (Obj.cls_mapFields ..).trans hc, by rw [Obj.data_mapFields hd]; simp [rawInt]⟩
  refine wpAny_bind (wpAny_holding ?_)
  refine wpAny_bind (wpAny_isOneOf_keyiter (s := { s with heap := s.heap.update it (Obj.mapFields (·.setIfInBounds 1 (rawInt ((i : Int) + 1)))) }) hit'.typeIs ?_)
  show wpAny _ _ (pure es[i].key) _ _ _
  rw [hen]
  exact wpAny_pure (wpAny_pure ⟨_, rfl, wpAny_pure (hQ _ hit' (Heap.SameBut.update ..))⟩)
theorem nextOf_key_end {it d : Addr} {i n ep : Nat} {od : Obj} {es : Array DictEntry} {Q : Value → Shared → Prop} (hh : A.handled = none) (hit : s.heap.IsKeyIter it d i n ep) (hod : s.heap.get? d = some od) (hdd : od.data = .dict es ep)
    (hsz : es.size = n) (hge : n ≤ i) (hE : ∀ h' e, Heap.ExtBut it s.heap h' → (∃ o, h'.get? e = some o ∧ o.cls = .type "StopIteration") → E (.ref e) { s with heap := h' }) : wpAny (model prog w) A (Builtin.SmallTypes.nextOf (.ref it)) Q E s := by
  obtain ⟨o, ho, hc, hd⟩ := id hit
  unfold Builtin.SmallTypes.nextOf
  refine wpAny_bind (wpAny_callSpecial?_slot (name := Str.ofString "__next__") hit.typeIs F.slot_dict_keyiterator_next
    (wpAny_call_entry F.slot_dict_keyiterator_next hit.typeIs F.entry_dict_keyiterator_next ?_ (F.args_dict_keyiterator_next_1 _)))
  refine wpAny_bind (wpAny_pure ?_)
  refine wpAny_bind ?_
  refine wpAny_bind ?_
  first | refine wpAny_bind (wpAny_typeNameOfWhole_keyiter hit.typeIs (wpAny_pure ?_)) | refine wpAny_bind (wpAny_typeNameOf_keyiter hit.typeIs (wpAny_pure ?_))
  refine wpAny_bind (wpAny_fieldsOf ho hd ?_)
  have hown : Builtin.Dict_items.ownsTuple "dict_keyiterator" = false := by decide
  simp only [hown, Bool.false_eq_true, if_false]
  show wpAny _ _ (if (Value.ref d == Value.none) = true then _ else _) _ _ s
  rw [if_neg (show ¬ ((Value.ref d == Value.none) = true) from Bool.false_ne_true)]
  refine wpAny_bind (wpAny_pure ?_)
  refine wpAny_bind (wpAny_dictEntries hod hdd ?_)
  rw [if_neg (by rw [hsz]; simp)]
  refine wpAny_bind (wpAny_pure ?_)
  refine wpAny_bind (wpAny_dictEpoch hod hdd ?_)
  rw [if_neg (by simp)]
  refine wpAny_pure ?_
  have hge' : es.size ≤ i := by rw [hsz]; exact hge
  simp only [show ¬ ((i : Int) < 0) from by omega, if_false, Int.toNat_natCast, Array.getElem?_eq_none hge']
  refine wpAny_bind ?_
  first | refine wpAny_bind (wpAny_typeNameOfWhole_keyiter hit.typeIs (wpAny_pure ?_)) | refine wpAny_bind (wpAny_typeNameOf_keyiter hit.typeIs (wpAny_pure ?_))
  show wpAny _ _ (setField (.ref it) 0 .none >>= _) _ _ s
  refine wpAny_bind (wpAny_setField ho hd (by simp) ?_)
  show wpAny _ _ (newExc (.type "StopIteration") [] >>= _) _ _ _
  refine wpAny_bind ?_
  simp only [newExc, newTuple]
  refine wpAny_bind (wpAny_newObj_type ?_ (by size_fits))
  refine wpAny_bind (m := firstArgMember _ _) (wpAny_of_eq (a := Value.none) (by first | rfl | (simp only [firstArgMember]; rfl)) ?_)
  refine wpAny_newObj_type ?_ (by size_fits)
  simp only [raiseNew]
  refine wpAny_bind (wpAny_handled ?_)
  first | rw [show A.in1.handled = none from hh] | rw [hh]
  refine wpAny_bind (wpAny_pure (wpAny_throw ?_))
  exact hE _ _ (((Heap.SameBut.update ..).extBut.push _).push _) ⟨_, Heap.get?_push_size _ rfl, rfl⟩
theorem Draws.keys (hh : A.handled = none) (it d : Addr) (hne : d ≠ it) (od : Obj) (es : Array DictEntry) (ep : Nat) (hdd : od.data = .dict es ep) :
    Draws prog w A it [it, d] es.size (fun i v => ∃ en, es[i]? = some en ∧ v = en.key) (fun i h => h.IsKeyIter it d i es.size ep ∧ h.get? d = some od) where
  live := fun _ _ st => let ⟨o, ho, _⟩ := st.1; ⟨o, ho⟩
  frame := fun _ _ _ st hk => ⟨st.1.at fun o e => hk it (by simp) o e, hk d (by simp) _ st.2⟩
  item := fun i s Q E hi st hQ => by
    refine nextOf_key_item st.1 st.2 hdd rfl (en := es[i]) (by simp [hi]) fun h' hit' hs' => ?_
    exact hQ _ h' s.toks ⟨_, by simp [hi], rfl⟩ ⟨hit', (hs'.2 d hne).trans st.2⟩ hs'
  done := fun s Q E st hE => nextOf_key_end hh st.1 st.2 hdd rfl (Nat.le_refl _) hE
theorem enumN_end {e it d : Addr} {c : Int} {i n ep : Nat} {od : Obj} {es : Array DictEntry} {old : Value} {Q : Option Value → Shared → Prop} (hh : A.handled = none)
    (he : IsEnum s.heap e it c old) (hit : s.heap.IsKeyIter it d i n ep) (hod : s.heap.get? d = some od) (hdd : od.data = .dict es ep) (hsz : es.size = n) (hge : n ≤ i) (hQ : ∀ h', Heap.ExtBut it s.heap h' → Q none { s with heap := h' }) : wpAny (model prog w) A (pyNext (.ref e)) Q E s := by
  have hT : s.TypeIs (.ref e) "enumerate" := ⟨_, he, rfl⟩
  unfold pyNext
  refine wpAny_bind (wpAny_attempt (wpAny_callSpecial?_slot (name := Str.ofString "__next__") hT F.slot_enumerate_next
    (wpAny_call_entry F.slot_enumerate_next hT F.entry_enumerate_next ?_ (F.args_enumerate_next_1 _))))
  show wpAny _ _ (field (.ref e) 2 >>= _) _ _ _
  refine wpAny_bind (wpAny_field he rfl (x := .ref it) rfl ?_)
  refine wpAny_bind (nextOf_key_end (A := A.in1) hh hit hod hdd hsz hge fun h' x he' hx' => ?_)
  obtain ⟨o, ho, hc⟩ := hx'
  refine wpAny_bind (wpAny_isInstance (T := "StopIteration") (b := true) ⟨o, ho, hc⟩ isSubtype_stop ?_)
  exact wpAny_pure (hQ _ he')
end
/-- the keys of the dict at d, each in a new pair -/
def IteN (w : World) (d : Addr) (o : Obj) (es : List (NestedKey × Addr × V)) : It :=
  ⟨fun i H => H d = some (.frz o (DObj w d es)) ∧ i < es.length, fun i H v H' => ∃ T, ∃ e : NestedKey × Addr × V, v = .ref T ∧ H T = none ∧ H' = upd H T (.tup [.int (i : Nat), .ref e.2.1]) ∧ es[i]? = some e,
    fun i H => H d = some (.frz o (DObj w d es)) ∧ es.length ≤ i⟩
theorem turn_enumN [KFrag] {P : Program} {w : World} {K : PySem.W.Frag} {elts : List Expr} {kk : Nat} {tpos : Pos} {d : Addr} {o : Obj} {eps : Array DictEntry} {ep : Nat} {es : List (NestedKey × Addr × V)} (e it : Addr) (hod : o.data = .dict eps ep) :
    Turn P w K (.Tuple elts kk tpos) (IteN w d o es) [e, it] e (fun i h => (∃ old, IsEnum h e it ((i : Nat) : Int) old) ∧ h.IsKeyIter it d i es.length ep ∧ e ≠ it ∧ d ≠ it ∧ d ≠ e) where
  mem := by simp
  obj := fun i h st b hb => by
    obtain ⟨⟨old, he⟩, ⟨o, ho, hc, hd⟩, _⟩ := st
    have e' : b = e ∨ b = it := by simpa using hb
    rcases e' with z | z
    · rw [z]; exact ⟨_, he, fun v q => nomatch q⟩
    · rw [z]; exact ⟨o, ho, fun v q => by rw [hd] at q; cases q⟩
  keep := fun i h h' st k => let ⟨⟨old, he⟩, hi, hne, h2, h3⟩ := st; ⟨⟨old, k e (by simp) _ he⟩, hi.at fun o q => k it (by simp) o q, hne, h2, h3⟩
  item := by
    intro X hP hw hK hc i pins s σ H E I hf st hg
    subst hP hw hK
    obtain ⟨⟨old, he⟩, hit, hne, hdi, hde⟩ := st
    obtain ⟨hd, hi⟩ := hg
    obtain ⟨hs, hgd, hx, es', ep', hdt, hsz, ent⟩ := frzN I hd
    obtain ⟨rfl, rfl⟩ := dict_ep hod hdt
    obtain ⟨en, hen, hkey⟩ := ent i es[i] (List.getElem?_eq_getElem hi)
    have hel : e < s.heap.objs.size := Heap.lt_size he
    have hil : it < s.heap.objs.size := by obtain ⟨_, q, _⟩ := id hit; exact Heap.lt_size q
    refine wpAny_pyNext_enum_itemD (n := es'.size) (fp := [it, d]) (P := fun i v => ∃ en, es'[i]? = some en ∧ v = en.key) (St := fun i h => h.IsKeyIter it d i es'.size ep' ∧ h.get? d = some o)
      (Draws.keys (A := X.A.in1) (show X.A.in1.handled = none from I.ok.hd hc) it d hdi o es' ep' hdt) he ⟨by rw [hsz]; exact hit, hgd⟩ (by rw [hsz]; exact hi) hne (by simp [hne, Ne.symm hde]) fun x' h' tk hP ho hit' hT hsz' hk => ?_
    have ex : x' = .ref es[i].2.1 := by
      obtain ⟨en2, h2, h3⟩ := hP
      rw [hen] at h2
      cases h2
      rw [h3, hkey]
    subst ex
    refine ⟨_, rfl, wpAny_letOwnedTupleGo_enum (s := { s with heap := h', toks := tk + 1 }) ho fun h'' he' sb => ?_⟩
    have hT2 : h''.get? s.heap.objs.size = some { cls := .type "tuple", data := .seq #[.int i tk, .ref es[i].2.1] } := (sb.2 _ (Nat.ne_of_gt hel)).trans hT
    have new : ObjOk X.prog X.w (upd H s.heap.objs.size (.tup [.int (i : Nat), .ref es[i].2.1])) h'' s.heap.objs.size (.tup [.int (i : Nat), .ref es[i].2.1]) :=
      ⟨by show 2 ≤ sizeLine; decide, [.int i tk, .ref es[i].2.1], .cons ⟨_, rfl⟩ (.cons rfl .nil), ⟨_, hT2, rfl, _, rfl⟩⟩
    have I1 : Inv X pins σ (upd H s.heap.objs.size (.tup [.int (i : Nat), .ref es[i].2.1])) { s with heap := h'', toks := tk + 1 } :=
      I.turnedNew (ch := [e, it]) (fun b ob hb q => (sb.2 b (fun z => hb (by simp [z]))).trans (hk b ob (fun z => hb (by simp [z])) (fun z => hb (by simp [z])) q)) hf (Nat.le_refl _) new
    refine ⟨.ref s.heap.objs.size, _, I1, rfl, ⟨_, es[i], rfl, I.hok.fresh (Nat.le_refl _), rfl, List.getElem?_eq_getElem hi⟩, ⟨⟨.ref es[i].2.1, ?_⟩, ?_, hne, hdi, hde⟩, fun b hb => ?_⟩
    · have e1 : ((i + 1 : Nat) : Int) = (i : Int) + 1 := by omega
      rw [e1]
      exact he'
    · have q := hit'.1.at fun o q => (sb.2 it (Ne.symm hne)).trans q
      rw [hsz] at q
      exact q
    · have hb' : b < s.heap.objs.size := by
        have e' : b = e ∨ b = it := by simpa using hb
        rcases e' with z | z
        · rw [z]; exact hel
        · rw [z]; exact hil
      rw [upd_ne (Nat.ne_of_lt hb')]
      exact (hf b hb).1
  done := by
    intro X hP hw hK hc i pins s σ H E I hf st hg
    subst hP hw hK
    obtain ⟨⟨old, he⟩, hit, hne, hdi, hde⟩ := st
    obtain ⟨hd, hi⟩ := hg
    obtain ⟨hs, hgd, hx, es', ep', hdt, hsz, ent⟩ := frzN I hd
    obtain ⟨rfl, rfl⟩ := dict_ep hod hdt
    obtain ⟨f0, f1, f2, f3, f4, f5⟩ := hf it (by simp)
    exact enumN_end (I.ok.hd hc) he hit hgd hdt hsz hi fun h' eb => ⟨rfl, I.turned (t' := s.toks) (fun b o hb q => eb b o hb q) f0 f1 f3 f4 f5⟩
  self := fun A i s Q E st h => let ⟨⟨_, he⟩, _⟩ := st; wpAny_pyIter_enum he h
def YeN (es : List (NestedKey × Addr × V)) (i : Nat) (H : Hp) (v : V) (H' : Hp) : Prop := ∃ T, ∃ e : NestedKey × Addr × V, v = .ref T ∧ H T = none ∧ H' = upd H T (.tup [.int (i : Nat), .ref e.2.1]) ∧ es[i]? = some e
theorem walk_enumN {w : World} {d : Addr} {o : Obj} {es : List (NestedKey × Addr × V)} : Walk (IteN w d o es) es.length (fun H => H d = some (.frz o (DObj w d es))) (YeN es) :=
  ⟨fun _ _ hi q => ⟨q, hi⟩, fun _ q => ⟨q, Nat.le_refl _⟩, fun _ _ _ _ _ _ y => y⟩
theorem begins_keys (d : Addr) (od : Obj) (eps : Array DictEntry) (ep : Nat) (hs : (d == sysModules) = false) (hx : od.ExactDict) (hdd : od.data = .dict eps ep) :
    Begins (.ref d) { cls := .type "dict_keyiterator", data := .fields #[.ref d, rawInt 0, rawInt eps.size, rawInt ep] } (fun h => h.get? d = some od) where
  iter := fun prog w A E s Q hl h => iter_keys hs hl hx hdd h
  keeps := fun h h' x hk => hk d od x
  free := rfl
section
variable [KFrag]
theorem pi_enN {X : Cx} {e : Expr} {ta : TA} {p pos tpos : Pos} {elts : List Expr} {kk : Nat} (hg : Gl X "enumerate") (hm : X.mg "enumerate" = none) (ha : PA X [e] ta) (hs : starEach [e] X.env = [(false, eval e X.env)] := by rfl) :
    PI X (.Tuple elts kk tpos) (.Call (.Name "enumerate" p) [e] [] pos) (fun σ H R => ta σ H fun vs H1 => ∃ d o es, vs = [.ref d] ∧ H1 d = some (.frz o (DObj X.w d es)) ∧ R (IteN X.w d o es) H1) := by
  refine ⟨fun pins s σ H R I h => ?_⟩
  refine Call_ (ld_blt I hg hm boot_enumerate (PyProof.Rows.callWith_type1 (thn (ha.run pos pins s σ H _ I h) fun us s1 ⟨vs, H1, I1, r1, q1⟩ => ?_) hs rfl))
  obtain ⟨d, o, es, ex, hd, q⟩ := q1
  subst ex
  cases r1 with
  | cons r rr =>
    cases rr
    cases r
    have fresh : ∀ b ∈ [s1.heap.objs.size + 1, s1.heap.objs.size], FpOk X pins H1 b := fun b hb => by
      have e' : b = s1.heap.objs.size + 1 ∨ b = s1.heap.objs.size := by simpa using hb
      have hle : s1.heap.objs.size ≤ b := by
        rcases e' with z | z
        · rw [z]; exact Nat.le_add_right _ _
        · rw [z]; exact Nat.le_refl _
      exact I1.fpOk hle (I1.hok.fresh hle)
    obtain ⟨hss, hgd, hx, eps, ep, hdt, hsz, ent⟩ := frzN I1 hd
    have la : d < s1.heap.objs.size := Heap.lt_size hgd
    refine call_enum1 (begins_keys d o eps ep hss hx hdt) hgd fun h' he hit hsz' hk => wpAny_pyIter_enum he ?_
    refine ⟨_, _, _, _, H1, rfl, I1.kept (t' := s1.toks) hk, turn_enumN (s1.heap.objs.size + 1) s1.heap.objs.size hdt, ⟨⟨.none, he⟩, ?_, Nat.succ_ne_self _, Nat.ne_of_lt la, Nat.ne_of_lt (Nat.lt_succ_of_lt la)⟩, fresh, q⟩
    refine ⟨_, hit, rfl, ?_⟩
    rw [hsz] <;> rfl
def enuK : List W → CS → R (List D)
  | [.fd ds], s => if unm ds = true then .ok (enuD 0 (ds.map (·.1))) s else .bad
  | _, _ => .bad
def fEnuK (fs : En → CS → R (List W)) (ρ : En) (s : CS) : R (List D) := (fs ρ s).bind enuK
theorem itr_enuN {B : Addr → Prop} {μ : List Addr} {s : CS} {H : Hp} {d : Addr} {o : Obj} {es : List (NestedKey × Addr × V)} {ds : List (D × D)} (h : H d = some (.frz o (DObj KFrag.w d es))) (n : ¬ Av B μ s d) (f : KPs H (Av B μ s) es ds) : ItR B μ s H (IteN KFrag.w d o es) (enuD 0 (ds.map (·.1))) := by
  refine ⟨fun H => H d = some (.frz o (DObj KFrag.w d es)), YeN es, ?_, fun H' A' k bt => k.keep _ _ h n, fun i H' A' v H'' k bt hi y => ?_⟩
  · rw [enuD_len, List.length_map, ← f.len]
    exact walk_enumN
  · obtain ⟨T, e, rfl, hT, rfl, e2⟩ := y
    obtain ⟨x, e3, e4⟩ := (f.kp k).get e2
    refine ⟨same_upd hT, _, enuD_at (x := x.1) (by rw [List.getElem?_map, e3]; rfl), ?_⟩
    rw [Nat.zero_add]
    exact Fz.newT bt hT (.cons (.int _) (.cons e4 .nil))
theorem di_enuK {X : Cx} [HK X] {T : TX} {Wx : WXc} {e : Expr} {fs : En → CS → R (List W)} {p pos tpos : Pos} {elts : List Expr} {kk : Nat} (hw : X.w = KFrag.w) (hg : Gl X "enumerate") (hm : X.mg "enumerate" = none) (ha : DA X T Wx [e] fs) (hs : starEach [e] X.env = [(false, eval e X.env)] := by rfl) : DI X T Wx (.Tuple elts kk tpos) (.Call (.Name "enumerate" p) [e] [] pos) (fEnuK fs) :=
  PI_imp (pi_enN hg hm ha hs) fun σ H Q ⟨B, μ, s, ρ, r, e, q⟩ => tD_bind r e q fun w s1 v μ1 H1 st1 r1 e1 rel1 q1 => by
    replace rel1 : RWs B μ1 s1 H1 v w := rel1
    unfold enuK at q1
    split at q1
    · split at q1
      · rename_i ds hu
        cases rel1 with
        | cons g t =>
          cases t
          have g : FD H1 (Av B μ1 s1) _ ds := g
          obtain ⟨a, o, es, rfl, h1, h2, h3⟩ := g.un hu
          rw [hw]
          exact ⟨a, o, es, rfl, h1, Fin.here (a := List D) q1 r1 (itr_enuN h1 h2 h3)⟩
      · exact q1.elim
    · exact q1.elim
end
end DL
namespace DL
open PySem PySem.Spec PyProof.Rows L2
section
variable [KFrag]
/-! ### sum of whole numbers, is of truths, constants of the written part -/
def sumD : List D → Option D
  | [.list ds] => (intsD ds).map fun ns => .int ns.sum
  | _ => none
theorem ints_of {H : Hp} {A : Addr → Prop} : ∀ {xs : List V} {ds : List D} {ns : List Int}, Fzs H A xs ds → intsD ds = some ns → xs = ns.map V.int
  | _, _, _, .nil, e => by cases e; rfl
  | _, _, _, .cons (d := d) (ds := ds) h t, e => by
    cases d with
    | int i =>
      unfold intsD at e
      cases z : intsD ds with
      | none => rw [z] at e; cases e
      | some ns =>
        rw [z] at e
        cases e
        cases h
        rw [ints_of t z] <;> rfl
    | _ => cases e
def isBD : D → D → Option D
  | .bool a, .bool b => some (.bool (decide (a = b)))
  | _, _ => none
def isnBD : D → D → Option D
  | .bool a, .bool b => some (.bool (!decide (a = b)))
  | _, _ => none
section
variable {X : Cx} [HK X]
theorem dc_sum (hc : X.calm = true) : DCall X (.builtin "sum") sumD := by
  intro pins s σ H xs us Q I r h
  obtain ⟨A, ds, z, bt, fz, e, q⟩ := h
  cases fz with
  | nil => cases e
  | cons h1 t =>
    cases t with
    | cons _ _ => cases h1 <;> cases e
    | nil =>
      cases h1 with
      | @lst a ys ds h1 f1 =>
        simp only [sumD] at e
        cases zb : intsD ds with
        | none => rw [zb] at e; cases e
        | some ns =>
          rw [zb] at e
          cases e
          have ey := ints_of f1 zb
          subst ey
          exact cr_sum hc pins s σ H _ us Q I r ⟨a, ns, rfl, h1.sq, q _ _ (Same.refl _) (.int _)⟩
      | _ => cases e
theorem dop_isB : DOp X (compareOp .Is) isBD := by
  intro pins s σ H x y v u Q I rx ry h
  obtain ⟨A, dx, dy, z, bt, fx, fy, e, q⟩ := h
  cases fx with
  | bl i =>
    cases fy with
    | bl j => cases e; exact op_is_bl pins s σ H _ _ v u Q I rx ry ⟨i, j, rfl, rfl, q _ _ (Same.refl _) (.bl _)⟩
    | _ => cases e
  | _ => cases fy <;> cases e
theorem dop_isnB : DOp X (compareOp .IsNot) isnBD := by
  intro pins s σ H x y v u Q I rx ry h
  obtain ⟨A, dx, dy, z, bt, fx, fy, e, q⟩ := h
  cases fx with
  | bl i =>
    cases fy with
    | bl j => cases e; exact op_isnot_bl pins s σ H _ _ v u Q I rx ry ⟨i, j, rfl, rfl, q _ _ (Same.refl _) (.bl _)⟩
    | _ => cases e
  | _ => cases fy <;> cases e
/-- not, of values of any kind -/
def fNotT (f : En → CS → R W) (ρ : En) (s : CS) : R W := (f ρ s).bind fun w s => (toTr w s).bind fun b s => .ok (.d (.bool (!b))) s
theorem de_notT {T : TX} {Wx : WXc} {a : Expr} {f : En → CS → R W} {pos : Pos} (h : DE X T Wx a f) : DE X T Wx (.UnaryOp .Not a pos) (fNotT f) := PE_imp (pe_notT h) fun σ H Q ⟨B, μ, s, ρ, r, e, q⟩ =>
  tD_bind r e q fun w s1 v μ1 H1 st1 r1 e1 rel1 q1 => by
    obtain ⟨c, tv, q2⟩ := toTr_use (X := X) r1 rel1 q1
    exact ⟨c, tv, Fin.here (a := W) q2 r1 (Fz.bl _)⟩
/-- a module's tuple of any shape -/
theorem de_gdat {T : TX} {Wx : WXc} {x : Str} {b : Addr} {d : D} {pos : Pos} (hg : Gl X x) (hm : X.mg x = some (.ref b)) (hf : ∀ (H : Hp) (A : Addr → Prop), Fz H A (.ref b) d) (hd : (x == ("__debug__" : Str)) = false := by decide) : DE X T Wx (.Name x pos) (fC d) :=
  de_const (v := .ref b) (pe_glob hg hm (show Value.ref b = Value.ref b from rfl) hd) hf
end
end
end DL
namespace DL
open PySem PySem.Spec PyProof.Rows L2
open PySem.W (KdlSrc TotalLe sameRank sort_unique sort_congr sortLe_total alike alikeAll dataLt dataLe AllAlike Sortable EachIs dataLt_all_yes dataLt_all_no keyToks keyToksAll dataLt_int dataLt_str dataLt_tuple)
/-! ### sorted, rows of unlike lengths, () ahead of all -/
mutual
def al : D → D → Bool
  | .int _, .int _ => true
  | .str _, .str _ => true
  | .tuple xs, .tuple ys => als xs ys
  | _, _ => false
def als : List D → List D → Bool
  | [], _ => true
  | _ :: _, [] => true
  | x :: xs, y :: ys => al x y && als xs ys
end
mutual
theorem al_alike : ∀ (x y : D), al x y = true → alike x y = true
  | .int _, y, h => by cases y <;> first | rfl | (simp [al] at h; done)
  | .str _, y, h => by cases y <;> first | rfl | (simp [al] at h; done)
  | .tuple xs, y, h => by
    cases y with
    | tuple ys =>
      unfold al at h
      unfold alike
      exact als_alike xs ys h
    | _ => simp [al] at h
  | .none, y, h => by cases y <;> simp [al] at h
  | .bool _, y, h => by cases y <;> simp [al] at h
  | .list _, y, h => by cases y <;> simp [al] at h
  | .dict _, y, h => by cases y <;> simp [al] at h
theorem als_alike : ∀ (x y : List D), als x y = true → alikeAll x y = true
  | [], [], _ => rfl
  | [], _ :: _, _ => rfl
  | _ :: _, [], _ => rfl
  | x :: xs, y :: ys, h => by
    unfold als at h
    unfold alikeAll
    rw [Bool.and_eq_true] at h ⊢
    exact ⟨al_alike x y h.1, als_alike xs ys h.2⟩
end
theorem ltL_al (n : Nat) (ih : ∀ x y, plD n x = true → al x y = true → ltX n x y = some (dataLt x y)) : ∀ xs ys : List D, xs.all (plD n) = true → als xs ys = true → ltL (ltX n) xs ys = some (PyProof.Rows.lexLt itemOrd (keyToksAll xs) (keyToksAll ys))
  | [], [], _, _ => by
    unfold ltL
    rfl
  | [], y :: ys, _, _ => by
    have q := PySem.W.firstLt_toks [] (y :: ys) rfl
    rw [← q]
    simp [ltL, SeqAt.firstLt]
  | x :: xs, [], _, _ => by
    have q := PySem.W.firstLt_toks (x :: xs) [] rfl
    rw [← q]
    simp [ltL, SeqAt.firstLt]
  | x :: xs, y :: ys, p, h => by
    rw [List.all_cons, Bool.and_eq_true] at p
    unfold als at h
    rw [Bool.and_eq_true] at h
    have a := al_alike x y h.1
    unfold ltL
    rw [eqF_eq]
    cases e : PyData.eqv x y with
    | true =>
      rw [if_pos rfl, PySem.W.dataLt_all_yes a e]
      exact ltL_al n ih xs ys p.2 h.2
    | false =>
      rw [if_neg Bool.false_ne_true, PySem.W.dataLt_all_no a e]
      exact ih x y p.1 h.1
theorem ltX_al : ∀ (n : Nat) (x y : D), plD n x = true → al x y = true → ltX n x y = some (dataLt x y)
  | n, .int i, y, _, h => by
    cases y with
    | int j => rw [PySem.W.dataLt_int]; cases n <;> rfl
    | _ => simp [al] at h
  | n, .str i, y, _, h => by
    cases y with
    | str j => rw [PySem.W.dataLt_str]; cases n <;> rfl
    | _ => simp [al] at h
  | 0, .tuple xs, y, p, _ => by simp [plD] at p
  | n + 1, .tuple xs, y, p, h => by
    cases y with
    | tuple ys =>
      rw [PySem.W.dataLt_tuple]
      have p' : xs.all (plD n) = true := by simpa [plD] using p
      have h' : als xs ys = true := by unfold al at h; exact h
      show ltL (ltX n) xs ys = _
      exact ltL_al n (ltX_al n) xs ys p' h'
    | _ => simp [al] at h
  | n, .none, y, _, h => by cases y <;> simp [al] at h
  | n, .bool _, y, _, h => by cases y <;> simp [al] at h
  | n, .list _, y, _, h => by cases y <;> simp [al] at h
  | n, .dict _, y, _, h => by cases y <;> simp [al] at h
def isT : D → Bool
  | .tuple _ => true
  | _ => false
def neT : D → Bool
  | .tuple (_ :: _) => true
  | _ => false
theorem isT_of {d : D} (h : isT d = true) : ∃ xs, d = .tuple xs := by cases d <;> first | exact ⟨_, rfl⟩ | cases h
theorem neT_of {d : D} (h : neT d = true) : ∃ x r, d = .tuple (x :: r) := by
  cases d with
  | tuple xs => cases xs with
    | nil => cases h
    | cons x r => exact ⟨x, r, rfl⟩
  | _ => cases h
def headT : List D → Bool
  | .tuple [] :: r => r.all isT
  | ds => ds.all neT
def srtOk2 (ds : List D) : Bool := ds.all (plD 8) && (ds.all (fun x => ds.all (al x)) && headT ds)
def srtD2 (ds : List D) : Option (List D) := if srtOk2 ds = true then some (isortL leK ds) else none
def Tup0 (ds : List D) : Prop := ∃ r, ds = .tuple [] :: r ∧ ∀ d ∈ r, ∃ xs, d = .tuple xs
theorem srt2_facts {ds : List D} (h : srtOk2 ds = true) : (∀ x ∈ ds, plD 8 x = true) ∧ (∀ x ∈ ds, ∀ y ∈ ds, al x y = true) ∧ (Tup0 ds ∨ PySem.W.Sortable ds) := by
  unfold srtOk2 at h
  rw [Bool.and_eq_true, Bool.and_eq_true] at h
  obtain ⟨h1, h2, h3⟩ := h
  refine ⟨List.all_eq_true.mp h1, fun x hx y hy => List.all_eq_true.mp (List.all_eq_true.mp h2 x hx) y hy, ?_⟩
  have go : ds.all neT = true → PySem.W.Sortable ds := fun z => .inl fun d hd => neT_of (List.all_eq_true.mp z d hd)
  unfold headT at h3
  split at h3
  · rename_i r
    exact .inl ⟨r, rfl, fun d hd => isT_of (List.all_eq_true.mp h3 d hd)⟩
  · exact .inr (go h3)
theorem srt2_merge {ds es : List D} (h : srtD2 ds = some es) : es = ds.mergeSort (dataLe false id) ∧ srtOk2 ds = true := by
  unfold srtD2 at h
  split at h
  · rename_i ok
    cases h
    obtain ⟨f1, f2, _⟩ := srt2_facts ok
    refine ⟨?_, ok⟩
    refine Eq.trans ?_ (isortL_eq (le := dataLe false id) (PySem.W.sortLe_total _ _ _) ds)
    refine isortL_congr fun x hx y hy => ?_
    unfold leK
    rw [ltX_al 8 y x (f1 y hy) (f2 y hy x hx)]
    rfl
  · cases h
section
variable {prog : Program} {w : World} {A : Around} {E : Value → Shared → Prop} {s : Shared}
theorem tup_lt_call {Q : Value → Shared → Prop} {l b : Addr} {us vs : Array Value} {e r : Nat → Bool} (hl : s.heap.IsTuple l us) (hb : s.heap.IsTuple b vs)
    (he : ∀ j (h1 : j < us.size) (h2 : j < vs.size), SeqAt.EqAt A.in1 s us[j] vs[j] (e j)) (hr : ∀ j (h1 : j < us.size) (h2 : j < vs.size), e j = false → SeqAt.RcLt A.in1 s us[j] vs[j] (r j))
    (h : Q (.bool (SeqAt.firstLt e r (decide (us.size < vs.size)) (List.range (min us.size vs.size)))) s) : wpAny (model prog w) A (call (.builtin "tuple.__lt__") [.ref l, .ref b]) Q E s := by
  obtain ⟨⟨cls, dd, data, sl⟩, ho, hc, n, hd⟩ := id hl
  obtain ⟨⟨cls2, dd2, data2, sl2⟩, ho2, hc2, n2, hd2⟩ := id hb
  simp only at hc hd hc2 hd2
  subst hc hd hc2 hd2
  exact call_meets F.slot_tuple_lt ⟨_, ho, rfl⟩ F.entry_tuple_lt (F.args_tuple_lt_2 _ _) (SeqAt.tuple_ltAt l b us vs n n2 dd dd2 sl sl2 e r) ⟨ho, ho2, he, hr, h⟩
open PySem.W in
theorem oneLt_tup {xs ys : List D} {a b : Value} {as bs : List Addr} {Q : Bool → Shared → Prop} (ra : Reads s.heap a (.tuple xs) as) (rb : Reads s.heap b (.tuple ys) bs) (h : alike (.tuple xs) (.tuple ys) = true)
    (hu : A.units + min (PyData.depth (.tuple xs)) (PyData.depth (.tuple ys)) < cLine) (hq : Q (dataLt (.tuple xs) (.tuple ys)) s) : wpAny (model prog w) A (oneLt' true a b) Q E s := by
  have hal : alikeAll xs ys = true := by simpa [alike] using h
  cases ra with
  | @tuple l o vs n _ as₁ h1 h2 h3 h4 =>
    cases rb with
    | @tuple l' o' vs' n' _ bs₁ k1 k2 k3 k4 =>
      have n1 : vs.size = xs.length := by simpa using SeqAt.ReadsAll.length _ _ _ h4
      have n2 : vs'.size = ys.length := by simpa using SeqAt.ReadsAll.length _ _ _ k4
      rw [dataLt_tuple, ← firstLt_toks xs ys hal, ← n1, ← n2] at hq
      rw [oneLt'_eq]
      simp only [if_true]
      refine wpAny_bind (wpAny_cRoomFor (SeqAt.room_here hu) ?_)
      refine wpAny_bind (wpAny_callSpecialIfBound?_slot (T := "tuple") ⟨_, h1, h2⟩ F.slot_tuple_lt (tup_lt_call (e := SeqAt.pairEq xs ys) (r := fun j => dataLt (xs.getD j .none) (ys.getD j .none)) ⟨_, h1, h2, _, h3⟩ ⟨_, k1, k2, _, k3⟩ (fun j j1 j2 => ?_) (fun j j1 j2 hj => ?_) ?_))
      · have := eqAt_alikeAll xs ys A.in1 s vs.toList vs'.toList _ _ h4 k4 hal (SeqAt.room_in hu) j (by simpa using j1) (by simpa using j2)
        simpa using this
      · have := rcLt_alikeAll xs ys A.in1 s vs.toList vs'.toList _ _ h4 k4 hal (SeqAt.room_in hu) j (by simpa using j1) (by simpa using j2) hj
        simpa using this
      · exact wpAny_truthy_bool hq
open PySem.W in
theorem firsts_of {M : Model} : ∀ {vs : List Value} {ds : List D}, EachIs (fun v d => ∃ as, Reads s.heap v d as) vs ds → (∀ d ∈ ds, ∃ xs, d = .tuple xs) → ∀ {Q : List (Option Value) → Shared → Prop},
    (∀ fs : List (Option Value), fs.length = vs.length → (∀ r, ds = .tuple [] :: r → ∃ q, fs = none :: q) → Q fs s) → wpAny M A (vs.mapM firstOfTuple') Q E s
  | _, _, .nil, _, Q, h => by
    rw [List.mapM_nil]
    exact wpAny_pure (h [] rfl fun r e => by cases e)
  | _, _, .cons (a := v) (b := d) ⟨as, r⟩ t, ht, Q, h => by
    obtain ⟨xs, rfl⟩ := ht d (List.mem_cons_self ..)
    rw [List.mapM_cons]
    have lk := looks_reads (M := M) r
    cases r with
    | @tuple a o vs n _ _ h1 h2 h3 h4 =>
      refine wpAny_bind ?_
      rw [kas_first_eq]
      refine wpAny_bind (lk.here ?_)
      rw [if_neg (show ¬ ((dataType (PyData.tuple xs) != Value.type "tuple") = true) by simp [dataType])]
      refine wpAny_bind (listItems_at h1 h3 (wpAny_pure ?_))
      refine wpAny_bind (firsts_of t (fun d hd => ht d (List.mem_cons_of_mem _ hd)) fun fs hl _ => wpAny_pure (h _ (by simp [hl]) fun r e => ?_))
      cases e
      have e0 : vs.toList = [] := by
        have q := SeqAt.ReadsAll.length _ _ _ h4
        exact List.length_eq_zero_iff.mp (by simpa using q)
      refine ⟨fs, ?_⟩
      have : vs[0]? = none := by rw [← Array.getElem?_toList, e0] <;> rfl
      rw [this]
open PySem.W in
theorem kind0 {M : Model} {vs : List Value} {ds : List D} {Q : SortKind → Shared → Prop} (e : EachIs (fun v d => ∃ as, Reads s.heap v d as) vs ds) (h0 : Tup0 ds) (h : Q oneType' s) : wpAny M A (keyKind' vs.toArray) Q E s := by
  obtain ⟨r, rfl, hr⟩ := h0
  have ht : ∀ d ∈ PyData.tuple [] :: r, ∃ xs, d = .tuple xs := fun d hd => (List.mem_cons.mp hd).elim (fun z => ⟨_, z⟩) (hr d)
  rw [keyKind'_eq, List.mapM_toArray, map_eq_pure_bind]
  refine wpAny_bind (wpAny_bind (firsts_of e ht fun fs hl hf => wpAny_pure ?_))
  obtain ⟨q, rfl⟩ := hf r rfl
  rw [if_neg (by simp), if_neg (by simp)]
  rw [oneTypeOnly'_eq, List.mapM_toArray, map_eq_pure_bind]
  have hT : ∀ v ∈ vs, Looks M s.heap (typeOf v) (.type "tuple") := fun v hv => by
    obtain ⟨d, hd, as, rd⟩ := e.left v hv
    obtain ⟨xs, rfl⟩ := ht d hd
    exact looks_reads rd
  refine wpAny_bind (wpAny_bind (wpAny_bind (kas_mapM (r := Value.type "tuple") _ (fun v hv Q' hq => (hT v hv).here hq) (wpAny_pure ?_))))
  cases e with
  | @cons v _ vs _ _ _ =>
    have hall : ((List.map (fun _ => Value.type "tuple") (v :: vs)).toArray.all fun x => x == Value.type "tuple") = true := by
      simp only [List.all_toArray, List.all_map, List.all_eq_true]
      intro _ _
      exact beq_self_eq_true _
    have z0 : (List.map (fun _ => Value.type "tuple") (v :: vs)).toArray[0]? = some (Value.type "tuple") := by simp
    rw [z0]
    simp only [hall, if_true]
    exact wpAny_pure (wpAny_pure h)
open PySem.W in
theorem sorts2 {vs : List Value} {ds : List D} (e : EachIs (fun v d => ∃ as, Reads s.heap v d as) vs ds) (hal : AllAlike ds) (hk : Tup0 ds ∨ PySem.W.Sortable ds) (hu : ∀ d, d ∈ ds → A.units + d.depth < cLine) : SortsAt prog w A s (dataKind s.heap ds) vs := by
  rcases hk with h0 | hk
  · refine ⟨fun v hv => ?_, oneType', ?_, fun _ E Q hq => kind0 e h0 hq⟩
    · obtain ⟨d, hd, as, r⟩ := e.left v hv
      exact ⟨_, dataKind_some hal hd r⟩
    · intro E x y a b Q ha hb hq
      obtain ⟨d, as, hd, ra, rfl⟩ := dataKind_inv ha
      obtain ⟨d', as', hd', rb, rfl⟩ := dataKind_inv hb
      have ht : ∀ d ∈ ds, ∃ xs, d = .tuple xs := by
        obtain ⟨r, rfl, hr⟩ := h0
        exact fun d hd => (List.mem_cons.mp hd).elim (fun z => ⟨_, z⟩) (hr d)
      have hdd := hal d hd d' hd'
      have room := hu d hd
      obtain ⟨xs, rfl⟩ := ht d hd
      obtain ⟨ys, rfl⟩ := ht d' hd'
      rw [keyLt'_oneType]
      exact oneLt_tup ra rb hdd (Nat.lt_of_le_of_lt (Nat.add_le_add_left (Nat.min_le_left _ _) _) room) hq
  · exact SortsAt.data e hal hk hu
open PySem.W in
theorem sorted_data2 {β : Type} {R : Value → β → Prop} {enc : β → PyData} {vs : List Value} {bs : List β} {l : Addr} {Q : Value → Shared → Prop} (hl : s.heap.IsList l vs.toArray) (e : EachIs R vs bs) (er : EachIs (fun v b => ∃ as, Reads s.heap v (enc b) as) vs bs) (hal : AllAlike (bs.map enc)) (hk : Tup0 (bs.map enc) ∨ PySem.W.Sortable (bs.map enc)) (hL : bs.length ≤ sizeLine)
    (hu : ∀ b, b ∈ bs → A.units + 2 + (enc b).depth < cLine) (h : ∀ out, out.length = bs.length → EachIs R out (bs.mergeSort (dataLe false enc)) → Q (.ref (s.heap.objs.size + 1)) { s with heap := sortedAll s.heap vs (List.toArray out) }) :
    wpAny (model prog w) A (call (.builtin "sorted") [.ref l]) Q E s := by
  have f : EachIs (fun v b => ∃ as, Reads (sortingHeap (copyHeap s.heap vs) (s.heap.objs.size + 1) vs) v (enc b) as) vs bs := er.mono fun _ _ ⟨as, r⟩ => ⟨as, PyProof.Rows.Reads.keeps (fun _ _ => sorting_copy_old) r⟩
  refine sorted_vals hl (sorts2 (s := { s with heap := sortingHeap (copyHeap s.heap vs) (s.heap.objs.size + 1) vs }) (each_map (R := fun v d => ∃ as, Reads (sortingHeap (copyHeap s.heap vs) (s.heap.objs.size + 1) vs) v d as) enc f) hal hk fun d hd => ?_) (by rw [e.length]; exact hL) ?_
  · obtain ⟨b, hb, rfl⟩ := List.mem_map.mp hd
    exact hu b hb
  · exact h _ (by rw [sortVals_length false rfl]; exact e.length) (sortVals_data false e f hal)
end
section
variable [KFrag]
theorem srt_out2 {H : Hp} {A : Addr → Prop} {xs : List V} {ds es : List D} {out : List Value} (f : Fzs H A xs ds) (h : srtD2 ds = some es) (e : EachIs (RVD H A) out ((xs.zip ds).mergeSort (dataLe false (·.2)))) : ∃ ys, Vals ys out ∧ Fzs H A ys es := by
  obtain ⟨h1, h2⟩ := each_back e
  refine ⟨_, h1, ?_⟩
  have q : ((xs.zip ds).mergeSort (dataLe false (·.2))).map (·.2) = es := by
    refine (List.map_mergeSort (f := fun b : V × D => b.2) (s := dataLe false id) (fun a _ b _ => rfl)).trans ?_
    rw [zip_snd f, (srt2_merge h).1]
  rw [q] at h2
  exact h2
section
variable {X : Cx} [HK X]
def rSortL2 : List V → Hp → VK → Prop := fun vs H Q => ∃ A a xs ds es, vs = [.ref a] ∧ H a = some (.lst xs) ∧ Fzs H A xs ds ∧ srtD2 ds = some es ∧ ∀ ys p, Fzs H A ys es → H p = none → Q (.ref p) (upd H p (.lst ys))
theorem cr_sortL2 (hu : X.A.units + 64 < cLine) : CallR X (.builtin "sorted") rSortL2 := by
  rintro pins s σ H vs us Q I rv ⟨A, a, xs, ds, es, rfl, e, f, h, q⟩
  cases rv with
  | cons r1 r2 =>
  cases r2
  cases (show _ = Value.ref a from r1)
  obtain ⟨hl, ws, n, r, ho⟩ := lst_at I e
  obtain ⟨_, ok⟩ := srt2_merge h
  obtain ⟨f1, f2, f3⟩ := srt2_facts ok
  have ez := zip_snd f
  have el := each_of f r
  have bl : (xs.zip ds).length = xs.length := by rw [List.length_zip, f.len]; omega
  refine sorted_data2 (R := RVD H A) (enc := (·.2)) (vs := ws) (bs := xs.zip ds) ⟨_, ho, rfl, n, rfl⟩ el (each_reads I el) (by rw [ez]; exact fun d hd d' hd' => al_alike _ _ (f2 d hd d' hd')) (by rw [ez]; exact f3) (by rw [bl]; exact hl)
    (fun b hb => by have := pl_depth 8 _ (zip_all f1 b hb); omega) fun out ho1 ho2 => ?_
  obtain ⟨ys, y1, y2⟩ := srt_out2 f h ho2
  obtain ⟨c, hc⟩ := sortedAll_at s.heap ws (List.toArray out)
  have hn := I.hok.fresh (Nat.le_succ s.heap.objs.size)
  refine ⟨.ref (s.heap.objs.size + 1), upd H (s.heap.objs.size + 1) (.lst ys), I.laid (t' := s.toks) (fun b u z => sortedAll_old z) (Nat.le_succ _) ⟨?_, out, c, y1, hc⟩, rfl, q ys _ y2 hn⟩
  rw [y1.length, ho1, bl]
  exact hl
def srtW2 (ws : List W) (s : CS) : R W := match ws with
  | [.d (.list ds)] => match srtD2 ds with
    | some es => .ok (.d (.list es)) s
    | none => .bad
  | _ => .bad
def fSrt2 (fs : En → CS → R (List W)) (ρ : En) (s : CS) : R W := (fs ρ s).bind srtW2
theorem de_srt2 {T : TX} {Wx : WXc} {e : Expr} {fs : En → CS → R (List W)} {p pos : Pos} (hu : X.A.units + 64 < cLine) (hg : Gl X "sorted") (hm : X.mg "sorted" = none) (hv : bootBuiltins "sorted" = some (.builtin "sorted")) (ha : DA X T Wx [e] fs)
    (he : starEach [e] X.env = (false, eval e X.env) :: starEach [] X.env := by rfl) (hpl : (backTo pos (starEach [] X.env)).any (·.1) = false := by rfl) : DE X T Wx (.Call (.Name "sorted" p) [e] [] pos) (fSrt2 fs) :=
  PE_imp (pe_callB (cr_sortL2 hu) hg hm hv ha (by decide) (by decide) he hpl) fun σ H Q ⟨B, μ, s, ρ, r, e, q⟩ => tD_bind r e q fun ws s1 vs μ1 H1 st1 r1 e1 rel1 q1 => by
    replace rel1 : RWs B μ1 s1 H1 vs ws := rel1
    unfold srtW2 at q1
    split at q1
    · rename_i ds
      cases rel1 with
      | cons a1 a2 =>
      cases a2
      split at q1
      · rename_i es hs
        replace a1 : Fz H1 (Av B μ1 s1) _ (.list ds) := a1
        cases a1 with
        | lst h1 f1 =>
        exact ⟨Av B μ1 s1, _, _, ds, es, rfl, h1.1, f1, hs, fun ys p fy hp => Fin.use (a := W) (w := .d (.list es)) q1 (same_upd hp) r1 (Fz.newL r1.bt' hp fy)⟩
      · exact q1.elim
    · exact q1.elim
/-! min of three -/
def min3D : List D → Option D
  | [.int i, .int j, .int k] => some (.int (minI i [j, k]))
  | _ => none
theorem nu_min3 (i j k : Int) : nuMin3 (.int i) (.int j) (.int k) = some (.int (minI i [j, k])) := by
  by_cases h1 : j < i
  · by_cases h2 : k < j
    · simp [nuMin3, nuMin2, nuLt, nuCB, minI, h1, h2]
    · simp [nuMin3, nuMin2, nuLt, nuCB, minI, h1, h2]
  · by_cases h2 : k < i
    · simp [nuMin3, nuMin2, nuLt, nuCB, minI, h1, h2]
    · simp [nuMin3, nuMin2, nuLt, nuCB, minI, h1, h2]
theorem dc_min3 (hc : X.calm = true) : DCall X (.builtin "min") min3D := by
  intro pins s σ H xs us Q I r h
  obtain ⟨A, ds, z, bt, fz, e, q⟩ := h
  unfold min3D at e
  split at e
  · rename_i i j k
    cases e
    cases fz with
    | cons f1 t =>
      cases t with
      | cons f2 t =>
        cases t with
        | cons f3 t =>
          cases t
          cases f1
          cases f2
          cases f3
          exact call_min3Nu hc pins s σ H _ us Q I r ⟨_, _, _, _, rfl, nu_min3 i j k, q _ _ (Same.refl _) (.int _)⟩
  · cases e
end
end
end DL
namespace DL
open PySem PySem.Spec PyProof.Rows L2
/-! ### one of some defs, taken out of a written row, and called -/
section
variable [KFrag] {X : Cx} {Wx : WXc} {pos : Pos} {e : Expr} {es : List Expr} {t : TA} {fe : Expr} {tf : TE}
/-- whatever the callee is: a def that is known -/
def tCallE (X : Cx) (Wx : WXc) (tf : TE) (t : TA) : TE := fun σ H Q => tf σ H fun y H1 => ∃ (k : Nat) (f : Addr) (fd : FuncData) (ps : List Str) (sp : Sp), y = .ref f ∧ FnG X.prog X.w X.K X.mg X.base k f fd ps sp ∧ Room k X.A ∧ PySem.W.keepIn X.K (.ref f) = true ∧
  Binds X.K fd ps [] ∧ t σ H1 fun vs H2 => sp vs H2 Q (WE Wx σ)
theorem pe_callE (hgd : X.A.guards = some []) (tk : Takes X Wx) (hf : PE X fe tf) (ha : PA X (e :: es) t)
    (ht : eval (.Call fe (e :: es) [] pos) X.env = (do callWith pos (← eval fe X.env) [] (backTo pos (starEach (e :: es) X.env)) (backToKw pos (keywordEach [] X.env))) := by rfl)
    (he : starEach (e :: es) X.env = (false, eval e X.env) :: starEach es X.env := by rfl) (hpl : (backTo pos (starEach es X.env)).any (·.1) = false := by rfl) : PE X (.Call fe (e :: es) [] pos) (tCallE X Wx tf t) where
  run := fun pins s σ H Q I h => by
    refine Call_ (thn (hf.run pins s σ H _ I h) fun u s1 ⟨y, H1, I1, ry, k, f, fd, ps, sp, ey, F, hr, hk, hb, q⟩ => ?_) ht
    subst ey
    obtain rfl : u = Value.ref f := ry
    refine PySem.W.callWith_K (h₀ := X.base) I1.ok.mod.kin hk (thn (ha.run pos pins s1 σ H1 _ I1 q) fun us s2 z => ?_) he hpl
    obtain ⟨vs, H2, I2, r, q2⟩ := z
    have hl : us.length = ps.length := by rw [← r.length]; exact F.len _ _ _ _ q2
    have bd := hb s2 us I2.kIn (by rw [List.append_nil]; exact hl)
    rw [List.append_nil] at bd
    refine ⟨I2.kIn, wpAny_call (codeAny_mono (F.run X.A X.stack s2 H2 ⟨us, []⟩ us vs Q (WE Wx σ) hgd hr I2.env0 bd r q2) fun z s3 hz => ?_)⟩
    cases z with
    | error u => exact passAt tk σ pins H2 s2 u s3 I2 hz
    | ok fl =>
      cases fl with
      | ret u => exact I2.after hz
      | next => exact hz.elim
      | brk => exact hz.elim
      | cont => exact hz.elim
/-- names of defs, one behind the other -/
def tNms (fs : List Addr) : TA := fun _ H Q => Q (fs.map V.ref) H
theorem pn_nil : PA X [] (tNms []) := pa_nil
theorem pn_cons {x : Str} {p : Pos} {f : Addr} {ns : List Expr} {fs : List Addr} (hg : Gl X x) (hm : X.mg x = some (.ref f)) (h : PA X ns (tNms fs)) (hd : (x == ("__debug__" : Str)) = false := by decide)
    (hs : starEach (.Name x p :: ns) X.env = (false, eval (.Name x p) X.env) :: starEach ns X.env := by rfl) : PA X (.Name x p :: ns) (tNms (f :: fs)) :=
  PA_imp (pa_cons (pe_glob hg hm (v := .ref f) rfl hd) h hs) fun σ H Q q => q
end
section
variable [KFrag] {X : Cx} [HK X] {T : TX} {Wx : WXc} {e ei : Expr} {es ns : List Expr} {pos p1 p2 : Pos} {fi : En → CS → R W} {fs : En → CS → R (List W)}
abbrev Mir : Type := List W → CS → R W
def selW (hs : List Mir) (w : W) : Option Mir := match w with
  | .d (.int j) => atI hs j
  | _ => none
def fSel (m : Nat) (hs : List Mir) (fi : En → CS → R W) (fs : En → CS → R (List W)) (ρ : En) (s : CS) : R W := (fi ρ s).bind fun w s => match selW hs w with
  | some h => (fs ρ s).bind fun ws s => if ws.length = m then noX h ws s else .bad
  | none => .bad
/-- a def that is known, by its mirror -/
def Hld (X : Cx) (T : TX) (m : Nat) (q : Addr × Mir) : Prop := ∃ (k : Nat) (fd : FuncData) (ps : List Str), FnG X.prog X.w X.K X.mg X.base k q.1 fd ps (spD T m q.2) ∧ Room k X.A ∧ PySem.W.keepIn X.K (.ref q.1) = true ∧ Binds X.K fd ps []
theorem hld_nil {m : Nat} : ∀ q ∈ ([] : List (Addr × Mir)), Hld X T m q := fun q h => by cases h
theorem hld_cons {m : Nat} {q : Addr × Mir} {qs : List (Addr × Mir)} (h : Hld X T m q) (t : ∀ q ∈ qs, Hld X T m q) : ∀ r ∈ q :: qs, Hld X T m r := fun r hr => (List.mem_cons.mp hr).elim (fun e => by rw [e]; exact h) (t r)
theorem hld_of {m k : Nat} {f : Addr} {fd : FuncData} {ps : List Str} {h : Mir} (F : FnG X.prog X.w X.K X.mg X.base k f fd ps (spD T m h)) (hr : Room k X.A) (hk : PySem.W.keepIn X.K (.ref f) = true) (hb : Binds X.K fd ps []) : Hld X T m (f, h) := ⟨k, fd, ps, F, hr, hk, hb⟩
theorem atI_map {α β : Type} (g : α → β) (xs : List α) (i : Int) : atI (xs.map g) i = (atI xs i).map g := by
  unfold atI
  rw [List.length_map]
  cases ixN xs.length i with
  | none => rfl
  | some j => simp
theorem de_sel {m : Nat} (qs : List (Addr × Mir)) (hgd : X.A.guards = some []) (tk : Takes X Wx) (hq : ∀ q ∈ qs, Hld X T m q) (hl : qs.length ≤ 100) (hn : PA X ns (tNms (qs.map (·.1)))) (hi : DE X T Wx ei fi) (ha : DA X T Wx (e :: es) fs)
    (hp : PlainIx ei := by exact fun _ _ => rfl)
    (ht : eval (.Call (.Subscript (.List ns p1) ei p2) (e :: es) [] pos) X.env = (do callWith pos (← eval (.Subscript (.List ns p1) ei p2) X.env) [] (backTo pos (starEach (e :: es) X.env)) (backToKw pos (keywordEach [] X.env))) := by rfl)
    (he : starEach (e :: es) X.env = (false, eval e X.env) :: starEach es X.env := by rfl) (hpl : (backTo pos (starEach es X.env)).any (·.1) = false := by rfl) :
    DE X T Wx (.Call (.Subscript (.List ns p1) ei p2) (e :: es) [] pos) (fSel m (qs.map (·.2)) fi fs) :=
  PE_imp (pe_callE hgd tk (pe_ix ix_list (pe_lst hn) hi hp) ha ht he hpl) fun σ H Q ⟨B, μ, s, ρ, r, er, q⟩ => by
    show _ ∧ ∀ p, H p = none → _
    refine ⟨?_, fun p hp => ?_⟩
    · rw [List.length_map, List.length_map, sizeLine_eq]
      omega
    have k : Same H (upd H p (.lst ((qs.map (·.1)).map V.ref))) := same_upd hp
    have st : Stp μ s H μ s (upd H p (.lst ((qs.map (·.1)).map V.ref))) := Stp.same k
    refine tD_bind (r.same k) (er.stp st) (Fin.stp st q) fun w s1 v μ1 H1 st1 r1 e1 rel1 q1 => ?_
    replace rel1 : RW B μ1 s1 H1 v w := rel1
    have hp1 : H1 p = some (.lst ((qs.map (·.1)).map V.ref)) := by
      exact st1.keep p _ upd_same fun ⟨n, c, e, _⟩ => r.th n p e hp
    cases z : selW (qs.map (·.2)) w with
    | none => rw [z] at q1; exact q1.elim
    | some h =>
      rw [z] at q1
      unfold selW at z
      split at z
      · rename_i j
        replace rel1 : Fz H1 (Av B μ1 s1) v (.int j) := rel1
        cases rel1
        rw [atI_map] at z
        cases zq : atI qs j with
        | none => rw [zq] at z; cases z
        | some q0 =>
          rw [zq] at z
          cases z
          have hm : q0 ∈ qs := by
            obtain ⟨n, _, h2, _⟩ := atI_get zq
            exact List.mem_of_getElem? h2
          obtain ⟨k0, fd, ps, F, hr, hk, hb⟩ := hq q0 hm
          refine ⟨p, _, j, .ref q0.1, rfl, rfl, .inl (.inl hp1), ?_, k0, q0.1, fd, ps, _, rfl, F, hr, hk, hb, ?_⟩
          · rw [atI_map, atI_map, zq]
            rfl
          · refine tD_bind r1 e1 q1 fun ws s2 vs μ2 H2 st2 r2 e2 rel2 q2 => ?_
            replace rel2 : RWs B μ2 s2 H2 vs ws := rel2
            split at q2
            · rename_i hl2
              exact ⟨rel2.len.trans hl2, B, μ2, s2, ws, σ, r2, rel2, noX_un q2⟩
            · exact q2.elim
      · cases z
end

/-! ### dict([]), and a list as a cell -/
section
variable [KFrag] {X : Cx} [HK X] {T : TX} {Wx : WXc} {e : Expr} {fs : En → CS → R (List W)} {p p1 pos : Pos}
theorem cr_dict0 (hc : X.calm = true) (hu : X.A.units + 64 < cLine) : CallR X (.type "dict") fun xs H Q => ∃ a, xs = [.ref a] ∧ SqL X.K H a [] ∧ ∀ p, H p = none → Q (.ref p) (upd H p (DObj X.w p [])) := by
  rintro pins s σ H xs us Q I r ⟨a, rfl, hq, q⟩
  obtain ⟨u, rfl, rx⟩ := vals1 r
  cases rx
  obtain ⟨its, rv, pl, hz⟩ := I.list hq
  cases rv
  obtain ⟨o, n, ho, hcl, hd, hdat⟩ := pl
  refine call_dict_pairsH (knd := nestedKind X.prog X.w) (ps := []) (PairArg.list a #[] (fun _ => 0) []) (I.ok.hd hc) (by show X.A.in1.in1.units + 8 < cLine; (have : X.A.in1.in1.units = X.A.units + 2 := rfl); omega) ⟨⟨o, n, ho, hcl, hd, hdat⟩, rfl, fun j k v e => by cases e⟩ ?_ ?_ (Nat.zero_le _) fun h' tk hd' k => ?_
  · exact ⟨rfl, fun i k v e => by cases e⟩
  · exact fun h' k x hx => by cases hx
  · have hm : (s.heap.objs.size == sysModules) = false := beq_eq_false_iff_ne.mpr (Nat.ne_of_gt I.big)
    exact ⟨.ref s.heap.objs.size, upd H s.heap.objs.size (DObj X.w s.heap.objs.size []), I.laid (t' := tk) (fun b u e => k b u (by simp) e) (Nat.le_refl _) (dct_ok (P := X.prog) (Nat.zero_le _) hm .nil hd'), rfl, q _ (I.hok.fresh (Nat.le_refl _))⟩
theorem de_dict0 (hw : X.w = KFrag.w) (hc : X.calm = true) (hu : X.A.units + 64 < cLine) (hg : Gl X "dict") (hm : X.mg "dict" = none) (he : starEach [.List [] p1] X.env = (false, eval (.List [] p1) X.env) :: starEach [] X.env := by rfl)
    (hpl : (backTo pos (starEach [] X.env)).any (·.1) = false := by rfl) : DE X T Wx (.Call (.Name "dict" p) [.List [] p1] [] pos) fNewD :=
  PE_imp (pe_callTy (cr_dict0 hc hu) hg hm PyProof.Rows.boot_dict (pa_cons (pe_lst pa_nil) pa_nil) (by decide) (by decide) he hpl) fun σ H Q ⟨B, μ, s, ρ, r, e, q⟩ => by
    show _ ∧ ∀ l, H l = none → _
    refine ⟨Nat.zero_le _, fun l hl => ⟨l, rfl, .inl (.inl upd_same), fun p hp => ?_⟩⟩
    have k : Same H (upd H l (.lst [])) := same_upd hl
    obtain ⟨a, b⟩ := newCc (o := DObj X.w p []) (c := .dct []) (r.same k) hp fun H' A' k e => .inl ⟨[], by rw [← hw]; exact e, .nil⟩
    refine q _ _ _ ((Stp.same k).trans b) a ⟨p, rfl, ?_⟩
    rw [← r.len]
    simp
/-- list(x), changed from now on -/
def newLW (ws : List W) (s : CS) : R W := match ws with
  | [.d (.tuple ds)] => .ok (.c s.length) (s ++ [.lst ds])
  | [.d (.list ds)] => .ok (.c s.length) (s ++ [.lst ds])
  | _ => .bad
def fNewL (fs : En → CS → R (List W)) (ρ : En) (s : CS) : R W := (fs ρ s).bind newLW
theorem de_newL (hg : Gl X "list") (hm : X.mg "list" = none) (ha : DA X T Wx [e] fs)
    (he : starEach [e] X.env = (false, eval e X.env) :: starEach [] X.env := by rfl) (hpl : (backTo pos (starEach [] X.env)).any (·.1) = false := by rfl) : DE X T Wx (.Call (.Name "list" p) [e] [] pos) (fNewL fs) :=
  PE_imp (pe_callTy call_list_of hg hm PyProof.Rows.boot_list ha (by decide) (by decide) he hpl) fun σ H Q ⟨B, μ, s, ρ, r, e, q⟩ => tD_bind r e q fun ws s1 vs μ1 H1 st1 r1 e1 rel1 q1 => by
    replace rel1 : RWs B μ1 s1 H1 vs ws := rel1
    unfold newLW at q1
    split at q1
    · rename_i ds
      cases rel1 with
      | cons a1 a2 =>
      cases a2
      replace a1 : Fz H1 (Av B μ1 s1) _ (.tuple ds) := a1
      cases a1 with
      | @tup a ys _ h1 f1 =>
        refine ⟨a, ys, rfl, .inr h1.sq, fun l hl => ?_⟩
        obtain ⟨sr, st⟩ := newC r1 hl f1
        refine q1 _ _ _ st sr ⟨l, rfl, ?_⟩
        rw [← r1.len]
        simp
    · rename_i ds
      cases rel1 with
      | cons a1 a2 =>
      cases a2
      replace a1 : Fz H1 (Av B μ1 s1) _ (.list ds) := a1
      cases a1 with
      | @lst a ys _ h1 f1 =>
        refine ⟨a, ys, rfl, .inl h1.sq, fun l hl => ?_⟩
        obtain ⟨sr, st⟩ := newC r1 hl f1
        refine q1 _ _ _ st sr ⟨l, rfl, ?_⟩
        rw [← r1.len]
        simp
    · exact q1.elim
end
end DL
namespace DL
open PySem PySem.Spec PyProof.Rows L2
/-! ### what is taken out of a list; d.get(k); dict([(k, v)]) -/
section
variable [KFrag] {X : Cx} [HK X] {T : TX} {Wx : WXc} {e e2 o i : Expr} {f g : En → CS → R W} {p p1 p2 apos pos : Pos}
theorem Fzs.del {H : Hp} {A : Addr → Prop} : ∀ {v : List V} {d : List D} (k : Nat), Fzs H A v d → Fzs H A (v.eraseIdx k) (d.eraseIdx k)
  | _, _, _, .nil => .nil
  | _, _, 0, .cons _ t => t
  | _, _, k + 1, .cons h t => .cons h (Fzs.del k t)
def popW (n : Nat) (u : W) (s : CS) : R W := match u with
  | .d (.int i) => match s[n]? with
    | some (.lst ds) => if -1000000 ≤ i ∧ i < 1000000 then (match ixN ds.length i with
      | some k => match ds[k]? with
        | some x => .ok (.d x) (s.set n (.lst (ds.eraseIdx k)))
        | none => .bad
      | none => .bad) else .bad
    | _ => .bad
  | _ => .bad
def popC (g : En → CS → R W) (ρ : En) (w : W) (s : CS) : R W := match w with
  | .c n => match s[n]? with
    | some (.lst _) => (g ρ s).bind fun u s => popW n u s
    | _ => .bad
  | _ => .bad
/-- x.pop(i), a list that is changed -/
def fPopI (f g : En → CS → R W) (ρ : En) (s : CS) : R W := (f ρ s).bind fun w s => popC g ρ w s
theorem de_popI (ha : DE X T Wx e f) (hb : DE X T Wx e2 g) (hbase : attributeBase e "pop" X.env (eval e X.env) = eval e X.env := by rfl)
    (hfew : ((backTo p2 (starEach [e2] X.env)).all (fun x => !x.1) && (backToKw p2 (keywordEach [] X.env)).all (fun x => x.1.isSome)
      && decide ([e2].length + ([] : List Keyword).length + (if ([] : List Keyword).isEmpty then 0 else 1) < 30)) = true := by rfl)
    (hline : (apos.endLine == p2.line) = true := by rfl) (hs : starEach [e2] X.env = (false, eval e2 X.env) :: starEach [] X.env := by rfl) (hplain : (backTo p2 (starEach [] X.env)).any (·.1) = false := by rfl) :
    DE X T Wx (.Call (.Attribute e "pop" apos) [e2] [] p2) (fPopI f g) :=
  PE_imp (pe_bm PySem.F.plainAttrs_list PySem.F.slot_list_pop PySem.F.type_list_pop mt_popAt ha (pa_cons hb pa_nil hs) hbase hfew hline hs hplain) fun σ H Q ⟨B, μ, s, ρ, r, er, q⟩ =>
  tD_bind r er q fun w s1 v μ1 H1 st1 r1 e1 rel1 q1 => by
    unfold popC at q1
    split at q1
    · rename_i n
      split at q1
      · rename_i ds0 hs0
        obtain ⟨a, rfl, ha⟩ := (show ∃ a, v = .ref a ∧ μ1[n]? = some a from rel1)
        obtain ⟨xs0, ea0, _⟩ := r1.cell n a _ ha hs0
        refine ⟨.inl ⟨rfl, xs0, .of ea0⟩, ?_⟩
        refine tD_bind r1 e1 q1 fun u s2 y μ2 H2 st2 r2 e2 rel2 q2 => ?_
        have ha2 : μ2[n]? = some a := by
          obtain ⟨t, rfl⟩ := st2.pre
          rw [List.getElem?_append_left (List.getElem?_eq_some_iff.mp ha).1]
          exact ha
        unfold popW at q2
        split at q2
        · rename_i i
          split at q2
          · rename_i ds hds
            split at q2
            · rename_i hb
              split at q2
              · rename_i k hk
                split at q2
                · rename_i x hx
                  replace rel2 : Fz H2 (Av B μ2 s2) y (.int i) := rel2
                  cases rel2
                  obtain ⟨xs, ea, fz⟩ := r2.cell n a _ ha2 hds
                  obtain ⟨z, hz, fx⟩ := fz.get hx
                  obtain ⟨h1, h2, h3, h4⟩ := ixN_seq hk
                  obtain ⟨sr, st⟩ := putC r2 ha2 hds (fz.del k)
                  refine ⟨a, xs, i, k, z, rfl, rfl, ea, by omega, by omega, by rw [fz.len]; exact h1, hz, ?_⟩
                  exact q2 z μ2 _ st sr (Rp.stp (a := W) (b := V) st (show RW B μ2 s2 H2 z (.d x) from fx))
                · exact q2.elim
              · exact q2.elim
            · exact q2.elim
          · exact q2.elim
        · exact q2.elim
      · exact q1.elim
    · exact q1.elim
end
section
variable [KFrag] {X : Cx} [HK X] {T : TX} {Wx : WXc} {e e2 o i : Expr} {f g : En → CS → R W} {fs : En → CS → R (List W)} {p p1 p2 p3 apos pos : Pos} {td ty : TE}
/-! d.get(k) -/
def tNGetM [KFrag] (w : World) (td ty : TE) : TE := fun σ H Q => td σ H fun x H1 => (∃ A ds, NRd w H1 A x ds) ∧ ty σ H1 fun y H2 => ∃ A ds d, NRd w H2 A x ds ∧ Fz H2 A y d ∧ keyOk d = true ∧ (match lookD ds d with
  | some z => ∀ v, Fz H2 A v z → Q v H2
  | none => Q .non H2)
theorem n_getM {pins : List (Addr × Obj)} {σ : L2.St} {H : Hp} {s : Shared} {B : Around} {E : Value → Shared → Prop} {A : Addr → Prop} {y : V} {u : Value} {ds : List (D × D)} {d : D} {a : Addr} {Q : Value → Shared → Prop} (hu : B.units + 65 < cLine) (I : Inv X pins σ H s) (g : NRd X.w H A (.ref a) ds) (f : Fz H A y d) (ry : RelV y u) (hk : keyOk d = true)
    (h : match lookD ds d with
      | some z => ∀ v w' s', Fz H A v z → Inv X pins σ H s' → RelV v w' → Q w' s'
      | none => ∀ s', Inv X pins σ H s' → Q .none s') : wpAny (model X.prog X.w) B (call (.builtin "dict.get") [.ref a, u]) Q E s := by
  obtain ⟨a', es, e, rd, kp⟩ := g
  cases e
  obtain ⟨b, k, rfl, rfl, e1, e2, hi⟩ := n_key I f ry hk
  obtain ⟨_, hs, xs, rel, dd⟩ := dct_rd I.hok (kin I) rd kp
  have room : (nestedKind X.prog X.w).room B.in1 := by
    show B.in1.units + 8 < cLine
    have : B.in1.units = B.units + 1 := rfl
    omega
  refine call_meetsIn PySem.F.slot_dict_get dd.typeIs PySem.F.entry_dict_get (PySem.F.args_dict_get_2 _ _) (meetsH_dict_get (nestedKind X.prog X.w) a b hs) ⟨room, k, xs, hi, dd, ?_⟩
  cases z : lookD ds d with
  | some y =>
    rw [z] at h
    obtain ⟨p, v, e3, rv, fv⟩ := (look_kp kp rel e1).1 y z
    rw [e3]
    exact h v _ _ fv (I.tok _) rv
  | none =>
    rw [z] at h
    rw [(look_kp kp rel e1).2 z]
    exact h _ (I.tok _)
theorem pe_ngetM (hu : X.A.units + 65 < cLine) (ho : PE X o td) (hi : PE X i ty) (hbase : attributeBase o "get" X.env (eval o X.env) = eval o X.env := by rfl)
    (hfew : ((backTo p2 (starEach [i] X.env)).all (fun x => !x.1) && (backToKw p2 (keywordEach [] X.env)).all (fun x => x.1.isSome)
      && decide ([i].length + ([] : List Keyword).length + (if ([] : List Keyword).isEmpty then 0 else 1) < 30)) = true := by rfl)
    (hline : (apos.endLine == p2.line) = true := by rfl) (hs : starEach [i] X.env = (false, eval i X.env) :: starEach [] X.env := by rfl) (hplain : (backTo p2 (starEach [] X.env)).any (·.1) = false := by rfl) :
    PE X (.Call (.Attribute o "get" apos) [i] [] p2) (tNGetM X.w td ty) := by
  refine ⟨fun pins s σ H Q I h => ?_⟩
  refine wpAny_Call_method_late hbase hfew hline rfl (thn (ho.run pins s σ H _ I h) fun v s1 ⟨x, H1, I1, r1, ⟨A, ds, g⟩, q1⟩ => ?_)
  obtain ⟨a, es, rfl, rd, kp⟩ := id g
  obtain rfl : v = Value.ref a := r1
  have h2 : ∀ a', Value.ref a = .ref a' → ∃ o, s1.heap.get? a' = some o ∧ o.dict = none := fun a' e => by
    cases e
    obtain ⟨_, _, xs, _, dd⟩ := dct_rd I1.hok (kin I1) rd kp
    obtain ⟨o, _, _, h1, h2, _⟩ := dd
    exact ⟨o, h1, h2.2.1⟩
  refine ⟨"dict", "dict.get", PySem.F.plainAttrs_dict, PySem.F.slot_dict_get, PySem.F.type_dict_get, n_typeIs I1 g, h2, ?_⟩
  have hA := (pa_cons hi pa_nil hs).run p2 pins s1 σ H1 (fun vs H2 => match vs with
    | [y] => ∃ A ds d, NRd X.w H2 A (.ref a) ds ∧ Fz H2 A y d ∧ keyOk d = true ∧ (match lookD ds d with
      | some z => ∀ v, Fz H2 A v z → Q v H2
      | none => Q .non H2)
    | _ => False) I1 q1
  rw [hs] at hA ⊢
  refine Calls.callWith_builtin (by show (false || (backTo p2 (starEach [] X.env)).any (·.1)) = false; rw [hplain] <;> rfl) (Calls.evalArgs_plain ?_)
  refine thn hA fun us s2 ⟨vs, H2, I2, r2, q3⟩ => ?_
  dsimp only at q3
  split at q3
  case h_2 => exact q3.elim
  rename_i y
  obtain ⟨A2, ds2, d, g2, f, hk, q2⟩ := q3
  obtain ⟨u, rfl, ru⟩ := r2.one
  refine n_getM hu I2 g2 f ru hk ?_
  split
  · rename_i z hz
    rw [hz] at q2
    exact fun v w' s' fv I3 rw' => ⟨v, H2, I3, rw', q2 v fv⟩
  · rename_i hz
    rw [hz] at q2
    exact fun s' I3 => ⟨.non, H2, I3, rfl, q2⟩
def dGetM (w u : W) (s : CS) : R W := match dctOf w s, u with
  | some ds, .d k => if keyOk k = true then (match lookD ds k with
    | some z => .ok (.d z) s
    | none => .ok (.d .none) s) else .bad
  | _, _ => .bad
def dGetM0 (g : En → CS → R W) (ρ : En) (w : W) (s : CS) : R W := match dctOf w s with
  | some _ => (g ρ s).bind fun u s => dGetM w u s
  | none => .bad
/-- d.get(k) -/
def fDGetM (f g : En → CS → R W) (ρ : En) (s : CS) : R W := (f ρ s).bind fun w s => dGetM0 g ρ w s
theorem de_dgetM (hw : X.w = KFrag.w) (hu : X.A.units + 65 < cLine) (ha : DE X T Wx o f) (hb : DE X T Wx i g) (hbase : attributeBase o "get" X.env (eval o X.env) = eval o X.env := by rfl)
    (hfew : ((backTo p2 (starEach [i] X.env)).all (fun x => !x.1) && (backToKw p2 (keywordEach [] X.env)).all (fun x => x.1.isSome)
      && decide ([i].length + ([] : List Keyword).length + (if ([] : List Keyword).isEmpty then 0 else 1) < 30)) = true := by rfl)
    (hline : (apos.endLine == p2.line) = true := by rfl) (hs : starEach [i] X.env = (false, eval i X.env) :: starEach [] X.env := by rfl) (hplain : (backTo p2 (starEach [] X.env)).any (·.1) = false := by rfl) :
    DE X T Wx (.Call (.Attribute o "get" apos) [i] [] p2) (fDGetM f g) :=
  PE_imp (pe_ngetM hu ha hb hbase hfew hline hs hplain) fun σ H Q ⟨B, μ, s, ρ, r, e, q⟩ => tD_bind r e q fun w s1 x μ1 H1 st1 r1 e1 rel1 q1 => by
    unfold dGetM0 at q1
    split at q1
    · rename_i ds0 hd0
      refine ⟨⟨Av B μ1 s1, ds0, by rw [hw]; exact dctOf_rd r1 rel1 hd0⟩, ?_⟩
      refine tD_bind r1 e1 q1 fun u s2 y μ2 H2 st2 r2 e2 rel2 q2 => ?_
      have rel1 := RW.stp st2 rel1
      unfold dGetM at q2
      split at q2
      · rename_i ds k hd
        split at q2
        · rename_i hk
          refine ⟨Av B μ2 s2, ds, k, by rw [hw]; exact dctOf_rd r2 rel1 hd, rel2, hk, ?_⟩
          split at q2
          · rename_i z hz
            exact fun v fv => Fin.here (a := W) (w := .d z) q2 r2 fv
          · rename_i hz
            exact Fin.here (a := W) (w := .d .none) q2 r2 .non
        · exact q2.elim
      · exact q2.elim
    · exact q1.elim
/-! dict([(k, v)]) -/
theorem cr_dict1 (hc : X.calm = true) (hu : X.A.units + 64 < cLine) : CallR X (.type "dict") fun xs H Q => ∃ a p x y A d z, xs = [.ref a] ∧ SqL X.K H a [.ref p] ∧ SqT X.K H p [x, y] ∧ Fz H A x d ∧ keyOk d = true ∧ Fz H A y z ∧ ∀ q es', H q = none → KPs H A es' [(d, z)] → Q (.ref q) (upd H q (DObj X.w q es')) := by
  rintro pins s σ H xs us Q I r ⟨a, p, x, y, A, d, z, rfl, hq, hp, fx, hk, fy, q⟩
  obtain ⟨u, rfl, rx⟩ := r.one
  obtain rfl : u = Value.ref a := rx
  obtain ⟨its, rv, pl, hz⟩ := I.list hq
  obtain ⟨w1, rfl, rw1⟩ := rv.one
  obtain rfl : w1 = Value.ref p := rw1
  obtain ⟨o, n, ho, hcl, hd, hdat⟩ := pl
  obtain ⟨its2, rv2, pt, hz2⟩ := I.tuple hp
  obtain ⟨ux, uy, ei, r1, ry⟩ := vals2 rv2
  subst ei
  obtain ⟨b, k, rfl, rfl, e1, e2, hi⟩ := n_key I fx r1 hk
  refine call_dict_pairsH (knd := nestedKind X.prog X.w) (ps := [(k, b, uy)]) (PairArg.list a #[.ref p] (fun _ => p) [(.ref b, uy)]) (I.ok.hd hc) (by show X.A.in1.in1.units + 8 < cLine; (have : X.A.in1.in1.units = X.A.units + 2 := rfl); omega) ⟨⟨o, n, ho, hcl, hd, hdat⟩, rfl, fun j k v e => ?_⟩ ⟨rfl, fun i key v e => ?_⟩ (fun h' k' x hx => ?_) (by rw [sizeLine_eq]; simp) fun h' tk hd' k' => ?_
  · cases j with
    | zero => cases e; exact ⟨rfl, .inl pt⟩
    | succ j => cases e
  · cases i with
    | zero => cases e; exact ⟨k, b, rfl, rfl⟩
    | succ i => cases e
  · rw [List.mem_singleton] at hx
    subst hx
    have I2 : Inv X pins σ H { s with heap := h' } := I.kept (t' := s.toks) fun b o e => k' b o (Nat.ne_of_lt (Heap.lt_size e)) (by simp) e
    obtain ⟨b', k2, e3, e4, e5, _, hi2⟩ := n_key I2 fx rfl hk
    cases e3
    rw [e1] at e5
    cases e5
    exact hi2
  · have hm : (s.heap.objs.size == sysModules) = false := beq_eq_false_iff_ne.mpr (Nat.ne_of_gt I.big)
    have hn := I.hok.fresh (Nat.le_refl s.heap.objs.size)
    exact ⟨.ref s.heap.objs.size, upd H s.heap.objs.size (DObj X.w s.heap.objs.size [(k, b, y)]), I.laid (t' := tk) (fun b u e => k' b u (by simp) e) (Nat.le_refl _) (dct_ok (P := X.prog) (by rw [sizeLine_eq]; simp) hm (.cons ⟨rfl, rfl, ry⟩ .nil) hd'), rfl, q _ _ hn (.cons e1 e2 fx fy .nil)⟩
def fNewDP (f g : En → CS → R W) (ρ : En) (s : CS) : R W := (f ρ s).bind fun u s => (g ρ s).bind fun v s => match u, v with
  | .d k, .d x => if keyOk k = true then .ok (.c s.length) (s ++ [.dct [(k, x)]]) else .bad
  | _, _ => .bad
theorem de_dict1 {kk : Nat} (hw : X.w = KFrag.w) (hc : X.calm = true) (hu : X.A.units + 64 < cLine) (hg : Gl X "dict") (hm : X.mg "dict" = none) (ha : DE X T Wx o f) (hb : DE X T Wx i g)
    (hs : starEach [o, i] X.env = (false, eval o X.env) :: starEach [i] X.env := by rfl) (hs2 : starEach [i] X.env = (false, eval i X.env) :: starEach [] X.env := by rfl)
    (hs3 : starEach [.Tuple [o, i] kk p3] X.env = (false, eval (.Tuple [o, i] kk p3) X.env) :: starEach [] X.env := by rfl)
    (he : starEach [.List [.Tuple [o, i] kk p3] p1] X.env = (false, eval (.List [.Tuple [o, i] kk p3] p1) X.env) :: starEach [] X.env := by rfl)
    (hpl : (backTo pos (starEach [] X.env)).any (·.1) = false := by rfl) : DE X T Wx (.Call (.Name "dict" p) [.List [.Tuple [o, i] kk p3] p1] [] pos) (fNewDP f g) :=
  PE_imp (pe_callTy (cr_dict1 hc hu) hg hm PyProof.Rows.boot_dict (pa_cons (pe_lst (pa_cons (pe_tup (pa_cons ha (pa_cons hb pa_nil hs2) hs)) pa_nil hs3)) pa_nil he) (by decide) (by decide) he hpl) fun σ H Q ⟨B, μ, s, ρ, r, e, q⟩ => by
    refine tD_bind r e q fun u s1 x μ1 H1 st1 r1 e1 rel1 q1 => tD_bind r1 e1 q1 fun v s2 y μ2 H2 st2 r2 e2 rel2 q2 => ?_
    replace rel1 := RW.stp st2 rel1
    split at q2
    · rename_i k z
      split at q2
      · rename_i hk
        replace rel1 : Fz H2 (Av B μ2 s2) x k := rel1
        replace rel2 : Fz H2 (Av B μ2 s2) y z := rel2
        refine ⟨by rw [sizeLine_eq]; simp, fun p hp => ?_⟩
        have k1 : Same H2 (upd H2 p (.tup [x, y])) := same_upd hp
        refine ⟨by rw [sizeLine_eq]; simp, fun l hl => ?_⟩
        have k2 : Same (upd H2 p (.tup [x, y])) (upd (upd H2 p (.tup [x, y])) l (.lst [.ref p])) := same_upd hl
        have k3 : Same H2 (upd (upd H2 p (.tup [x, y])) l (.lst [.ref p])) := k1.trans k2
        refine ⟨l, p, x, y, Av B μ2 s2, k, z, rfl, .inl (.inl upd_same), .inl (.inl (k2 _ _ upd_same)), rel1.same k3, hk, rel2.same k3, fun q es' hq kp => ?_⟩
        obtain ⟨a, b⟩ := newCc (o := DObj X.w q es') (c := .dct [(k, z)]) (r2.same k3) hq fun H' A' kk e => .inl ⟨es', by rw [← hw]; exact e, kp.kp kk⟩
        refine q2 _ _ _ ((Stp.same k3).trans b) a ⟨q, rfl, ?_⟩
        rw [← r2.len]
        simp
      · exact q2.elim
    · exact q2.elim
/-! range(i, j, -1) -/
def rngU (i : Int) (n : Nat) : List D := (List.range n).map fun k => .int (i + (k : Nat) * (-1))
theorem itr_rngU {B : Addr → Prop} {μ : List Addr} {s : CS} {H : Hp} {i : Int} {n : Nat} : ItR B μ s H (Itc i (-1) n) (rngU i n) := by
  have hl : (rngU i n).length = n := by simp [rngU]
  refine ⟨fun _ => True, YFn fun k => .int (i + (k : Nat) * (-1)), by rw [hl]; exact walk_rangeC, fun _ _ _ _ => trivial, fun k H' A' v H'' kk bt hi y => ?_⟩
  obtain ⟨rfl, rfl⟩ := y
  rw [hl] at hi
  exact ⟨Same.refl _, .int (i + ((k : Nat) : Int) * (-1)), by simp [rngU, hi], .int _⟩
def rngUW (w u c : W) (s : CS) : R (List D) := match w, u, c with
  | .d (.int i), .d (.int j), .d (.int (.negSucc 0)) => if -1000000 ≤ i ∧ i < 1000000 ∧ -1000000 ≤ j ∧ j < 1000000 then .ok (rngU i (i - j).toNat) s else .bad
  | _, _, _ => .bad
def fRngU (f g h : En → CS → R W) (ρ : En) (s : CS) : R (List D) := (f ρ s).bind fun w s => (g ρ s).bind fun u s => (h ρ s).bind fun c s => rngUW w u c s
theorem di_rngU {tg c : Expr} {h : En → CS → R W} (hg : Gl X "range") (hm : X.mg "range" = none) (ha : DE X T Wx e f) (hb : DE X T Wx e2 g) (hc : DE X T Wx c h)
    (hs : starEach [e, e2, c] X.env = (false, eval e X.env) :: starEach [e2, c] X.env := by rfl) (hs2 : starEach [e2, c] X.env = (false, eval e2 X.env) :: starEach [c] X.env := by rfl) (hs3 : starEach [c] X.env = (false, eval c X.env) :: starEach [] X.env := by rfl)
    (hpl : (backTo pos (starEach [e2, c] X.env)).any (·.1) = false := by rfl) : DI X T Wx tg (.Call (.Name "range" p) [e, e2, c] [] pos) (fRngU f g h) :=
  PI_imp (pi_range3 hg hm (pa_cons ha (pa_cons hb (pa_cons hc pa_nil hs3) hs2) hs) hs hpl) fun σ H Q ⟨B, μ, s, ρ, r, er, q⟩ =>
  tD_bind r er q fun w s1 v μ1 H1 st1 r1 e1 rel1 q1 => tD_bind r1 e1 q1 fun u s2 v2 μ2 H2 st2 r2 e2 rel2 q2 => tD_bind r2 e2 q2 fun c s3 v3 μ3 H3 st3 r3 e3 rel3 q3 => by
    unfold rngUW at q3
    split at q3
    · rename_i i j
      split at q3
      · rename_i hj
        have rel1 : Fz H1 (Av B μ1 s1) v (.int i) := rel1
        have rel2 : Fz H2 (Av B μ2 s2) v2 (.int j) := rel2
        have rel3 : Fz H3 (Av B μ3 s3) v3 (.int (.negSucc 0)) := rel3
        cases rel1
        cases rel2
        cases rel3
        exact ⟨i, j, -1, (i - j).toNat, rfl, RgC.neg (by omega) (by omega) (by omega) (by omega), Fin.here (a := List D) q3 r3 itr_rngU⟩
      · exact q3.elim
    · exact q3.elim
end
/-! comparing what a cell holds, without giving it up -/
def peek (w : W) (s : CS) : Option D := match w with
  | .d x => some x
  | .c n => match s[n]? with
    | some (.lst ds) => some (.list ds)
    | _ => none
  | _ => none
def cmpP (g : D → D → Option D) (w u : W) (s : CS) : R W := match peek w s, peek u s with
  | some x, some y => match g x y with
    | some (.bool b) => .ok (.d (.bool b)) s
    | _ => .bad
  | _, _ => .bad
def fCmpP (g : D → D → Option D) (fa fb : En → CS → R W) (ρ : En) (s : CS) : R W := (fa ρ s).bind fun x s => (fb ρ s).bind fun y s => cmpP g x y s
section
variable [KFrag] {X : Cx} [HK X] {T : TX} {Wx : WXc} {a b : Expr} {fa fb : En → CS → R W} {g : D → D → Option D} {pos : Pos}
theorem peek_fz {B : Addr → Prop} {μ : List Addr} {s : CS} {H : Hp} {v : V} {w : W} {d : D} (r : SR B μ s H) (rel : RW B μ s H v w) (e : peek w s = some d) : Fz H (fun _ => False) v d := by
  unfold peek at e
  split at e
  · cases e
    exact Fz.mono (fun _ z => z.elim) (show Fz H (Av B μ s) v _ from rel)
  · rename_i n
    split at e
    · rename_i ds hs
      cases e
      obtain ⟨a, rfl, ha⟩ := (show ∃ a, v = .ref a ∧ μ[n]? = some a from rel)
      obtain ⟨xs, ea, fz⟩ := r.cell n a _ ha hs
      exact .lst ⟨ea, fun z => z.elim⟩ (fz.mono fun _ z => z.elim)
    · cases e
  · cases e
theorem cmpP_use {σ : L2.St} {H : Hp} {Q : VK} (h : tD T Wx (fCmpP g fa fb) σ H Q) : tOp (rD g) (tD T Wx fa) (tD T Wx fb) σ H Q := by
  obtain ⟨B, μ, s, ρ, r, e, q⟩ := h
  exact tD_bind r e q fun w s1 v μ1 H1 st1 r1 e1 rel1 q1 => tD_bind r1 e1 q1 fun u s2 x μ2 H2 st2 r2 e2 rel2 q2 => by
    replace rel1 := RW.stp st2 rel1
    unfold cmpP at q2
    split at q2
    · rename_i dx dy hx hy
      split at q2
      · rename_i z hz
        refine ⟨fun _ => False, dx, dy, .bool z, fun _ h => h.elim, peek_fz r2 rel1 hx, peek_fz r2 rel2 hy, hz, fun v H' k f => ?_⟩
        cases f
        exact Fin.use (a := W) (w := .d (.bool z)) q2 k r2 (Fz.bl z)
      · exact q2.elim
    · exact q2.elim
theorem de_cmpP {op : CmpOp} (ho : DOp X (compareOp op) g) (ha : DE X T Wx a fa) (hb : DE X T Wx b fb) (hm : behindInMarks op b = false := by first | exact nomark _ | rfl) : DE X T Wx (.Compare a [op] [b] pos) (fCmpP g fa fb) :=
  PE_imp (pe_cmpR ho ha hb hm) fun _ _ _ => cmpP_use
theorem dt_cmpP {op : CmpOp} (ho : DOp X (compareOp op) g) (ha : DE X T Wx a fa) (hb : DE X T Wx b fb) (hm : behindInMarks op b = false := by first | exact nomark _ | rfl) : DT X T Wx (.Compare a [op] [b] pos) (fB (fCmpP g fa fb)) :=
  PT_imp (pt_cmp ⟨fun pins s σ H Q I h => binT ha hb I (cmpP_use h) fun v u s2 x y H2 I2 rx ry q => ho pins s2 σ H2 x y v u Q I2 rx ry q⟩ hm) fun _ _ _ => tB_use
end
end DL
namespace DL
open PySem PySem.Spec PyProof.Rows L2
/-! dicts whose keys are whole numbers, whose values are cells -/
def lookR : List (D × Nat) → Int → Option Nat
  | [], _ => none
  | p :: r, i => if isI p.1 i = true then some p.2 else lookR r i
def anyR : List (D × Nat) → Int → Bool
  | [], _ => false
  | p :: r, i => if isI p.1 i = true then true else anyR r i
def setR : List (D × Nat) → Int → Nat → List (D × Nat)
  | [], _, _ => []
  | p :: r, i, y => (if isI p.1 i = true then (p.1, y) else p) :: setR r i y
def putR (ds : List (D × Nat)) (i : Int) (y : Nat) : List (D × Nat) := if anyR ds i = true then setR ds i y else ds ++ [(.int i, y)]
section
variable [KFrag] {μ : List Addr}
theorem IRs.len : ∀ {ks : List (Key × V)} {ds : List (D × Nat)}, IRs μ ks ds → ks.length = ds.length
  | _, _, .nil => rfl
  | _, _, .cons _ t => by rw [List.length_cons, List.length_cons, IRs.len t]
theorem IRs.look : ∀ {ks : List (Key × V)} {ds : List (D × Nat)} {i : Int} {n : Nat}, IRs μ ks ds → lookR ds i = some n → ∃ b, valV ks (.inl i) = some (.ref b) ∧ μ[n]? = some b
  | _, _, i, _, .nil, h => by cases h
  | _, _, i, m, .cons (i := a) (b := b) (n := n) (ks := ks) (ds := ds) f t, h => by
    by_cases e : a = i
    · have h1 : lookR ((.int a, n) :: ds) i = some n := by simp [lookR, isI_int, e]
      rw [h1] at h
      cases h
      exact ⟨b, valV_pos (key_int.mpr e), f⟩
    · have h1 : lookR ((.int a, n) :: ds) i = lookR ds i := by simp [lookR, isI_int, e]
      have h2 : valV ((Sum.inl a, V.ref b) :: ks) (.inl i) = valV ks (.inl i) := valV_neg (fun z => e (key_int.mp z))
      rw [h1] at h
      rw [h2]
      exact IRs.look t h
theorem IRs.any : ∀ {ks : List (Key × V)} {ds : List (D × Nat)} {i : Int}, IRs μ ks ds → (ks.any fun kv => decide (kv.1 = .inl i)) = anyR ds i
  | _, _, i, .nil => rfl
  | _, _, i, .cons (i := a) (b := b) (n := n) (ks := ks) (ds := ds) f t => by
    rw [List.any_cons, IRs.any t]
    by_cases e : a = i
    · simp [anyR, isI_int, e]
    · have : ¬ (Sum.inl a : Key) = .inl i := fun z => e (key_int.mp z)
      simp [anyR, isI_int, e, this]
theorem IRs.set {b : Addr} {n : Nat} (f : μ[n]? = some b) : ∀ {ks : List (Key × V)} {ds : List (D × Nat)} {i : Int}, IRs μ ks ds → IRs μ (ks.map fun kv => if kv.1 = .inl i then (kv.1, .ref b) else kv) (setR ds i n)
  | _, _, i, .nil => .nil
  | _, _, i, .cons (i := a) (b := b0) (n := n0) (ks := ks) (ds := ds) f0 t => by
    rw [List.map_cons]
    unfold setR
    by_cases e : a = i
    · have h1 : isI (.int a) i = true := by simp [isI_int, e]
      simp only [key_int, e, if_true, h1]
      subst e
      simp only [h1, if_true]
      exact .cons f (IRs.set f t)
    · have h1 : ¬ isI (.int a) i = true := by simp [isI_int, e]
      simp only [key_int, e, if_false, h1]
      exact .cons f0 (IRs.set f t)
theorem IRs.app : ∀ {ks : List (Key × V)} {ds : List (D × Nat)} {b : Addr} {n : Nat} {i : Int}, IRs μ ks ds → μ[n]? = some b → IRs μ (ks ++ [(.inl i, .ref b)]) (ds ++ [(.int i, n)])
  | _, _, _, _, _, .nil, f => .cons f .nil
  | _, _, _, _, _, .cons g t, f => .cons g (IRs.app t f)
theorem IRs.put {ks : List (Key × V)} {ds : List (D × Nat)} {b : Addr} {n : Nat} {i : Int} (h : IRs μ ks ds) (f : μ[n]? = some b) : IRs μ (putK ks (.inl i) (.ref b)) (putR ds i n) := by
  unfold putK putR
  rw [h.any]
  split
  · exact h.set f
  · exact h.app f
end
section
variable [KFrag] {X : Cx} [HK X] {T : TX} {Wx : WXc} {e e2 e3 tg : Expr} {f g fv : En → CS → R W} {fs : En → CS → R (List W)} {p p2 pos apos tpos : Pos}
/-! name += e -/
def augW (x u : W) (s : CS) : R W := match x, u with
  | .d (.int i), .d (.int j) => .ok (.d (.int (i + j))) s
  | _, _ => .bad
def gAug (i : Nat) (f : En → CS → R W) (ρ : En) (s : CS) : RT := match ρ[i]? with
  | some (some (.d (.int a))) => (f ρ s).toT ρ fun u s => match u with
    | .d (.int b) => .nx (ρ.set i (some (.d (.int (a + b))))) s
    | _ => .bad
  | _ => .bad
theorem ds_aug {i : Nat} {x : Str} (hN : X.N.Nodup) (hi : X.N[i]? = some x) (hx : Loc X.env.scope x) (h : DE X T Wx e f) (hf : X.fn x = true ∨ X.env.scope.names.lookup x = some .local := by first | exact .inl rfl | exact .inr rfl | assumption) :
    DS X T Wx (.AugAssign (.Name x p) .Add e pos) (gAug i f) := PS_imp (ps_aug hN hi hx h iop_add hf) fun D σ H ⟨B, μ, s, ρ, r, e, q⟩ => by
  unfold gAug at q
  split at q
  · rename_i a z
    obtain ⟨v, h1, h2⟩ := e.at_ i _ z
    have h2 : Fz H (Av B μ s) v (.int a) := h2
    cases h2
    refine ⟨_, h1, tD_bindT r e q fun u s1 y μ1 H1 st1 r1 e1 rel1 q1 => ?_⟩
    split at q1
    · rename_i b
      have rel1 : Fz H1 (Av B μ1 s1) y (.int b) := rel1
      cases rel1
      exact ⟨a, b, rfl, rfl, q1 _ μ1 H1 Stp.refl r1 (e1.set (show RW B μ1 s1 H1 (.int (a + b)) (.d (.int (a + b))) from Fz.int _) i)⟩
    · exact q1.elim
  · exact q.elim
/-! len of a cell -/
def lenW (ws : List W) (s : CS) : R W := match ws with
  | [.c n] => match s[n]? with
    | some (.lst ds) => .ok (.d (.int ds.length)) s
    | _ => .bad
  | [.d (.list ds)] => .ok (.d (.int ds.length)) s
  | [.d (.tuple ds)] => .ok (.d (.int ds.length)) s
  | [.sc ns] => .ok (.d (.int ns.length)) s
  | _ => .bad
def fLenA (fs : En → CS → R (List W)) (ρ : En) (s : CS) : R W := (fs ρ s).bind lenW
theorem de_lenA (hg : Gl X "len") (hm : X.mg "len" = none) (ha : DA X T Wx [e] fs)
    (he : starEach [e] X.env = (false, eval e X.env) :: starEach [] X.env := by rfl) (hpl : (backTo pos (starEach [] X.env)).any (·.1) = false := by rfl) : DE X T Wx (.Call (.Name "len" p) [e] [] pos) (fLenA fs) :=
  PE_imp (pe_callB call_len_seq hg hm PySem.boot_len ha (by decide) (by decide) he hpl) fun σ H Q ⟨B, μ, s, ρ, r, e, q⟩ => tD_bind r e q fun ws s1 vs μ1 H1 st1 r1 e1 rel1 q1 => by
    replace rel1 : RWs B μ1 s1 H1 vs ws := rel1
    unfold lenW at q1
    split at q1
    · rename_i n
      cases rel1 with
      | cons a1 a2 =>
      cases a2
      split at q1
      · rename_i ds hs
        obtain ⟨a, rfl, ha⟩ := a1
        obtain ⟨xs, ea, f⟩ := r1.cell n a _ ha hs
        exact ⟨a, xs, rfl, .inl (.of ea), Fin.here (a := W) q1 r1 (by rw [f.len]; exact Fz.int _)⟩
      · exact q1.elim
    · rename_i ds
      cases rel1 with
      | cons a1 a2 =>
      cases a2
      have a1 : Fz H1 (Av B μ1 s1) _ (.list ds) := a1
      cases a1 with
      | @lst a xs _ h1 f1 => exact ⟨a, xs, rfl, .inl h1.sq, Fin.here (a := W) q1 r1 (by rw [f1.len]; exact Fz.int _)⟩
    · rename_i ds
      cases rel1 with
      | cons a1 a2 =>
      cases a2
      have a1 : Fz H1 (Av B μ1 s1) _ (.tuple ds) := a1
      cases a1 with
      | @tup a xs _ h1 f1 => exact ⟨a, xs, rfl, .inr h1.sq, Fin.here (a := W) q1 r1 (by rw [f1.len]; exact Fz.int _)⟩
    · rename_i ns
      cases rel1 with
      | cons a1 a2 =>
      cases a2
      obtain ⟨a, rfl, h⟩ := a1
      refine ⟨a, ns.map V.int, rfl, .inl ?_, Fin.here (a := W) q1 r1 (by rw [List.length_map]; exact Fz.int _)⟩
      rcases h with ⟨o, e, _⟩ | ⟨o, its, n, h1, h2, h3, h4, h5, h6⟩
      · exact .inl (.inr ⟨o, e⟩)
      · exact .inr ⟨o, its, n, by rw [HK.eq (X := X)]; exact h1, h2, h3, h4, h5, h6⟩
    · exact q1.elim
/-! x.insert(i, y) -/
def insC (n : Nat) (j u : W) (s : CS) (ρ : En) : RT := match j, u with
  | .d (.int i), .d x => match s[n]? with
    | some (.lst ds) => if ds.length < line ∧ 0 ≤ i ∧ i < 2 ^ 62 then .nx ρ (s.set n (.lst (ds.take i.toNat ++ [x] ++ ds.drop i.toNat))) else .bad
    | _ => .bad
  | _, _ => .bad
def gInsC (f g h : En → CS → R W) (ρ : En) (s : CS) : RT := (f ρ s).toT ρ (onC fun n s => (g ρ s).toT ρ fun j s => (h ρ s).toT ρ fun u s => insC n j u s ρ)
theorem ds_ins {h : En → CS → R W} (ha : DE X T Wx e f) (hb : DE X T Wx e2 g) (hc : DE X T Wx e3 h) (hbase : attributeBase e "insert" X.env (eval e X.env) = eval e X.env := by rfl)
    (hfew : ((backTo p2 (starEach [e2, e3] X.env)).all (fun x => !x.1) && (backToKw p2 (keywordEach [] X.env)).all (fun x => x.1.isSome)
      && decide ([e2, e3].length + ([] : List Keyword).length + (if ([] : List Keyword).isEmpty then 0 else 1) < 30)) = true := by rfl)
    (hline : (apos.endLine == p2.line) = true := by rfl) (hs : starEach [e2, e3] X.env = (false, eval e2 X.env) :: starEach [e3] X.env := by rfl) (hs2 : starEach [e3] X.env = (false, eval e3 X.env) :: starEach [] X.env := by rfl) (hplain : (backTo p2 (starEach [e3] X.env)).any (·.1) = false := by rfl)
    (hsw : swapsWith (.Call (.Attribute e "insert" apos) [e2, e3] [] p2) none pos.line X.env = pure false := by rfl) :
    DS X T Wx (.Expr (.Call (.Attribute e "insert" apos) [e2, e3] [] p2) pos) (gInsC f g h) :=
  PS_imp (ps_expr (pe_bm PySem.F.plainAttrs_list PySem.F.slot_list_insert PySem.F.type_list_insert mt_insert ha (pa_cons hb (pa_cons hc pa_nil hs2) hs) hbase hfew hline hs hplain) hsw) fun D σ H ⟨B, μ, s, ρ, r, e, q⟩ =>
  tD_bindT r e q fun w s1 x μ1 H1 st1 r1 e1 rel1 q1 => by
    obtain ⟨n, a, xs, ev, ha, ea, q1⟩ := onC_use r1 rel1 q1
    subst ev
    refine ⟨.inl ⟨rfl, xs, .of ea⟩, ?_⟩
    exact tD_bindT r1 e1 q1 fun j s2 y μ2 H2 st2 r2 e2 rel2 q2 => tD_bindT r2 e2 q2 fun u s3 z μ3 H3 st3 r3 e3 rel3 q3 => by
      have ha3 : μ3[n]? = some a := by
        obtain ⟨t, rfl⟩ := (st2.trans st3).pre
        rw [List.getElem?_append_left (List.getElem?_eq_some_iff.mp ha).1]
        exact ha
      have rel2 := RW.stp st3 rel2
      unfold insC at q3
      split at q3
      · rename_i i x0 _
        split at q3
        · rename_i ds hs
          split at q3
          · rename_i hl
            obtain ⟨xs, ea, f⟩ := r3.cell n a _ ha3 hs
            have rel2 : Fz H3 (Av B μ3 s3) y (.int i) := rel2
            cases rel2
            obtain ⟨a1, a2⟩ := putC r3 ha3 hs (((f.take i.toNat).app (.cons rel3 .nil)).app (f.drop i.toNat))
            exact ⟨a, xs, i, z, rfl, rfl, ea, by rw [f.len, line_eq]; exact hl.1, hl.2.1, (by have := hl.2.2; omega), q3 σ _ _ a2 a1 (e3.stp a2)⟩
          · exact q3.elim
        · exact q3.elim
      · exact q3.elim
/-! whole numbers as keys: a new dict, d[k], d[k] = v -/
def dNewI1 (n : Nat) (u v : W) (s : CS) : R W := match u, v with
  | .d (.int i), .d x => match s[n]? with
    | some (.dct [(.none, .none)]) => .ok (.c n) (s.set n (.dct (mark :: [(.int i, x)])))
    | _ => .bad
  | _, _ => .bad
def fNewDI1 (f g : En → CS → R W) (ρ : En) (s : CS) : R W := (f ρ (s ++ [.dct [mark]])).bind fun u s1 => (g ρ s1).bind fun v s2 => dNewI1 s.length u v s2
theorem de_newDI1 (hf : DE X T Wx e f) (hg : DE X T Wx e2 g) : DE X T Wx (.Dict [some e] [e2] pos) (fNewDI1 f g) :=
  PE_imp (pe_disp (pps_cons hf hg pps_nil) rfl rfl (by simp) (by show 1 ≤ 15; decide)) fun σ H Q ⟨B, μ, s, ρ, r, er, q⟩ p hp => by
  obtain ⟨a, b⟩ := newCc (o := .dK []) (c := .dct [mark]) r hp fun H' A' k e => .inr ⟨[], [], rfl, e, .nil⟩
  have q : Fin T Wx B (μ ++ [p]) (s ++ [.dct [mark]]) (upd H p (.dK [])) σ Q ((f ρ (s ++ [.dct [mark]])).bind fun u s1 => (g ρ s1).bind fun v s2 => dNewI1 s.length u v s2) := Fin.stp b q
  have hm : (μ ++ [p])[s.length]? = some p := by rw [← r.len]; simp
  refine tD_bind a (er.stp b) q fun u s1 x μ1 H1 st1 r1 e1 rel1 q1 => tD_bind r1 e1 q1 fun v s2 y μ2 H2 st2 r2 e2 rel2 q2 => ?_
  unfold dNewI1 at q2
  split at q2
  · rename_i i z
    split at q2
    · rename_i hz
      have hm2 : μ2[s.length]? = some p := by
        obtain ⟨t, rfl⟩ := (st1.trans st2).pre
        rw [List.getElem?_append_left (List.getElem?_eq_some_iff.mp hm).1]
        exact hm
      obtain ⟨ks, ea, kp⟩ := CellOk.mk (r := []) (r2.cell _ p _ hm2 hz)
      cases kp
      have fx : Fz H2 (Av B μ2 s2) x (.int i) := RW.stp st2 rel1
      cases fx
      refine ⟨ea, [(.inl i, y)], rfl, by show 1 ≤ 15; decide, ?_⟩
      obtain ⟨a1, a2⟩ := putCc (o := .dK (L2.mergeK [] [(.inl i, y)])) (c1 := .dct (mark :: [(.int i, z)])) r2 hm2 hz (by simp) fun H' A' kk e => .inr ⟨_, _, rfl, e, (IKs.cons rel2 .nil).kp kk⟩
      exact q2 _ _ _ a2 a1 ⟨p, rfl, hm2⟩
    · exact q2.elim
  · exact q2.elim
def dGetI (w u : W) (s : CS) : R W := match dctI w s, u with
  | some ds, .d (.int i) => match lookI ds i with
    | some z => .ok (.d z) s
    | none => .bad
  | _, _ => .bad
def fDGetI (f g : En → CS → R W) (ρ : En) (s : CS) : R W := (f ρ s).bind fun w s => (g ρ s).bind fun u s => dGetI w u s
theorem de_dgetI (hu : X.A.units + 64 < cLine) (ha : DE X T Wx e f) (hb : DE X T Wx e2 g) (hs : NoSl e2 := by exact fun _ _ => rfl) : DE X T Wx (.Subscript e e2 pos) (fDGetI f g) :=
  PE_imp (pe_dget (by omega) ha hb hs) fun σ H Q ⟨B, μ, s, ρ, r, e, q⟩ => tD_bind r e q fun w s1 x μ1 H1 st1 r1 e1 rel1 q1 => tD_bind r1 e1 q1 fun u s2 y μ2 H2 st2 r2 e2 rel2 q2 => by
    have rel1 := RW.stp st2 rel1
    unfold dGetI at q2
    split at q2
    · rename_i ds i hd
      split at q2
      · rename_i z hz
        obtain ⟨a, ks, rfl, rd, k⟩ := dctI_rd r2 rel1 hd
        have ry : Fz H2 (Av B μ2 s2) y (.int i) := rel2
        cases ry
        rcases k.look (i := i) with ⟨h1, _⟩ | ⟨v, z', h1, h2, h3⟩
        · rw [h1] at hz; cases hz
        · rw [h1] at hz
          cases hz
          exact ⟨a, v, rfl, .inl ⟨ks, .inl i, rd, rfl, h2.symm⟩, Fin.here (a := W) q2 r2 h3⟩
      · exact q2.elim
    · exact q2.elim
def dPutI (v w u : W) (s : CS) (ρ : En) : RT := match v, w, u with
  | .d x, .c n, .d (.int i) => match s[n]? with
    | some (.dct (q :: ds)) => if isMk q = true ∧ ds.length < line then .nx ρ (s.set n (.dct (mark :: putI ds i x))) else .bad
    | _ => .bad
  | _, _, _ => .bad
def gDPutI (fv f g : En → CS → R W) (ρ : En) (s : CS) : RT := (fv ρ s).toT ρ fun v s => (f ρ s).toT ρ fun w s => (g ρ s).toT ρ fun u s => dPutI v w u s ρ
theorem ds_dputI (hu : X.A.units + 64 < cLine) (hv : DE X T Wx e3 fv) (ha : DE X T Wx e f) (hb : DE X T Wx e2 g) (hs : swapsWith e3 (some (.Subscript e e2 p2)) pos.line X.env = pure false := by rfl) : DS X T Wx (.Assign [.Subscript e e2 p2] e3 pos) (gDPutI fv f g) :=
  PS_imp (ps_dput (by omega) ha hb hv hs) fun D σ H ⟨B, μ, s, ρ, r, e, q⟩ =>
  tD_bindT r e q fun v s1 x μ1 H1 st1 r1 e1 rel1 q1 => tD_bindT r1 e1 q1 fun w s2 y μ2 H2 st2 r2 e2 rel2 q2 => tD_bindT r2 e2 q2 fun u s3 z μ3 H3 st3 r3 e3 rel3 q3 => by
    unfold dPutI at q3
    split at q3
    · rename_i x0 n i
      split at q3
      · rename_i qq ds hs
        split at q3
        · rename_i hk
          rw [isMk_is hk.1] at hs
          obtain ⟨a, ev, ha⟩ := RW.stp st3 rel2
          obtain ⟨ks, ea, kp⟩ := CellOk.mk (r3.cell n a _ ha hs)
          have rz : Fz H3 (Av B μ3 s3) z (.int i) := rel3
          cases rz
          obtain ⟨a1, a2⟩ := putCc (o := .dK (putK ks (.inl i) x)) (c1 := .dct (mark :: putI ds i x0)) r3 ha hs (by simp) fun H' A' kk e => .inr ⟨_, _, rfl, e, (kp.put (RW.stp (st2.trans st3) rel1)).kp kk⟩
          exact ⟨a, _, ev, .inl ⟨ks, .inl i, ea, rfl, by rw [kp.len, line_eq]; exact hk.2, rfl⟩, q3 σ _ _ a2 a1 (e3.stp a2)⟩
        · exact q3.elim
      · exact q3.elim
    · exact q3.elim
/-! .. whose values are cells -/
def dctR (w : W) (s : CS) : Option (List (D × Nat)) := match w with
  | .c n => match s[n]? with
    | some (.dcr ((.none, 0) :: r)) => some r
    | _ => none
  | _ => none
theorem KRs.nomark {μ : List Addr} {H : Hp} {A : Addr → Prop} {es : List (NestedKey × Addr × V)} {r : List (D × Nat)} (h : KRs μ H A es (markR :: r)) : False := by
  cases h with
  | cons e1 _ f _ _ => cases f
theorem CellOk.mkR {μ : List Addr} {H : Hp} {A : Addr → Prop} {a : Addr} {r : List (D × Nat)} (h : CellOk μ H A a (.dcr (markR :: r))) : ∃ ks, H a = some (.dK ks) ∧ IRs μ ks r := by
  rcases h with ⟨_, _, k⟩ | ⟨ks, r', e, q⟩
  · exact k.nomark.elim
  · cases e
    exact ⟨ks, q⟩
theorem dctR_rd {B : Addr → Prop} {μ : List Addr} {s : CS} {H : Hp} {x : V} {w : W} {ds : List (D × Nat)} (r : SR B μ s H) (h : RW B μ s H x w) (e : dctR w s = some ds) : ∃ n a ks, w = .c n ∧ s[n]? = some (.dcr (markR :: ds)) ∧ x = .ref a ∧ μ[n]? = some a ∧ H a = some (.dK ks) ∧ IRs μ ks ds := by
  unfold dctR at e
  split at e
  · rename_i n
    split at e
    · rename_i t z
      cases e
      obtain ⟨a, rfl, ha⟩ := h
      obtain ⟨ks, ea, k⟩ := CellOk.mkR (r.cell n a _ ha z)
      exact ⟨n, a, ks, rfl, z, rfl, ha, ea, k⟩
    · cases e
  · cases e
def dNewR1 (n : Nat) (u v : W) (s : CS) : R W := match u, v with
  | .d (.int i), .c m => match s[n]? with
    | some (.dcr [(.none, 0)]) => .ok (.c n) (s.set n (.dcr (markR :: [(.int i, m)])))
    | _ => .bad
  | _, _ => .bad
def fNewDR1 (f g : En → CS → R W) (ρ : En) (s : CS) : R W := (f ρ (s ++ [.dcr [markR]])).bind fun u s1 => (g ρ s1).bind fun v s2 => dNewR1 s.length u v s2
theorem de_newDR1 (hf : DE X T Wx e f) (hg : DE X T Wx e2 g) : DE X T Wx (.Dict [some e] [e2] pos) (fNewDR1 f g) :=
  PE_imp (pe_disp (pps_cons hf hg pps_nil) rfl rfl (by simp) (by show 1 ≤ 15; decide)) fun σ H Q ⟨B, μ, s, ρ, r, er, q⟩ p hp => by
  obtain ⟨a, b⟩ := newCc (o := .dK []) (c := .dcr [markR]) r hp fun H' A' k e => .inr ⟨[], [], rfl, e, .nil⟩
  have q : Fin T Wx B (μ ++ [p]) (s ++ [.dcr [markR]]) (upd H p (.dK [])) σ Q ((f ρ (s ++ [.dcr [markR]])).bind fun u s1 => (g ρ s1).bind fun v s2 => dNewR1 s.length u v s2) := Fin.stp b q
  have hm : (μ ++ [p])[s.length]? = some p := by rw [← r.len]; simp
  refine tD_bind a (er.stp b) q fun u s1 x μ1 H1 st1 r1 e1 rel1 q1 => tD_bind r1 e1 q1 fun v s2 y μ2 H2 st2 r2 e2 rel2 q2 => ?_
  unfold dNewR1 at q2
  split at q2
  · rename_i i m
    split at q2
    · rename_i hz
      have hm2 : μ2[s.length]? = some p := by
        obtain ⟨t, rfl⟩ := (st1.trans st2).pre
        rw [List.getElem?_append_left (List.getElem?_eq_some_iff.mp hm).1]
        exact hm
      obtain ⟨ks, ea, kp⟩ := CellOk.mkR (r := []) (r2.cell _ p _ hm2 hz)
      cases kp
      have fx : Fz H2 (Av B μ2 s2) x (.int i) := RW.stp st2 rel1
      cases fx
      obtain ⟨b, rfl, hb⟩ := rel2
      refine ⟨ea, [(.inl i, .ref b)], rfl, by show 1 ≤ 15; decide, ?_⟩
      obtain ⟨a1, a2⟩ := putCc (o := .dK (L2.mergeK [] [(.inl i, .ref b)])) (c1 := .dcr (markR :: [(.int i, m)])) r2 hm2 hz (by simp) fun H' A' kk e => .inr ⟨_, _, rfl, e, .cons hb .nil⟩
      exact q2 _ _ _ a2 a1 ⟨p, rfl, hm2⟩
    · exact q2.elim
  · exact q2.elim
def dGetR (w u : W) (s : CS) : R W := match dctR w s, u with
  | some ds, .d (.int i) => match lookR ds i with
    | some m => .ok (.c m) s
    | none => .bad
  | _, _ => .bad
def fDGetR (f g : En → CS → R W) (ρ : En) (s : CS) : R W := (f ρ s).bind fun w s => (g ρ s).bind fun u s => dGetR w u s
theorem de_dgetR (hu : X.A.units + 64 < cLine) (ha : DE X T Wx e f) (hb : DE X T Wx e2 g) (hs : NoSl e2 := by exact fun _ _ => rfl) : DE X T Wx (.Subscript e e2 pos) (fDGetR f g) :=
  PE_imp (pe_dget (by omega) ha hb hs) fun σ H Q ⟨B, μ, s, ρ, r, e, q⟩ => tD_bind r e q fun w s1 x μ1 H1 st1 r1 e1 rel1 q1 => tD_bind r1 e1 q1 fun u s2 y μ2 H2 st2 r2 e2 rel2 q2 => by
    have rel1 := RW.stp st2 rel1
    unfold dGetR at q2
    split at q2
    · rename_i ds i hd
      split at q2
      · rename_i m hz
        obtain ⟨n, a, ks, rfl, _, rfl, _, rd, k⟩ := dctR_rd r2 rel1 hd
        have ry : Fz H2 (Av B μ2 s2) y (.int i) := rel2
        cases ry
        obtain ⟨b, h1, h2⟩ := k.look hz
        exact ⟨a, .ref b, rfl, .inl ⟨ks, .inl i, .inl rd, rfl, h1.symm⟩, Fin.here (a := W) (w := .c m) q2 r2 ⟨b, rfl, h2⟩⟩
      · exact q2.elim
    · exact q2.elim
def dPutR (v w u : W) (s : CS) (ρ : En) : RT := match v, w, u with
  | .c m, .c n, .d (.int i) => match dctR (.c n) s with
    | some ds => if ds.length < line then .nx ρ (s.set n (.dcr (markR :: putR ds i m))) else .bad
    | _ => .bad
  | _, _, _ => .bad
def gDPutR (fv f g : En → CS → R W) (ρ : En) (s : CS) : RT := (fv ρ s).toT ρ fun v s => (f ρ s).toT ρ fun w s => (g ρ s).toT ρ fun u s => dPutR v w u s ρ
theorem ds_dputR (hu : X.A.units + 64 < cLine) (hv : DE X T Wx e3 fv) (ha : DE X T Wx e f) (hb : DE X T Wx e2 g) (hs : swapsWith e3 (some (.Subscript e e2 p2)) pos.line X.env = pure false := by rfl) : DS X T Wx (.Assign [.Subscript e e2 p2] e3 pos) (gDPutR fv f g) :=
  PS_imp (ps_dput (by omega) ha hb hv hs) fun D σ H ⟨B, μ, s, ρ, r, e, q⟩ =>
  tD_bindT r e q fun v s1 x μ1 H1 st1 r1 e1 rel1 q1 => tD_bindT r1 e1 q1 fun w s2 y μ2 H2 st2 r2 e2 rel2 q2 => tD_bindT r2 e2 q2 fun u s3 z μ3 H3 st3 r3 e3 rel3 q3 => by
    unfold dPutR at q3
    split at q3
    · rename_i m n i
      split at q3
      · rename_i ds hd
        split at q3
        · rename_i hk
          obtain ⟨n', a, ks, en, hs, rfl, ha, ea, kp⟩ := dctR_rd r3 (RW.stp st3 rel2) hd
          cases en
          have rz : Fz H3 (Av B μ3 s3) z (.int i) := rel3
          cases rz
          obtain ⟨b, rfl, hb⟩ := RW.stp (st2.trans st3) rel1
          obtain ⟨a1, a2⟩ := putCc (o := .dK (putK ks (.inl i) (.ref b))) (c1 := .dcr (markR :: putR ds i m)) r3 ha hs (by simp) fun H' A' kk e => .inr ⟨_, _, rfl, e, kp.put hb⟩
          exact ⟨a, _, rfl, .inl ⟨ks, .inl i, ea, rfl, by rw [kp.len, line_eq]; exact hk, rfl⟩, q3 σ _ _ a2 a1 (e3.stp a2)⟩
        · exact q3.elim
      · exact q3.elim
    · exact q3.elim
/-! a cell's list, copied: list(c); x.extend(c) -/
def cpyW (ws : List W) (s : CS) : R W := match ws with
  | [.c n] => match s[n]? with
    | some (.lst ds) => .ok (.c s.length) (s ++ [.lst ds])
    | _ => .bad
  | _ => .bad
def fCpyC (fs : En → CS → R (List W)) (ρ : En) (s : CS) : R W := (fs ρ s).bind cpyW
theorem de_cpyC (hg : Gl X "list") (hm : X.mg "list" = none) (ha : DA X T Wx [e] fs)
    (he : starEach [e] X.env = (false, eval e X.env) :: starEach [] X.env := by rfl) (hpl : (backTo pos (starEach [] X.env)).any (·.1) = false := by rfl) : DE X T Wx (.Call (.Name "list" p) [e] [] pos) (fCpyC fs) :=
  PE_imp (pe_callTy call_list_of hg hm PyProof.Rows.boot_list ha (by decide) (by decide) he hpl) fun σ H Q ⟨B, μ, s, ρ, r, e, q⟩ => tD_bind r e q fun ws s1 vs μ1 H1 st1 r1 e1 rel1 q1 => by
    replace rel1 : RWs B μ1 s1 H1 vs ws := rel1
    unfold cpyW at q1
    split at q1
    · rename_i n
      cases rel1 with
      | cons a1 a2 =>
      cases a2
      split at q1
      · rename_i ds hs
        obtain ⟨a, rfl, ha⟩ := a1
        obtain ⟨xs, ea, f⟩ := r1.cell n a _ ha hs
        refine ⟨a, xs, rfl, .inl (.of ea), fun p hp => ?_⟩
        obtain ⟨b1, b2⟩ := newC r1 hp f
        refine q1 _ _ _ b2 b1 ⟨p, rfl, ?_⟩
        rw [← r1.len]
        simp
      · exact q1.elim
    · exact q1.elim
def extA (n : Nat) (u : W) (s : CS) (ρ : En) : RT := match u with
  | .c m => match s[m]? with
    | some (.lst es) => match s[n]? with
      | some (.lst ds) => if ds.length + es.length ≤ line ∧ n ≠ m then .nx ρ (s.set n (.lst (ds ++ es))) else .bad
      | _ => .bad
    | _ => .bad
  | _ => .bad
def gExtA (f g : En → CS → R W) (ρ : En) (s : CS) : RT := (f ρ s).toT ρ (onC fun n s => (g ρ s).toT ρ fun u s => extA n u s ρ)
theorem ds_extA (ha : DE X T Wx e f) (hb : DE X T Wx e2 g) (hbase : attributeBase e "extend" X.env (eval e X.env) = eval e X.env := by rfl)
    (hfew : ((backTo p2 (starEach [e2] X.env)).all (fun x => !x.1) && (backToKw p2 (keywordEach [] X.env)).all (fun x => x.1.isSome)
      && decide ([e2].length + ([] : List Keyword).length + (if ([] : List Keyword).isEmpty then 0 else 1) < 30)) = true := by rfl)
    (hline : (apos.endLine == p2.line) = true := by rfl) (hs : starEach [e2] X.env = (false, eval e2 X.env) :: starEach [] X.env := by rfl) (hplain : (backTo p2 (starEach [] X.env)).any (·.1) = false := by rfl)
    (hsw : swapsWith (.Call (.Attribute e "extend" apos) [e2] [] p2) none pos.line X.env = pure false := by rfl) :
    DS X T Wx (.Expr (.Call (.Attribute e "extend" apos) [e2] [] p2) pos) (gExtA f g) :=
  ds_meth (kk := extA) PySem.F.slot_list_extend PySem.F.type_list_extend mt_extend (fun B μ s H σ ρ D n a w v r er ha rel q => by
    unfold extA at q
    split at q
    · rename_i m
      split at q
      · rename_i es hm
        split at q
        · rename_i ds hs
          split at q
          · rename_i hl
            obtain ⟨xs, ea, f⟩ := r.cell n a _ ha hs
            obtain ⟨b, rfl, hb⟩ := rel
            obtain ⟨zs, eb, f1⟩ := r.cell m b _ hb hm
            obtain ⟨a1, a2⟩ := putC r ha hs (f.app f1)
            exact ⟨a, b, xs, zs, rfl, rfl, ea, eb, by rw [f.len, f1.len, line_eq]; exact hl.1, q σ _ _ a2 a1 (er.stp a2)⟩
          · exact q.elim
        · exact q.elim
      · exact q.elim
    · exact q.elim) ha hb hbase hfew hline hs hplain hsw
/-! [x] * n, changed from now on -/
def repC (w u : W) (s : CS) : R W := match w, u with
  | .d (.list a), .d (.int k) => if -(2 ^ 62) ≤ k ∧ k < 2 ^ 62 ∧ a.length * k.toNat ≤ line then .ok (.c s.length) (s ++ [.lst (List.replicate k.toNat a).flatten]) else .bad
  | _, _ => .bad
def fRepC (fa fb : En → CS → R W) (ρ : En) (s : CS) : R W := (fa ρ s).bind fun x s => (fb ρ s).bind fun y s => repC x y s
theorem de_repC {a b : Expr} {fa fb : En → CS → R W} (ha : DE X T Wx a fa) (hb : DE X T Wx b fb) : DE X T Wx (.BinOp a .Mult b pos) (fRepC fa fb) := PE_imp (pe_op op_rep ha hb) fun σ H Q ⟨B, μ, s, ρ, r, e, q⟩ =>
  tD_bind r e q fun w s1 v μ1 H1 st1 r1 e1 rel1 q1 => tD_bind r1 e1 q1 fun u s2 v2 μ2 H2 st2 r2 e2 rel2 q2 => by
    unfold repC at q2
    split at q2
    · split at q2
      · rename_i k hl
        have ra : Fz H2 (Av B μ2 s2) v (.list _) := Rp.stp (a := W) (b := V) st2 rel1
        have rb : Fz H2 (Av B μ2 s2) v2 (.int _) := rel2
        cases rb
        cases ra with
        | @lst p1 xs _ h1 f1 =>
          refine ⟨p1, _, xs, rfl, rfl, h1.1, Int.le_trans (by decide) hl.1, Int.lt_trans hl.2.1 (by decide), by rw [f1.len, line_eq]; exact hl.2.2, fun p hp => ?_⟩
          obtain ⟨b1, b2⟩ := newC r2 hp (Fzs.rep f1 _)
          refine q2 _ _ _ b2 b1 ⟨p, rfl, ?_⟩
          rw [← r2.len]
          simp
      · exact q2.elim
    · exact q2.elim
end
/-! ### a comprehension over enumerate(c), c a cell that it does not change -/
structure LvN where
  n : Nat
section
variable [KFrag]
instance : Rp LvN It := ⟨fun _ μ _ _ J x => ∃ a, μ[x.n]? = some a ∧ J = Ite KFrag.K a, fun a h => by
  obtain ⟨b, h1, h2⟩ := h
  obtain ⟨t, rfl⟩ := a.pre
  exact ⟨b, by rw [List.getElem?_append_left (List.getElem?_eq_some_iff.mp h1).1]; exact h1, h2⟩⟩
open Classical in
noncomputable def compA (n : Nat) (ds : List D) (h : W → En → Option En) (tt : En → CS → R Bool) (f : En → CS → R W) (ρ : En) : List D → CS → R (List D)
  | [], s => if s[n]? = some (.lst ds) then .ok [] s else .bad
  | x :: r, s => if s[n]? = some (.lst ds) then (match h (.d x) ρ with
    | none => .bad
    | some ρ1 => (tt ρ1 s).bind0 fun b s => if b = true then (f ρ1 s).bind0 fun w s => consR w (fun s => compA n ds h tt f ρ r s) s else compA n ds h tt f ρ r s) else .bad
noncomputable def fLcA (vs : List Nat) (fi : En → CS → R LvN) (h : W → En → Option En) (tt : En → CS → R Bool) (f : En → CS → R W) (ρ : En) (s : CS) : R W :=
  (fi ρ s).bind fun x s => match s[x.n]? with
    | some (.lst ds) => if ds.length ≤ line then endL [] (compA x.n ds h tt f (wipeE ρ vs) (enuD 0 ds) s) else .bad
    | _ => .bad
def lvW : List W → CS → R LvN
  | [.c n], s => match s[n]? with
    | some (.lst _) => .ok ⟨n⟩ s
    | _ => .bad
  | _, _ => .bad
def fEnuA (fs : En → CS → R (List W)) (ρ : En) (s : CS) : R LvN := (fs ρ s).bind lvW
section
variable {X : Cx} [HK X] {T : TX} {Wx : WXc} {e : Expr} {fs : En → CS → R (List W)} {p pos tpos : Pos} {elts : List Expr} {kk : Nat}
theorem di_enuA (hg : Gl X "enumerate") (hm : X.mg "enumerate" = none) (ha : DA X T Wx [e] fs) (hs : starEach [e] X.env = [(false, eval e X.env)] := by rfl) : PI X (.Tuple elts kk tpos) (.Call (.Name "enumerate" p) [e] [] pos) (tD T Wx (fEnuA fs)) :=
  PI_imp (pi_en hg hm ha hs) fun σ H Q ⟨B, μ, s, ρ, r, e, q⟩ => tD_bind r e q fun w s1 v μ1 H1 st1 r1 e1 rel1 q1 => by
    have rel1 : RWs B μ1 s1 H1 v w := rel1
    unfold lvW at q1
    split at q1
    · rename_i n
      cases rel1 with
      | cons g t =>
        cases t
        split at q1
        · rename_i ds hs
          obtain ⟨a, rfl, ha⟩ := g
          obtain ⟨xs, ea, f⟩ := r1.cell _ a _ ha hs
          have eK : X.K = KFrag.K := HK.eq
          exact ⟨a, xs, rfl, .inl ⟨.of ea, Fin.here (a := LvN) q1 r1 ⟨a, ha, by rw [eK]⟩⟩⟩
        · exact q1.elim
    · exact q1.elim
end
section
variable {X : Cx} [HK X] {T : TX} {Wx : WXc} {elt tg iter : Expr} {ifs : List Expr} {scope : Scope} {own : List (Str × Nat)} {pos : Pos} {fi : En → CS → R LvN} {is : List Nat} {h : W → En → Option En} {tt : En → CS → R Bool} {f : En → CS → R W}
theorem compA_cell {B : Addr → Prop} {μ : List Addr} {s s' : CS} {H : Hp} {σ : L2.St} {Q : VK} {ρ : En} {n : Nat} {ds l : List D} {ys : List D} (q : Fin T Wx B μ s H σ Q (endL ys (compA n ds h tt f ρ l s'))) : s'[n]? = some (.lst ds) := by
  cases l with
  | nil =>
    unfold compA at q
    split at q
    · assumption
    · exact q.elim
  | cons x r =>
    unfold compA at q
    split at q
    · assumption
    · exact q.elim
theorem tLcA_use {σ : L2.St} {H : Hp} {Q : VK} (hsub : ∀ i ∈ is, i ∈ own.map (·.2)) (q : tD T Wx (fLcA (own.map (·.2)) fi h tt f) σ H Q) : tLc (tD T Wx fi) (tG is h) (tD T Wx0 tt) (tD T Wx0 f) (own.map (·.2)) σ H Q := by
  obtain ⟨B, μ, s, ρ, r, e, q⟩ := q
  refine tD_bind r e q fun x s1 J μ1 H1 st1 r1 e1 rel1 q1 D hD => ?_
  obtain ⟨n⟩ := x
  obtain ⟨a, ha, rfl⟩ := rel1
  have ha : μ1[n]? = some a := ha
  split at q1
  · rename_i ds hds
    split at q1
    · rename_i hlen
      have at' : ∀ {μ' : List Addr} {s' : CS} {H' : Hp} {ys l : List PyData}, Mk1 B μ1 s1 H1 D μ' s' H' ys → Fin T Wx B μ1 s1 H1 σ Q (endL ys (compA n ds h tt f (wipeE ρ (own.map (·.2))) l s')) → ∃ xs, H' a = some (.lst xs) ∧ Fzs H' (Av (And1 B D) μ' s') xs ds := by
        intro μ' s' H' ys l m fq
        obtain ⟨t, rfl⟩ := m.st.pre
        have ha' : (μ1 ++ t)[n]? = some a := by rw [List.getElem?_append_left (List.getElem?_eq_some_iff.mp ha).1]; exact ha
        exact m.sr.cell n a _ ha' (compA_cell fq)
      have wk : Walk (Ite KFrag.K a) ds.length (fun H => ∃ xs, SqL KFrag.K H a xs ∧ xs.length = ds.length) (fun i H v H' => ∃ T x, v = .ref T ∧ H T = none ∧ H' = upd H T (.tup [.int (i : Nat), x]) ∧ ∀ xs, SqL KFrag.K H a xs → xs[i]? = some x) := by
        refine ⟨fun i H hi q => ?_, fun H q => ?_, fun i H x H' hi q y => y⟩
        · obtain ⟨xs, h1, h2⟩ := q
          have : i < xs.length := by omega
          exact ⟨xs, xs[i], h1, by simp [this]⟩
        · obtain ⟨xs, h1, h2⟩ := q
          exact ⟨xs, h1, by omega⟩
      refine lc_it wk (fun i H' => ∃ μ' s' ys, Mk1 B μ1 s1 H1 D μ' s' H' ys ∧ ys.length ≤ i ∧ Fin T Wx B μ1 s1 H1 σ Q (endL ys (compA n ds h tt f (wipeE ρ (own.map (·.2))) ((enuD 0 ds).drop i) s'))) ⟨μ1, s1, [], Mk1.start r1 hD, Nat.le_refl _, q1⟩ (fun i H' hi z => ?_) (fun i x H' H'' hi z y => ?_) (fun H' z => ?_)
      · obtain ⟨μ', s', ys, m, _, fq⟩ := z
        obtain ⟨xs, h1, h2⟩ := at' m fq
        exact ⟨xs, .of h1, h2.len⟩
      · obtain ⟨μ', s', ys, m, hys, fq⟩ := z
        obtain ⟨xs, h1, h2⟩ := at' m fq
        have hcell := compA_cell fq
        obtain ⟨Tt, x0, rfl, hT, rfl, y⟩ := y
        obtain ⟨d0, e3, e4⟩ := h2.getV (y xs (.of h1))
        have ed : (enuD 0 ds)[i]? = some (.tuple [.int ((i : Nat) : Int), d0]) := by
          have := enuD_at (i := i) (n := 0) e3
          rw [Nat.zero_add] at this
          exact this
        have sm : Same H' (upd H' Tt (.tup [.int (i : Nat), x0])) := same_upd hT
        have ec : (enuD 0 ds).drop i = (.tuple [.int ((i : Nat) : Int), d0]) :: (enuD 0 ds).drop (i + 1) := by
          obtain ⟨hl, e⟩ := List.getElem?_eq_some_iff.mp ed
          rw [← e]
          exact List.drop_eq_getElem_cons hl
        rw [ec] at fq
        unfold compA at fq
        rw [if_pos hcell] at fq
        have m2 : Mk1 B μ1 s1 H1 D μ' s' (upd H' Tt (.tup [.int (i : Nat), x0])) ys := m.step (Stp.same sm) (m.sr.same sm)
        have fd : Fz (upd H' Tt (.tup [.int (i : Nat), x0])) (Av (And1 B D) μ' s') (.ref Tt) (.tuple [.int ((i : Nat) : Int), d0]) := Fz.newT m.sr.bt' hT (.cons (.int _) (.cons e4 .nil))
        have er : ER (And1 B D) μ' s' (upd H' Tt (.tup [.int (i : Nat), x0])) (wipe σ (own.map (·.2))) (wipeE ρ (own.map (·.2))) := (e1.kpB m2.st (m2.kp hD)).wipe _
        cases z1 : h (.d (.tuple [.int ((i : Nat) : Int), d0])) (wipeE ρ (own.map (·.2))) with
        | none => simp only [z1] at fq; exact fq.elim
        | some ρ1 =>
          simp only [z1] at fq
          refine ⟨_, μ', s', _, .d _, ρ1, m2.sr, er, fd, z1, fun σ2 e2 l2 a2 => ⟨?_, ?_⟩⟩
          · rw [wipe_eq l2 a2 hsub, wipe_wipe]
          · rw [endL_bind] at fq
            refine tD_bind0 m2.sr e2 fq fun b s3 v3 μ3 H3 st3 r3 e3 rel3 q3 => ?_
            cases rel3
            have m3 := m2.step st3 r3
            rw [endL_ite] at q3
            cases b with
            | false =>
              rw [if_neg Bool.false_ne_true] at q3 ⊢
              exact ⟨μ3, s3, ys, m3, by omega, q3⟩
            | true =>
              rw [if_pos rfl] at q3 ⊢
              rw [endL_bind] at q3
              refine tD_bind0 r3 e3 q3 fun w4 s4 v4 μ4 H4 st4 r4 e4 rel4 q4 => ?_
              have m4 := m3.step st4 r4
              cases w4 with
              | c n => exact q4.elim
              | sc n => exact q4.elim
              | fd n => exact q4.elim
              | rg n m => exact q4.elim
              | d y =>
                rw [endL_cons] at q4
                obtain ⟨acc, ea, hacc, m5⟩ := m4.push hD rel4 (by omega)
                exact ⟨acc, ea, hacc, μ4, s4, ys ++ [y], m5, by simp; omega, q4⟩
      · obtain ⟨μ', s', ys, m, hys, fq⟩ := z
        have el : (enuD 0 ds).drop ds.length = [] := by
          rw [List.drop_eq_nil_iff, enuD_len]
          exact Nat.le_refl _
        rw [el] at fq
        unfold compA at fq
        split at fq
        · have fq : Fin (a := W) T Wx B μ1 s1 H1 σ Q (.ok (.d (.list (ys ++ []))) s') := fq
          rw [List.append_nil] at fq
          exact m.done r1 hD fq
        · exact fq.elim
    · exact q1.elim
  · exact q1.elim
theorem de_lcA (hc : X.calm = true) (hN : X.N.Nodup) (hi : PI X tg iter (tD T Wx fi)) (ok : BlkOk X.N X.env.scope scope own) (hsub : ∀ i ∈ is, i ∈ own.map (·.2))
    (hg : ∀ (s : Shared) (H : Hp) (C : Addr) (cl : List (Str × Addr)) (fp : List Addr), DG (X.blk s H scope (compEnvC scope cl C X.env) fp) tg is h) (ht : ∀ (s : Shared) (H : Hp) (C : Addr) (cl : List (Str × Addr)) (fp : List Addr), PTs (X.blk s H scope (compEnvC scope cl C X.env) fp) ifs (tD T Wx0 tt))
    (he : ∀ (s : Shared) (H : Hp) (C : Addr) (cl : List (Str × Addr)) (fp : List Addr), DE (X.blk s H scope (compEnvC scope cl C X.env) fp) T Wx0 elt f) (hs : ∀ x, foldedSetIterable iter X.env x = pure x := by intro _; rfl) :
    DE X T Wx (.ListComp elt [⟨tg, iter, ifs, 0⟩] scope pos) (fLcA (own.map (·.2)) fi h tt f) := PE_imp (pe_lc hc hN hi ok hg ht he hs) fun σ H Q => tLcA_use hsub
theorem ds_setLcA {i : Nat} {y : Str} {py spos : Pos} (hc : X.calm = true) (hN' : X.N.Nodup) (hy : X.N[i]? = some y) (hyl : X.env.scope.names.lookup y = some .local)
    (hsw : swapsWith (.ListComp elt [⟨tg, iter, ifs, 0⟩] scope pos) (some (.Name y py)) spos.line X.env = pure true) (hi : PI X tg iter (tD T Wx fi)) (ok : BlkOk X.N X.env.scope scope own) (hsub : ∀ i ∈ is, i ∈ own.map (·.2))
    (hg : ∀ (s : Shared) (H : Hp) (C : Addr) (cl : List (Str × Addr)) (fp : List Addr), DG (X.blk s H scope (compEnvC scope cl C X.env) fp) tg is h) (ht : ∀ (s : Shared) (H : Hp) (C : Addr) (cl : List (Str × Addr)) (fp : List Addr), PTs (X.blk s H scope (compEnvC scope cl C X.env) fp) ifs (tD T Wx0 tt))
    (he : ∀ (s : Shared) (H : Hp) (C : Addr) (cl : List (Str × Addr)) (fp : List Addr), DE (X.blk s H scope (compEnvC scope cl C X.env) fp) T Wx0 elt f) (hs : ∀ x, foldedSetIterable iter X.env x = pure x := by intro _; rfl) :
    DS X T Wx (.Assign [.Name y py] (.ListComp elt [⟨tg, iter, ifs, 0⟩] scope pos) spos) (gAsg (hN i) (fLcA (own.map (·.2)) fi h tt f)) := PS_imp (ps_setLc hc hN' hy hyl hsw hi ok hg ht he hs) fun D σ H q => by
  have hx : ∀ (t : TE), (∀ σ H Q, tD T Wx (fLcA (own.map (·.2)) fi h tt f) σ H Q → t σ H Q) → tAsg t (gName i) D σ H := fun t k => by
    obtain ⟨B, μ, s, ρ, r, e, q⟩ := q
    exact k σ H _ (tD_bindT r e q fun w s1 v μ1 H1 st1 r1 e1 rel1 q1 => q1 _ μ1 H1 Stp.refl r1 (e1.set rel1 i))
  exact hx _ fun σ H Q z => tLcA_use hsub z
end
end
/-! ### sorted of a tuple -/
section
variable [KFrag] {X : Cx} [HK X]
def rSortT : List V → Hp → VK → Prop := fun vs H Q => ∃ A a xs ds es, vs = [.ref a] ∧ SqT X.K H a xs ∧ Fzs H A xs ds ∧ srtD ds = some es ∧ ∀ ys p, Fzs H A ys es → H p = none → Q (.ref p) (upd H p (.lst ys))
theorem cr_sortT (hu : X.A.units + 64 < cLine) : CallR X (.builtin "sorted") (rSortT (X := X)) := by
  rintro pins s σ H vs us Q I rv ⟨A, a, xs, ds, es, rfl, hq, fz, h, q⟩
  cases rv with
  | cons r1 r2 =>
  cases r2
  cases (show _ = Value.ref a from r1)
  obtain ⟨its, vr, ⟨o, ho, hc, n, hd⟩, hl⟩ := I.tuple hq
  have hsz : its.length = xs.length := vr.length.symm
  obtain ⟨_, ok⟩ := srt_merge h
  obtain ⟨f1, f2, f3⟩ := srt_facts ok
  refine Calls.call_function_entry PyProof.Rows.kind_sorted PyProof.Rows.plain_sorted PyProof.Rows.entry_sorted (PyProof.Rows.args_sorted1 _) ?_
  unfold Builtin.«sorted»
  refine wpAny_bind (m := checkCount "sorted" 1 1 _) (wpAny_pure ?_)
  refine wpAny_bind (wpAny_collect_seq (A := X.A.in1) a (.inr rfl) ho hc hd (fun h' hk => ?_) (by rw [List.size_toArray, hsz]; exact hl))
  have I1 : Inv X pins σ H { s with heap := h' } := I.kept (t' := s.toks) hk
  refine wpAny_bind (wpAny_newList ?_ (by show its.length ≤ _; rw [hsz]; exact hl))
  show wpAny _ _ _ _ _ { s with heap := h'.push (seqObj "list" its.toArray 0) }
  have hoL : (h'.push (seqObj "list" its.toArray 0)).get? h'.objs.size = some (seqObj "list" its.toArray 0) := Heap.get?_push_size _ rfl
  have I2 : Inv X pins σ H { s with heap := h'.push (seqObj "list" its.toArray 0) } := I1.kept (t' := s.toks) fun b u z => Heap.get?_push_of_some _ z
  have el := each_of fz vr
  have ez := zip_snd fz
  have bl : (xs.zip ds).length = xs.length := by rw [List.length_zip, fz.len]; omega
  refine wpAny_bind (wpAny_holding (PySem.W.list_sort_data (R := RVD H A) (enc := (·.2)) (vs := its) (bs := xs.zip ds) hoL el (each_readsN I2 el (zip_all f1)) (by rw [ez]; exact fun d hd d' hd' => sh_alike _ _ (f2 d hd d' hd')) (by rw [ez]; exact f3) (by rw [bl]; exact hl)
    (fun b hb => by
      have := pl_depth 8 _ (zip_all f1 b hb)
      show X.A.units + 1 + 1 + _ < cLine
      omega) fun out ho1 ho2 => ?_))
  obtain ⟨ys, y1, y2⟩ := srt_out fz h ho2
  obtain ⟨c, he'⟩ := PyProof.Rows.sortedHeap_at (vs := its) (out := List.toArray out) hoL
  refine wpAny_pure ⟨_, rfl, .ref h'.objs.size, upd H h'.objs.size (.lst ys), I1.laid (t' := s.toks) (fun b u z => ?_) (Nat.le_refl _) ⟨?_, out, c, y1, he'⟩, rfl, q ys _ y2 (I1.hok.fresh (Nat.le_refl _))⟩
  · have hb : b < h'.objs.size := Heap.lt_size z
    rw [PyProof.Rows.sortedHeap_old (Nat.ne_of_lt hb) (by rw [size_push']; exact Nat.lt_succ_of_lt hb)]
    exact Heap.get?_push_of_some _ z
  · rw [y1.length, ho1, bl]
    exact hl
def srtWT (ws : List W) (s : CS) : R W := match ws with
  | [.d (.tuple ds)] => match srtD ds with
    | some es => .ok (.d (.list es)) s
    | none => .bad
  | _ => .bad
def fSrtT (fs : En → CS → R (List W)) (ρ : En) (s : CS) : R W := (fs ρ s).bind srtWT
theorem de_srtT {T : TX} {Wx : WXc} {e : Expr} {fs : En → CS → R (List W)} {p pos : Pos} (hu : X.A.units + 64 < cLine) (hg : Gl X "sorted") (hm : X.mg "sorted" = none) (hv : bootBuiltins "sorted" = some (.builtin "sorted")) (ha : DA X T Wx [e] fs)
    (he : starEach [e] X.env = (false, eval e X.env) :: starEach [] X.env := by rfl) (hpl : (backTo pos (starEach [] X.env)).any (·.1) = false := by rfl) : DE X T Wx (.Call (.Name "sorted" p) [e] [] pos) (fSrtT fs) :=
  PE_imp (pe_callB (cr_sortT hu) hg hm hv ha (by decide) (by decide) he hpl) fun σ H Q ⟨B, μ, s, ρ, r, e, q⟩ => tD_bind r e q fun ws s1 vs μ1 H1 st1 r1 e1 rel1 q1 => by
    replace rel1 : RWs B μ1 s1 H1 vs ws := rel1
    unfold srtWT at q1
    split at q1
    · rename_i ds
      cases rel1 with
      | cons a1 a2 =>
      cases a2
      split at q1
      · rename_i es hs
        replace a1 : Fz H1 (Av B μ1 s1) _ (.tuple ds) := a1
        cases a1 with
        | tup h1 f1 =>
        exact ⟨Av B μ1 s1, _, _, ds, es, rfl, h1.sq, f1, hs, fun ys p fy hp => Fin.use (a := W) (w := .d (.list es)) q1 (same_upd hp) r1 (Fz.newL r1.bt' hp fy)⟩
      · exact q1.elim
    · exact q1.elim
end
/-! ### keys that are whole numbers are walked; two tests -/
section
variable [KFrag] {X : Cx} [HK X] {T : TX} {Wx : WXc} {e tg : Expr} {f : En → CS → R W}
def keysIW : W → CS → R (List D)
  | .fd (p :: r), s => if isMk p = true then .ok (r.map (·.1)) s else .bad
  | _, _ => .bad
def fItKI (f : En → CS → R W) (ρ : En) (s : CS) : R (List D) := (f ρ s).bind keysIW
theorem IKs.getK {H : Hp} {A : Addr → Prop} : ∀ {ks : List (Key × V)} {ds : List (D × D)} {i : Nat} {k : Key} {v : V}, IKs H A ks ds → ks[i]? = some (k, v) → ∃ y, ds[i]? = some y ∧ Fz H A (kV k) y.1
  | _, _, _, _, _, .nil, e => by simp at e
  | _, _, 0, k, v, .cons f t, e => by
    simp at e
    obtain ⟨rfl, rfl⟩ := e
    exact ⟨_, rfl, .int _⟩
  | _, _, i + 1, k, v, .cons f t, e => by
    obtain ⟨y, h1, h2⟩ := IKs.getK (i := i) (k := k) (v := v) t (by simpa using e)
    exact ⟨y, by simpa using h1, h2⟩
theorem di_keysI (h : DE X T Wx e f) : DI X T Wx tg e (fItKI f) := PI_imp (pi_keys h) fun σ H Q ⟨B, μ, s, ρ, r, e, q⟩ =>
  tD_bind r e q fun w s1 v μ1 H1 st1 r1 e1 rel1 q1 => by
    unfold keysIW at q1
    split at q1
    · rename_i p ds
      split at q1
      case isFalse => exact q1.elim
      rename_i hm
      rw [isMk_is hm] at rel1
      obtain ⟨a, o, ks, rfl, ea, na, kp⟩ := FD.mk rel1
      refine ⟨a, o, rfl, .inl ⟨ks, ea, Fin.here (a := List D) q1 r1 ⟨fun H => H a = some (.frz o (.dK ks)), fun i H x H' => H' = H ∧ ∃ k v, ks[i]? = some (k, v) ∧ x = kV k, ?_, fun H' A' k bt => ?_, fun i H' A' v H'' k bt hi y => ?_⟩⟩⟩
      · rw [List.length_map, ← kp.len]; exact walk_keys
      · exact k.keep _ _ ea na
      · obtain ⟨rfl, kk, vv, ee, rfl⟩ := y
        obtain ⟨d, d1, d2⟩ := (kp.kp k).getK ee
        exact ⟨Same.refl _, d.1, by rw [List.getElem?_map, d1]; rfl, d2⟩
    · exact q1.elim
theorem pts_two {c d : Expr} {t u : TT} (h : PT X c t) (k : PT X d u) : PTs X [c, d] (fun σ H Q => t σ H fun b H1 => if b = true then u σ H1 Q else Q false H1) := ⟨fun pins s σ H Q I hw => by
  simp only [List.forIn_cons, List.forIn_nil, if_true]
  refine wpAny_bind (wpAny_bind (wpAny_mono (h.run pins s σ H _ I hw) (fun b s' hb => ?_) fun _ _ x => x))
  obtain ⟨H1, I1, q⟩ := hb
  refine wpAny_pure ?_
  cases b with
  | false =>
    rw [if_neg Bool.false_ne_true] at q
    exact wpAny_bind (wpAny_pure (wpAny_pure ⟨H1, I1, q⟩))
  | true =>
    rw [if_pos rfl] at q
    exact wpAny_bind (wpAny_bind (wpAny_mono (k.run pins s' σ H1 _ I1 q) (fun b s' hb => wpAny_pure (wpAny_pure hb)) fun _ _ x => x))⟩
theorem dts_two {c d : Expr} {t u : En → CS → R Bool} (h : DT X T Wx c t) (k : DT X T Wx d u) : PTs X [c, d] (tD T Wx (fAnd t u)) := PTs_imp (pts_two h k) fun σ H Q ⟨B, μ, s, ρ, r, e, q⟩ => by
  refine tD_bind r e q fun b s1 v μ1 H1 st1 r1 e1 rel1 q1 => ?_
  cases rel1
  cases b with
  | false =>
    rw [if_neg Bool.false_ne_true] at q1 ⊢
    exact Fin.here (a := Bool) q1 r1 rfl
  | true =>
    rw [if_pos rfl] at q1 ⊢
    exact ⟨B, μ1, s1, ρ, r1, e1, q1⟩
end
/-! ### a part of a list that lives -/
section
variable [KFrag] {X : Cx} [HK X] {T : TX} {Wx : WXc} {e : Expr} {f : En → CS → R W} {gl gh : fO} {lo hi : Option Expr} {pos p2 : Pos}
def slC (w : W) (l u : Option Int) (s : CS) : R W := match w with
  | .c n => match s[n]? with
    | some (.lst ds) => .ok (.d (.list (cutD ds l u))) s
    | _ => .bad
  | _ => .bad
def fSlA (f : En → CS → R W) (lo hi : fO) (ρ : En) (s : CS) : R W := (f ρ s).bind fun x s => (lo ρ s).bind fun l s => (hi ρ s).bind fun h s => slC x l h s
theorem de_slA (h : DE X T Wx e f) (hl : DO X T Wx lo gl) (hu : DO X T Wx hi gh) : DE X T Wx (.Subscript e (.Slice lo hi none p2) pos) (fSlA f gl gh) :=
  PE_imp (pe_slice (sl_tupA.or sl_list) h hl hu) fun σ H Q ⟨B, μ, s, ρ, r, e, q⟩ =>
  tD_bind r e q fun w s1 v μ1 H1 st1 r1 e1 rel1 q1 => tD_bind r1 e1 q1 fun l s2 vl μ2 H2 st2 r2 e2 rel2 q2 => tD_bind r2 e2 q2 fun u s3 vu μ3 H3 st3 r3 e3 rel3 q3 => by
    cases rel2
    cases rel3
    have rel := RW.stp (st2.trans st3) rel1
    unfold slC at q3
    split at q3
    · rename_i n _
      split at q3
      · rename_i ds hs
        obtain ⟨a, rfl, ha⟩ := rel
        obtain ⟨xs, ea, f⟩ := r3.cell _ a _ ha hs
        exact .inr ⟨a, xs, rfl, .of ea, fun p hp => Fin.use (a := W) q3 (same_upd hp) r3 (Fz.newL r3.bt' hp (f.cut _ _))⟩
      · exact q3.elim
    · exact q3.elim
end
end DL
namespace DL
open PySem PySem.Spec PyProof.Rows L2
section
variable [KFrag]
section
variable {X : Cx} [HK X] {T : TX} {Wx : WXc} {e e2 : Expr} {f g : En → CS → R W} {pos : Pos} {ty td : TE}
/-! y not in d, whole numbers as keys -/
def tIInN (ty td : TE) : TE := fun σ H Q => ty σ H fun y H1 => td σ H1 fun x H2 => ∃ a o, x = .ref a ∧ DGet H2 a y o ∧ Q (.bl (!o.isSome)) H2
theorem pc_iinN (hu : X.A.units + 64 < cLine) (hi : PE X e ty) (ho : PE X e2 td) : PC X .NotIn e e2 (tIInN ty td) := by
  refine ⟨fun pins s σ H Q I h => ?_⟩
  refine thn (hi.run pins s σ H _ I h) fun iv s1 ⟨y, H1, I1, ry, q1⟩ => thn (ho.run pins s1 σ H1 _ I1 q1) fun u s2 ⟨x, H2, I2, rx, a, o, ex, g, q2⟩ => ?_
  subst ex
  obtain rfl : u = Value.ref a := rx
  exact d_notIn (by omega) I2 g ry fun s3 I3 => ⟨.bl (!o.isSome), H2, I3, rfl, q2⟩
theorem dInI_useN {σ : L2.St} {H : Hp} {Q : VK} (q : tD T Wx (fIIn true f g) σ H Q) : tIInN (tD T Wx f) (tD T Wx g) σ H Q := by
  obtain ⟨B, μ, s, ρ, r, e, q⟩ := q
  refine tD_bind r e q fun u s1 y μ1 H1 st1 r1 e1 rel1 q1 => tD_bind r1 e1 q1 fun w s2 x μ2 H2 st2 r2 e2 rel2 q2 => ?_
  unfold dInI at q2
  split at q2
  · rename_i ds i hd
    have ry := RW.stp st2 rel1
    cases ry.data
    obtain ⟨a, ks, ex, rd, k⟩ := dctI_rd r2 rel2 hd
    rw [Bool.true_xor] at q2
    refine ⟨a, valV ks (.inl i), ex, .inl ⟨ks, .inl i, rd, rfl, rfl⟩, ?_⟩
    have es : (valV ks (.inl i)).isSome = (lookI ds i).isSome := by
      rcases k.look (i := i) with ⟨h1, h2⟩ | ⟨v, y, h1, h2, _⟩ <;> rw [h1, h2] <;> rfl
    rw [es]
    exact Fin.here (a := W) q2 r2 (Fz.bl _)
  · exact q2.elim
theorem dt_iinN (hu : X.A.units + 64 < cLine) (ha : DE X T Wx e f) (hb : DE X T Wx e2 g) (hm : behindInMarks .NotIn e2 = false := by first | exact nomark _ | rfl) : DT X T Wx (.Compare e [.NotIn] [e2] pos) (fB (fIIn true f g)) :=
  PT_imp (pt_cmp (pc_iinN hu ha hb) hm) fun _ _ _ q => tB_imp (fun _ _ _ => dInI_useN) (tB_use q)
/-! {} , whole numbers as keys -/
def fNewDI0 (_ : En) (s : CS) : R W := .ok (.c s.length) (s ++ [.dct [mark]])
theorem de_newDI0 : DE X T Wx (.Dict [] [] pos) fNewDI0 := PE_imp pe_dnewK fun σ H Q ⟨B, μ, s, ρ, r, e, q⟩ p hp => by
  obtain ⟨a, b⟩ := newCc (o := .dK []) (c := .dct [mark]) r hp fun H' A' k e => .inr ⟨[], [], rfl, e, .nil⟩
  refine q _ _ _ b a ⟨p, rfl, ?_⟩
  rw [← r.len]
  simp
end
instance hk_tr {X : Cx} [h : HK X] {u v} : HK (X.tr u v) := ⟨h.eq⟩
instance hk_suite {X : Cx} [h : HK X] {u v} : HK (X.suite u v) := ⟨h.eq⟩
end
end DL
namespace DL
open PySem PySem.Spec PyProof.Rows L2
/-! ### what a def with a pen gives: the pen is cell 0, further cells may come behind -/
def IsPen (c : Cell) : Prop := ∃ (ns : List Int) (a r : Int), c = .lst [.list (ns.map .int), .int a, .int r]
def Pn (s : CS) : Prop := ∃ p, s[0]? = some p ∧ IsPen p
def Sp {α : Type} (f : CS → R α) (P : α → Prop) : Prop := ∀ s, Pn s → ∃ w p t, IsPen p ∧ f s = .ok w (s.set 0 p ++ t) ∧ P w
theorem Pn.ne {s : CS} (h : Pn s) : 0 < s.length := by
  obtain ⟨p, e, _⟩ := h
  exact (List.getElem?_eq_some_iff.mp e).1
theorem Pn.set {s : CS} (h : Pn s) {p : Cell} (hp : IsPen p) (t : CS) : Pn (s.set 0 p ++ t) := by
  refine ⟨p, ?_, hp⟩
  rw [List.getElem?_append_left (by rw [List.length_set]; exact h.ne), List.getElem?_set_self h.ne]
theorem set_set {s : CS} (h : Pn s) (p q : Cell) (t u : CS) : (s.set 0 p ++ t).set 0 q ++ u = s.set 0 q ++ (t ++ u) := by
  rw [List.set_append_left _ _ (by rw [List.length_set]; exact h.ne), List.set_set, List.append_assoc]
theorem set_id {s : CS} {p : Cell} (h : s[0]? = some p) : s.set 0 p ++ [] = s := by
  rw [List.append_nil]
  apply List.ext_getElem?
  intro i
  by_cases hi : 0 = i
  · subst hi
    rw [List.getElem?_set_self (List.getElem?_eq_some_iff.mp h).1, h]
  · rw [List.getElem?_set_ne hi]
section
variable {α β : Type}
theorem Sp.here {f : CS → R α} {P : α → Prop} {w : α} (h : ∀ s, f s = .ok w s) (q : P w) : Sp f P := fun s ⟨p, e, hp⟩ => ⟨w, p, [], hp, by rw [set_id e]; exact h s, q⟩
theorem Sp.bind {f : CS → R α} {g : α → CS → R β} {P : α → Prop} {Q : β → Prop} (hf : Sp f P) (hg : ∀ w, P w → Sp (g w) Q) : Sp (fun s => (f s).bind g) Q := fun s hs => by
  obtain ⟨w, p, t, hp, e, hw⟩ := hf s hs
  obtain ⟨v, q, u, hq, e2, hv⟩ := hg w hw _ (hs.set hp t)
  refine ⟨v, q, t ++ u, hq, ?_, hv⟩
  show (f s).bind g = _
  rw [e]
  show g w _ = _
  rw [e2, set_set hs]
theorem Sp.imp {f : CS → R α} {P Q : α → Prop} (h : Sp f P) (k : ∀ w, P w → Q w) : Sp f Q := fun s hs => let ⟨w, p, t, hp, e, hw⟩ := h s hs; ⟨w, p, t, hp, e, k w hw⟩
end
/-- .. of data -/
def Dd (p : D → Prop) (w : W) : Prop := ∃ x, w = .d x ∧ p x
abbrev SpD (f : En → CS → R W) (ρ : En) (p : D → Prop) : Prop := Sp (f ρ) (Dd p)
theorem sp_c {ρ : En} {x : D} {p : D → Prop} (h : p x) : SpD (fC x) ρ p := Sp.here (fun _ => rfl) ⟨x, rfl, h⟩
theorem sp_v {ρ : En} {i : Nat} {x : D} {p : D → Prop} (e : ρ[i]? = some (some (.d x))) (h : p x) : SpD (fVar i) ρ p := Sp.here (fun s => by simp only [fVar, e]) ⟨x, rfl, h⟩
theorem sp_2 {g : D → D → Option D} {fa fb : En → CS → R W} {ρ : En} {pa pb p : D → Prop} (ha : SpD fa ρ pa) (hb : SpD fb ρ pb) (h : ∀ x y, pa x → pb y → ∃ z, g x y = some z ∧ p z) : SpD (f2 g fa fb) ρ p :=
  Sp.bind (g := fun x s => (fb ρ s).bind fun y s => lift2 g x y s) ha fun w ⟨x, ew, hx⟩ => Sp.bind (g := fun y s => lift2 g w y s) hb fun v ⟨y, ev, hy⟩ => by
    obtain ⟨z, e, hz⟩ := h x y hx hy
    subst ew
    subst ev
    exact Sp.here (w := .d z) (fun s => by simp only [lift2, e]) ⟨z, rfl, hz⟩
theorem sp_1 {g : D → Option D} {fa : En → CS → R W} {ρ : En} {pa p : D → Prop} (ha : SpD fa ρ pa) (h : ∀ x, pa x → ∃ z, g x = some z ∧ p z) : SpD (f1 g fa) ρ p :=
  Sp.bind (g := fun x s => lift1 g x s) ha fun w ⟨x, ew, hx⟩ => by
    obtain ⟨z, e, hz⟩ := h x hx
    subst ew
    exact Sp.here (w := .d z) (fun s => by simp only [lift1, e]) ⟨z, rfl, hz⟩
/-! argument lists -/
abbrev SpL (fs : En → CS → R (List W)) (ρ : En) (P : List W → Prop) : Prop := Sp (fs ρ) P
theorem sp_nil {ρ : En} : SpL fNil ρ (· = []) := Sp.here (fun _ => rfl) rfl
theorem sp_cons {f : En → CS → R W} {g : En → CS → R (List W)} {ρ : En} {P : W → Prop} {Q : List W → Prop} (hf : Sp (f ρ) P) (hg : SpL g ρ Q) : SpL (fCons f g) ρ fun ws => ∃ w r, ws = w :: r ∧ P w ∧ Q r :=
  Sp.bind (g := fun w s => (g ρ s).bind fun ws s => .ok (w :: ws) s) hf fun w hw => Sp.bind (g := fun ws s => .ok (w :: ws) s) hg fun r hr => Sp.here (fun _ => rfl) ⟨w, r, rfl, hw, hr⟩
theorem sp_pen {ρ : En} {i : Nat} (e : ρ[i]? = some (some (.c 0))) : Sp (fVar i ρ) (· = .c 0) := Sp.here (fun s => by simp only [fVar, e]) rfl
/-- a call of what is told -/
theorem sp_call {m : Nat} {h : List W → CS → R W} {fs : En → CS → R (List W)} {ρ : En} {P : List W → Prop} {Q : W → Prop} (ha : SpL fs ρ P) (hl : ∀ ws, P ws → ws.length = m) (hh : ∀ ws, P ws → Sp (noX h ws) Q) : Sp (fCall m h fs ρ) Q :=
  Sp.bind (g := fun (ws : List W) (s : CS) => if ws.length = m then noX h ws s else .bad) ha fun ws hw => by
    have e : (fun s => if ws.length = m then noX h ws s else R.bad) = noX h ws := funext fun s => if_pos (hl ws hw)
    rw [e]
    exact hh ws hw
theorem sp_N {g : List D → Option D} {fs : En → CS → R (List W)} {ρ : En} {P : List W → Prop} {p : D → Prop} (ha : SpL fs ρ P) (h : ∀ ws, P ws → ∃ xs z, allD ws = some xs ∧ g xs = some z ∧ p z) : SpD (fN g fs) ρ p :=
  Sp.bind (g := fun ws s => liftN g ws s) ha fun ws hw => by
    obtain ⟨xs, z, e1, e2, hz⟩ := h ws hw
    exact Sp.here (w := .d z) (fun s => by simp only [liftN, e1, e2]) ⟨z, rfl, hz⟩
/-! truths -/
theorem sp_B {f : En → CS → R W} {ρ : En} {p : Bool → Prop} (h : SpD f ρ fun x => ∃ b, x = .bool b ∧ p b) : Sp (fB f ρ) p :=
  Sp.bind (g := toB) h fun w ⟨x, ew, b, ex, hb⟩ => by
    subst ew
    subst ex
    exact Sp.here (fun _ => rfl) hb
theorem sp_not {f : En → CS → R Bool} {ρ : En} {p q : Bool → Prop} (h : Sp (f ρ) p) (k : ∀ b, p b → q (!b)) : Sp (fNot f ρ) q := Sp.bind (g := fun b s => .ok (!b) s) h fun b hb => Sp.here (fun _ => rfl) (k b hb)
theorem sp_and {f g : En → CS → R Bool} {ρ : En} {p q r : Bool → Prop} (h : Sp (f ρ) p) (k : Sp (g ρ) q) (h1 : p false → r false) (h2 : ∀ b, p true → q b → r b) : Sp (fAnd f g ρ) r :=
  Sp.bind (g := fun b s => if b = true then g ρ s else .ok false s) h fun b hb => by
    cases b with
    | true => exact k.imp fun c hc => h2 c hb hc
    | false => exact Sp.here (fun _ => rfl) (h1 hb)
theorem sp_if {t : En → CS → R Bool} {f g : En → CS → R W} {ρ : En} {p : Bool → Prop} {P : W → Prop} (h : Sp (t ρ) p) (h1 : p true → Sp (f ρ) P) (h2 : p false → Sp (g ρ) P) : Sp (fIf t f g ρ) P :=
  Sp.bind (g := fun b s => if b = true then f ρ s else g ρ s) h fun b hb => by
    cases b with
    | true => exact h1 hb
    | false => exact h2 hb
/-! a row of what is told -/
theorem sp_comp {h : W → En → Option En} {f : En → CS → R W} {ρ : En} {p : D → Prop} : ∀ items : List D, (∀ x ∈ items, ∃ ρ1, h (.d x) ρ = some ρ1 ∧ SpD f ρ1 p) → Sp (compL h fYes f ρ items) fun ys => ys.length = items.length ∧ ∀ y ∈ ys, p y
  | [], _ => Sp.here (fun _ => rfl) ⟨rfl, fun y hy => (nomatch hy)⟩
  | x :: r, hx => by
    obtain ⟨ρ1, e1, hf⟩ := hx x (by simp)
    have ih := sp_comp (h := h) (f := f) (ρ := ρ) (p := p) r fun y hy => hx y (by simp [hy])
    intro s hs
    obtain ⟨w, q, t, hq, e2, y, rfl, hy⟩ := hf s hs
    obtain ⟨ys, q2, t2, hq2, e3, h3, h4⟩ := ih _ (hs.set hq t)
    refine ⟨y :: ys, q2, t ++ t2, hq2, ?_, by simp [h3], fun z hz => (List.mem_cons.mp hz).elim (fun q => by rw [q]; exact hy) (h4 z)⟩
    unfold compL
    simp only [e1, fYes, R.bind0, if_true, e2, consR, e3]
    rw [set_set hs]
theorem sp_lc {vs : List Nat} {fi : En → CS → R (List D)} {h : W → En → Option En} {f : En → CS → R W} {ρ : En} {q : List D → Prop} {p : D → Prop} (hi : Sp (fi ρ) q) (hl : ∀ xs, q xs → xs.length ≤ line) (hx : ∀ xs, q xs → ∀ x ∈ xs, ∃ ρ1, h (.d x) (wipeE ρ vs) = some ρ1 ∧ SpD f ρ1 p) :
    SpD (fLc vs fi h fYes f) ρ fun z => ∃ xs ys, q xs ∧ z = .list ys ∧ ys.length = xs.length ∧ ∀ y ∈ ys, p y :=
  Sp.bind (g := fun (items : List D) (s : CS) => if items.length ≤ line then endL [] (compL h fYes f (wipeE ρ vs) items s) else .bad) hi fun xs hq => by
    have e : (fun s => if xs.length ≤ line then endL [] (compL h fYes f (wipeE ρ vs) xs s) else R.bad) = fun s => endL [] (compL h fYes f (wipeE ρ vs) xs s) := funext fun s => if_pos (hl xs hq)
    rw [e]
    intro s hs
    obtain ⟨ys, p1, t, hp, e1, h1, h2⟩ := sp_comp xs (hx xs hq) s hs
    exact ⟨.d (.list ys), p1, t, hp, by show endL [] _ = _; rw [e1]; rfl, .list ys, rfl, xs, ys, hq, rfl, h1, h2⟩
def rngK (w : W) (s : CS) : R (List D) := match w with
  | .d (.int j) => if -(2 ^ 62) ≤ j ∧ j < 2 ^ 62 then .ok (rngD 0 j.toNat) s else .bad
  | _ => .bad
theorem sp_rng {f : En → CS → R W} {ρ : En} {p : Int → Prop} (h : SpD f ρ fun x => ∃ j, x = .int j ∧ 0 ≤ j ∧ j < 1000000 ∧ p j) : Sp (fRng1 f ρ) fun xs => ∃ j, xs = rngD 0 j.toNat ∧ 0 ≤ j ∧ j < 1000000 ∧ p j :=
  Sp.bind (g := rngK) h fun w ⟨x, ew, j, ex, h0, h1, hj⟩ => by
    subst ew
    subst ex
    exact Sp.here (w := rngD 0 j.toNat) (fun s => by
      show (if -(2 ^ 62) ≤ j ∧ j < 2 ^ 62 then _ else _) = _
      rw [if_pos ⟨by omega, by omega⟩]) ⟨j, rfl, h0, h1, hj⟩
theorem sp_it {f : En → CS → R W} {ρ : En} {p : List D → Prop} (h : SpD f ρ fun x => ∃ ds, (x = .tuple ds ∨ x = .list ds) ∧ p ds) : Sp (fIt f ρ) p :=
  Sp.bind h fun w ⟨x, ew, ds, ex, hp⟩ => by
    subst ew
    rcases ex with rfl | rfl
    · exact Sp.here (fun _ => rfl) hp
    · exact Sp.here (fun _ => rfl) hp
/-! statements -/
def SpN (g : En → CS → RT) (ρ : En) (Q : En → Prop) : Prop := ∀ s, Pn s → ∃ ρ' p t, IsPen p ∧ g ρ s = .nx ρ' (s.set 0 p ++ t) ∧ Q ρ'
def SpR (g : En → CS → RT) (ρ : En) (P : W → Prop) : Prop := ∀ s, Pn s → ∃ w p t, IsPen p ∧ g ρ s = .rt w (s.set 0 p ++ t) ∧ P w
theorem sp_ret {f : En → CS → R W} {ρ : En} {P : W → Prop} (h : Sp (f ρ) P) : SpR (gRet f) ρ P := fun s hs => by
  obtain ⟨w, p, t, hp, e, hw⟩ := h s hs
  exact ⟨w, p, t, hp, by rw [gRet, e]; rfl, hw⟩
theorem sp_asg {h : W → En → Option En} {f : En → CS → R W} {ρ : En} {P : W → Prop} {Q : En → Prop} (hf : Sp (f ρ) P) (k : ∀ w, P w → ∃ ρ', h w ρ = some ρ' ∧ Q ρ') : SpN (gAsg h f) ρ Q := fun s hs => by
  obtain ⟨w, p, t, hp, e, hw⟩ := hf s hs
  obtain ⟨ρ', e2, hq⟩ := k w hw
  exact ⟨ρ', p, t, hp, asg_at e e2, hq⟩
theorem sp_seq {g k : En → CS → RT} {ρ : En} {Q : En → Prop} {P : W → Prop} (h : SpN g ρ Q) (j : ∀ ρ', Q ρ' → SpR k ρ' P) : SpR (gSeq g k) ρ P := fun s hs => by
  obtain ⟨ρ', p, t, hp, e, hq⟩ := h s hs
  obtain ⟨w, p2, t2, hp2, e2, hw⟩ := j ρ' hq _ (hs.set hp t)
  exact ⟨w, p2, t ++ t2, hp2, by rw [seq_at e, e2, set_set hs], hw⟩
theorem sp_seqN {g k : En → CS → RT} {ρ : En} {Q Q' : En → Prop} (h : SpN g ρ Q) (j : ∀ ρ', Q ρ' → SpN k ρ' Q') : SpN (gSeq g k) ρ Q' := fun s hs => by
  obtain ⟨ρ', p, t, hp, e, hq⟩ := h s hs
  obtain ⟨w, p2, t2, hp2, e2, hw⟩ := j ρ' hq _ (hs.set hp t)
  exact ⟨w, p2, t ++ t2, hp2, by rw [seq_at e, e2, set_set hs], hw⟩
theorem sp_nx {ρ : En} {Q : En → Prop} (h : Q ρ) : SpN gNx ρ Q := fun s ⟨p, e, hp⟩ => ⟨ρ, p, [], hp, by rw [set_id e]; rfl, h⟩
/-- a test whose first branch returns -/
theorem sp_ifR {t : En → CS → R Bool} {g k j : En → CS → RT} {ρ : En} {p : Bool → Prop} {P : W → Prop} (h : Sp (t ρ) p) (h1 : p true → SpR g ρ P) (h2 : p false → SpR (gSeq k j) ρ P) : SpR (gSeq (gIf t g k) j) ρ P := fun s hs => by
  obtain ⟨b, q, u, hq, e, hb⟩ := h s hs
  cases b with
  | true =>
    obtain ⟨w, p2, t2, hp2, e2, hw⟩ := h1 hb _ (hs.set hq u)
    refine ⟨w, p2, u ++ t2, hp2, ?_, hw⟩
    have : gIf t g k ρ s = .rt w (s.set 0 p2 ++ (u ++ t2)) := by
      rw [gIf, e]
      show g ρ _ = _
      rw [e2, set_set hs]
    rw [gSeq, this]
  | false =>
    obtain ⟨w, p2, t2, hp2, e2, hw⟩ := h2 hb _ (hs.set hq u)
    refine ⟨w, p2, u ++ t2, hp2, ?_, hw⟩
    have : gIf t g k ρ s = k ρ (s.set 0 q ++ u) := by
      rw [gIf, e]
      rfl
    rw [gSeq, this]
    show gSeq k j ρ _ = _
    rw [e2, set_set hs]
theorem sp_ifN {t : En → CS → R Bool} {g k : En → CS → RT} {ρ : En} {p : Bool → Prop} {Q : En → Prop} (h : Sp (t ρ) p) (h1 : p true → SpN g ρ Q) (h2 : p false → SpN k ρ Q) : SpN (gIf t g k) ρ Q := fun s hs => by
  obtain ⟨b, q, u, hq, e, hb⟩ := h s hs
  have : gIf t g k ρ s = if b = true then g ρ (s.set 0 q ++ u) else k ρ (s.set 0 q ++ u) := by
    rw [gIf, e]
    rfl
  cases b with
  | true =>
    obtain ⟨ρ', p2, t2, hp2, e2, hw⟩ := h1 hb _ (hs.set hq u)
    exact ⟨ρ', p2, u ++ t2, hp2, by rw [this, if_pos rfl, e2, set_set hs], hw⟩
  | false =>
    obtain ⟨ρ', p2, t2, hp2, e2, hw⟩ := h2 hb _ (hs.set hq u)
    exact ⟨ρ', p2, u ++ t2, hp2, by rw [this, if_neg Bool.false_ne_true, e2, set_set hs], hw⟩
theorem sp_par2 {i j : Nat} {fs : En → CS → R (List W)} {ρ : En} {P : List W → Prop} {Q : En → Prop} (hf : SpL fs ρ P) (k : ∀ ws, P ws → ∃ v w, ws = [v, w] ∧ Q ((ρ.set i (some v)).set j (some w))) : SpN (gPar2 i j fs) ρ Q := fun s hs => by
  obtain ⟨ws, p, t, hp, e, hw⟩ := hf s hs
  obtain ⟨v, w, rfl, hq⟩ := k ws hw
  exact ⟨_, p, t, hp, by rw [gPar2, e]; rfl, hq⟩
/-- a def -/
theorem sp_def {m n : Nat} {g : En → CS → RT} {ws : List W} {P : W → Prop} (hl : ws.length = m) (h : SpR g (startE n ws) P) : Sp (noX (fnR m n g) ws) P := fun s hs => by
  obtain ⟨w, p, t, hp, e, hw⟩ := h s hs
  refine ⟨w, p, t, hp, ?_, hw⟩
  unfold noX fnR
  rw [if_pos hl, e]
end DL
namespace DL
open PySem PySem.Spec PyProof.Rows L2
/-! ### what holds behind a statement -/
def RT.Is (r : RT) (N C : En → CS → Prop) (Z : W → CS → Prop) : Prop := match r with
  | .nx ρ s => N ρ s
  | .ct ρ s => C ρ s
  | .rt w s => Z w s
  | _ => False
@[irreducible] def WP (g : En → CS → RT) (ρ : En) (s : CS) (N C : En → CS → Prop) (Z : W → CS → Prop) : Prop := (g ρ s).Is N C Z
abbrev noC : En → CS → Prop := fun _ _ => False
section
variable {g k body : En → CS → RT} {ρ ρ' : En} {s s' : CS} {N C : En → CS → Prop} {Z : W → CS → Prop} {f fv fj : En → CS → R W} {t : En → CS → R Bool} {w : W} {i : Nat}
theorem RT.Is.imp {r : RT} {N' C' : En → CS → Prop} {Z' : W → CS → Prop} (h : r.Is N C Z) (a : ∀ ρ s, N ρ s → N' ρ s) (b : ∀ ρ s, C ρ s → C' ρ s) (c : ∀ w s, Z w s → Z' w s) : r.Is N' C' Z' := by
  cases r with
  | nx ρ s => exact a _ _ h
  | ct ρ s => exact b _ _ h
  | rt w s => exact c _ _ h
  | bk ρ s => exact h.elim
  | exc e ρ s => exact h.elim
  | bad => exact h.elim
theorem wp_imp {N' C' : En → CS → Prop} {Z' : W → CS → Prop} (h : WP g ρ s N C Z) (a : ∀ ρ s, N ρ s → N' ρ s) (b : ∀ ρ s, C ρ s → C' ρ s) (c : ∀ w s, Z w s → Z' w s) : WP g ρ s N' C' Z' := by
  unfold WP at h ⊢
  exact h.imp a b c
theorem wp_seq (h : WP g ρ s (fun ρ' s' => WP k ρ' s' N C Z) C Z) : WP (gSeq g k) ρ s N C Z := by
  unfold WP gSeq
  unfold WP at h
  cases z : g ρ s with
  | nx ρ s => rw [z] at h; exact h
  | ct ρ s => rw [z] at h; exact h
  | rt w s => rw [z] at h; exact h
  | bk ρ s => rw [z] at h; exact h.elim
  | exc e ρ s => rw [z] at h; exact h.elim
  | bad => rw [z] at h; exact h.elim
theorem wp_asg (e : f ρ s = .ok w s') (h : N (ρ.set i (some w)) s') : WP (gAsg (hN i) f) ρ s N C Z := by
  unfold WP gAsg
  rw [e]
  exact h
theorem wp_asgT {h : W → En → Option En} (e : f ρ s = .ok w s') (k : h w ρ = some ρ') (q : N ρ' s') : WP (gAsg h f) ρ s N C Z := by
  unfold WP gAsg
  rw [e]
  simp only [R.toT, k]
  exact q
theorem wp_ret (e : f ρ s = .ok w s') (h : Z w s') : WP (gRet f) ρ s N C Z := by
  unfold WP gRet
  rw [e]
  exact h
theorem wp_nx (h : N ρ s) : WP gNx ρ s N C Z := by unfold WP; exact h
theorem wp_ct (h : C ρ s) : WP gCt ρ s N C Z := by unfold WP; exact h
theorem wp_if {b : Bool} (e : t ρ s = .ok b s') (h1 : b = true → WP g ρ s' N C Z) (h2 : b = false → WP k ρ s' N C Z) : WP (gIf t g k) ρ s N C Z := by
  unfold WP gIf
  rw [e]
  cases b with
  | true => have := h1 rfl; unfold WP at this; exact this
  | false => have := h2 rfl; unfold WP at this; exact this
theorem wp_ifF (e : t ρ s = .ok false s') (h : WP k ρ s' N C Z) : WP (gIf t g k) ρ s N C Z := wp_if e (fun z => by cases z) fun _ => h
theorem wp_ifT (e : t ρ s = .ok true s') (h : WP g ρ s' N C Z) : WP (gIf t g k) ρ s N C Z := wp_if e (fun _ => h) fun z => by cases z
theorem wp_forL {h : W → En → Option En} {I : List D → En → CS → Prop} (hs : ∀ x r ρ s, I (x :: r) ρ s → ∃ ρ1, h (.d x) ρ = some ρ1 ∧ WP body ρ1 s (I r) (I r) Z) (hd : ∀ ρ s, I [] ρ s → N ρ s) : ∀ (items : List D) (ρ : En) (s : CS), I items ρ s → (forL h body items ρ s).Is N C Z
  | [], ρ, s, h0 => hd ρ s h0
  | x :: r, ρ, s, h0 => by
    obtain ⟨ρ1, e, q⟩ := hs x r ρ s h0
    unfold forL
    simp only [e]
    unfold WP at q
    cases z : body ρ1 s with
    | nx ρ2 s2 => rw [z] at q; exact wp_forL hs hd r ρ2 s2 q
    | ct ρ2 s2 => rw [z] at q; exact wp_forL hs hd r ρ2 s2 q
    | rt w2 s2 => rw [z] at q; exact q
    | bk ρ2 s2 => rw [z] at q; exact q.elim
    | exc e ρ2 s2 => rw [z] at q; exact q.elim
    | bad => rw [z] at q; exact q.elim
theorem wp_for {fi : En → CS → R (List D)} {h : W → En → Option En} {items : List D} (I : List D → En → CS → Prop) (e : fi ρ s = .ok items s') (h0 : I items ρ s') (hs : ∀ x r ρ s, I (x :: r) ρ s → ∃ ρ1, h (.d x) ρ = some ρ1 ∧ WP body ρ1 s (I r) (I r) Z) (hd : ∀ ρ s, I [] ρ s → N ρ s) : WP (gFor fi h body) ρ s N C Z := by
  unfold WP gFor
  rw [e]
  exact wp_forL hs hd items ρ s' h0
theorem wp_forI {fi : En → CS → R (List D)} {h : W → En → Option En} {items : List D} (I : Nat → En → CS → Prop) (e : fi ρ s = .ok items s') (h0 : I 0 ρ s') (hs : ∀ (k : Nat) x ρ s, items[k]? = some x → I k ρ s → ∃ ρ1, h (.d x) ρ = some ρ1 ∧ WP body ρ1 s (I (k + 1)) (I (k + 1)) Z) (hd : ∀ ρ s, I items.length ρ s → N ρ s) : WP (gFor fi h body) ρ s N C Z := by
  refine wp_for (fun l ρ s => ∃ k, k ≤ items.length ∧ l = items.drop k ∧ I k ρ s) e ⟨0, Nat.zero_le _, rfl, h0⟩ (fun x r ρ s ⟨k, hk, el, hI⟩ => ?_) fun ρ s ⟨k, hk, el, hI⟩ => ?_
  · have hx : items[k]? = some x := by
      have : (items.drop k)[0]? = some x := by rw [← el]; rfl
      rw [List.getElem?_drop, Nat.add_zero] at this
      exact this
    obtain ⟨ρ1, e1, q⟩ := hs k x ρ s hx hI
    have hlt := (List.getElem?_eq_some_iff.mp hx).1
    have er : r = items.drop (k + 1) := by
      rw [List.drop_eq_getElem_cons hlt] at el
      exact (List.cons.inj el).2
    exact ⟨ρ1, e1, wp_imp q (fun ρ s z => ⟨k + 1, hlt, er, z⟩) (fun ρ s z => ⟨k + 1, hlt, er, z⟩) fun _ _ z => z⟩
  · have : items.length ≤ k := List.drop_eq_nil_iff.mp el.symm
    have : k = items.length := by omega
    subst this
    exact hd ρ s hI
theorem wp_while (I : Nat → En → CS → Prop) (hs : ∀ k ρ s, I k ρ s → ∃ b s', t ρ s = .ok b s' ∧ (b = true → WP body ρ s' (fun ρ s => ∃ j, j < k ∧ I j ρ s) (fun ρ s => ∃ j, j < k ∧ I j ρ s) Z) ∧ (b = false → N ρ s')) : ∀ (fuel n : Nat) (ρ : En) (s : CS), n < fuel → I n ρ s → WP (whileL t body fuel) ρ s N C Z
  | 0, n, ρ, s, hn, _ => by omega
  | fuel + 1, n, ρ, s, hn, h0 => by
    obtain ⟨b, s1, e, ht, hf⟩ := hs n ρ s h0
    unfold WP whileL
    rw [e]
    cases b with
    | false => exact hf rfl
    | true =>
      have q := ht rfl
      unfold WP at q
      show RT.Is (match body ρ s1 with
        | .nx ρ2 s2 => whileL t body fuel ρ2 s2
        | .ct ρ2 s2 => whileL t body fuel ρ2 s2
        | .bk ρ2 s2 => .nx ρ2 s2
        | z => z) N C Z
      cases z : body ρ s1 with
      | nx ρ2 s2 =>
        rw [z] at q
        obtain ⟨j, hj, q⟩ := q
        have := wp_while I hs fuel j ρ2 s2 (by omega) q
        unfold WP at this
        exact this
      | ct ρ2 s2 =>
        rw [z] at q
        obtain ⟨j, hj, q⟩ := q
        have := wp_while I hs fuel j ρ2 s2 (by omega) q
        unfold WP at this
        exact this
      | rt w2 s2 => rw [z] at q; exact q
      | bk ρ2 s2 => rw [z] at q; exact q.elim
      | exc e ρ2 s2 => rw [z] at q; exact q.elim
      | bad => rw [z] at q; exact q.elim
theorem wp_par2 {i j : Nat} {fs : En → CS → R (List W)} {a b : W} (e : fs ρ s = .ok [a, b] s') (h : N ((ρ.set i (some a)).set j (some b)) s') : WP (gPar2 i j fs) ρ s N C Z := by
  unfold WP gPar2
  rw [e]
  exact h
theorem wp_par3 {i j l : Nat} {fs : En → CS → R (List W)} {a b c : W} (e : fs ρ s = .ok [a, b, c] s') (h : N (((ρ.set i (some a)).set j (some b)).set l (some c)) s') : WP (gPar3 i j l fs) ρ s N C Z := by
  unfold WP gPar3
  rw [e]
  exact h
theorem wp_app {n : Nat} {x : D} {ds : List D} {s1 : CS} (e1 : f ρ s = .ok (.c n) s1) (hl : ∃ es, s1[n]? = some (.lst es)) (e2 : fv ρ s1 = .ok (.d x) s') (h : s'[n]? = some (.lst ds)) (hz : ds.length < 16777216) (q : N ρ (s'.set n (.lst (ds ++ [x])))) : WP (gAppC f fv) ρ s N C Z := by
  obtain ⟨es, hl⟩ := hl
  unfold WP gAppC
  rw [e1]
  simp only [R.toT, onC, hl, e2, appC, h]
  rw [if_pos (show ds.length < line from hz)]
  exact q
theorem wp_ins {n : Nat} {x : D} {j : Int} {ds : List D} {s1 s2 : CS} (e1 : f ρ s = .ok (.c n) s1) (hl : ∃ es, s1[n]? = some (.lst es)) (e2 : fj ρ s1 = .ok (.d (.int j)) s2) (e3 : fv ρ s2 = .ok (.d x) s') (h : s'[n]? = some (.lst ds)) (hz : ds.length < 16777216) (h0 : 0 ≤ j) (h1 : j < 1000000)
    (q : N ρ (s'.set n (.lst (ds.take j.toNat ++ [x] ++ ds.drop j.toNat)))) : WP (gInsC f fj fv) ρ s N C Z := by
  obtain ⟨es, hl⟩ := hl
  unfold WP gInsC
  rw [e1]
  simp only [R.toT, onC, hl, e2, e3, insC, h]
  rw [if_pos (show ds.length < line ∧ 0 ≤ j ∧ j < 2 ^ 62 from ⟨hz, h0, by omega⟩)]
  exact q
theorem wp_put {n : Nat} {x : D} {j : Int} {q : Nat} {ds : List D} {s1 s2 : CS} (e1 : fv ρ s = .ok (.d x) s1) (e2 : f ρ s1 = .ok (.c n) s2) (e3 : fj ρ s2 = .ok (.d (.int j)) s') (h : s'[n]? = some (.lst ds)) (hq : ixN ds.length j = some q) (z : N ρ (s'.set n (.lst (ds.set q x)))) : WP (gPutC fv f fj) ρ s N C Z := by
  unfold WP gPutC
  rw [e1]
  simp only [R.toT, e2, e3, h, hq]
  exact z
theorem wp_def {m n : Nat} {ws : List W} {P : W → CS → Prop} (hl : ws.length = m) (h : WP g (startE n ws) s noC noC P) : ∃ w s', noX (fnR m n g) ws s = .ok w s' ∧ P w s' := by
  unfold noX fnR
  rw [if_pos hl]
  unfold WP at h
  cases z : g (startE n ws) s with
  | rt w s2 => rw [z] at h; exact ⟨w, s2, rfl, h⟩
  | nx ρ s => rw [z] at h; exact h.elim
  | ct ρ s => rw [z] at h; exact h.elim
  | bk ρ s => rw [z] at h; exact h.elim
  | exc e ρ s => rw [z] at h; exact h.elim
  | bad => rw [z] at h; exact h.elim
/-- .. whose end is behind the last statement -/
theorem wp_defN {m n : Nat} {ws : List W} {P : W → CS → Prop} (hl : ws.length = m) (h : WP g (startE n ws) s (fun _ s => P (.d .none) s) noC P) : ∃ w s', noX (fnR m n g) ws s = .ok w s' ∧ P w s' := by
  unfold noX fnR
  rw [if_pos hl]
  unfold WP at h
  cases z : g (startE n ws) s with
  | rt w s2 => rw [z] at h; exact ⟨w, s2, rfl, h⟩
  | nx ρ s2 => rw [z] at h; exact ⟨_, s2, rfl, h⟩
  | ct ρ s => rw [z] at h; exact h.elim
  | bk ρ s => rw [z] at h; exact h.elim
  | exc e ρ s => rw [z] at h; exact h.elim
  | bad => rw [z] at h; exact h.elim
theorem wp_pure {m n : Nat} {ws : List W} {v : D} (hl : ws.length = m) (h : WP g (startE n ws) [] noC noC fun w _ => w = .d v) (s : CS) : pureR (noX (fnR m n g)) ws s = .ok (.d v) s := by
  obtain ⟨w, s', e, rfl⟩ := wp_def hl h
  unfold pureR
  rw [e]
theorem wp_pureE {m n : Nat} {ws : List W} {P : D → Prop} (hl : ws.length = m) (h : WP g (startE n ws) [] noC noC fun w _ => ∃ v, w = .d v ∧ P v) : ∃ v, P v ∧ ∀ s, pureR (noX (fnR m n g)) ws s = .ok (.d v) s := by
  obtain ⟨w, s', e, v, rfl, hv⟩ := wp_def hl h
  refine ⟨v, hv, fun s => ?_⟩
  unfold pureR
  rw [e]
theorem wp_aug {i : Nat} {a b : Int} (e1 : ρ[i]? = some (some (.d (.int a)))) (e2 : f ρ s = .ok (.d (.int b)) s') (h : N (ρ.set i (some (.d (.int (a + b))))) s') : WP (gAug i f) ρ s N C Z := by
  unfold WP gAug
  simp only [e1, e2, R.toT]
  exact h
theorem wp_extA {n m : Nat} {ds es : List D} {s1 : CS} (e1 : f ρ s = .ok (.c n) s1) (hl : ∃ es, s1[n]? = some (.lst es)) (e2 : fv ρ s1 = .ok (.c m) s') (h : s'[n]? = some (.lst ds)) (h2 : s'[m]? = some (.lst es)) (hz : ds.length + es.length ≤ 16777216) (hne : n ≠ m) (q : N ρ (s'.set n (.lst (ds ++ es)))) : WP (gExtA f fv) ρ s N C Z := by
  obtain ⟨es', hl⟩ := hl
  unfold WP gExtA
  rw [e1]
  simp only [R.toT, onC, hl, e2, extA, h, h2]
  rw [if_pos (show ds.length + es.length ≤ line ∧ n ≠ m from ⟨hz, hne⟩)]
  exact q
theorem wp_dputR {n m : Nat} {i : Int} {ds : List (D × Nat)} {s1 s2 : CS} (e1 : fv ρ s = .ok (.c m) s1) (e2 : f ρ s1 = .ok (.c n) s2) (e3 : fj ρ s2 = .ok (.d (.int i)) s') (h : s'[n]? = some (.dcr (markR :: ds))) (hz : ds.length < 16777216) (q : N ρ (s'.set n (.dcr (markR :: putR ds i m)))) : WP (gDPutR fv f fj) ρ s N C Z := by
  have hd : dctR (.c n) s' = some ds := by
    unfold dctR
    simp only [h, markR]
  unfold WP gDPutR
  rw [e1]
  simp only [R.toT, e2, e3, dPutR, hd]
  rw [if_pos (show ds.length < line from hz)]
  exact q
theorem wp_dputI {n : Nat} {i : Int} {x : D} {ds : List (D × D)} {s1 s2 : CS} (e1 : fv ρ s = .ok (.d x) s1) (e2 : f ρ s1 = .ok (.c n) s2) (e3 : fj ρ s2 = .ok (.d (.int i)) s') (h : s'[n]? = some (.dct (mark :: ds))) (hz : ds.length < 16777216) (q : N ρ (s'.set n (.dct (mark :: putI ds i x)))) : WP (gDPutI fv f fj) ρ s N C Z := by
  unfold WP gDPutI
  rw [e1]
  simp only [R.toT, e2, e3, dPutI, h]
  rw [if_pos (show isMk mark = true ∧ ds.length < line from ⟨rfl, hz⟩)]
  exact q
end
/-! ### expressions, one at a time -/
section
variable {ρ : En} {s s1 s2 s3 : CS} {f f1 f2' f3 fa fb : En → CS → R W} {w : W}
theorem ev_v {i : Nat} (e : ρ[i]? = some (some w)) : fVar i ρ s = .ok w s := by simp only [fVar, e]
theorem ev_2 {g : D → D → Option D} {x y z : D} (ea : fa ρ s = .ok (.d x) s1) (eb : fb ρ s1 = .ok (.d y) s2) (h : g x y = some z) : f2 g fa fb ρ s = .ok (.d z) s2 := by
  unfold f2
  rw [ea]
  show (fb ρ s1).bind _ = _
  rw [eb]
  show lift2 g (.d x) (.d y) s2 = _
  simp only [lift2, h]
theorem ev_1 {g : D → Option D} {x z : D} (ea : fa ρ s = .ok (.d x) s1) (h : g x = some z) : DL.f1 g fa ρ s = .ok (.d z) s1 := by
  unfold DL.f1
  rw [ea]
  show lift1 g (.d x) s1 = _
  simp only [lift1, h]
theorem ev_N1 {g : List D → Option D} {x z : D} (ea : fa ρ s = .ok (.d x) s1) (h : g [x] = some z) : fN g (fCons fa fNil) ρ s = .ok (.d z) s1 := by
  simp only [fN, fCons, fNil, ea, R.bind, liftN, allD, Option.map, h]
theorem ev_N2 {g : List D → Option D} {x y z : D} (ea : fa ρ s = .ok (.d x) s1) (eb : fb ρ s1 = .ok (.d y) s2) (h : g [x, y] = some z) : fN g (fCons fa (fCons fb fNil)) ρ s = .ok (.d z) s2 := by
  simp only [fN, fCons, fNil, ea, eb, R.bind, liftN, allD, Option.map, h]
theorem ev_N3 {g : List D → Option D} {x y u z : D} (ea : fa ρ s = .ok (.d x) s1) (eb : fb ρ s1 = .ok (.d y) s2) (ec : f ρ s2 = .ok (.d u) s3) (h : g [x, y, u] = some z) : fN g (fCons fa (fCons fb (fCons f fNil))) ρ s = .ok (.d z) s3 := by
  simp only [fN, fCons, fNil, ea, eb, ec, R.bind, liftN, allD, Option.map, h]
theorem ev_B {b : Bool} (e : f ρ s = .ok (.d (.bool b)) s1) : fB f ρ s = .ok b s1 := by
  unfold fB
  rw [e]
  rfl
theorem ev_not {t : En → CS → R Bool} {b : Bool} (e : t ρ s = .ok b s1) : fNot t ρ s = .ok (!b) s1 := by
  unfold fNot
  rw [e]
  rfl
theorem ev_or {t u : En → CS → R Bool} (e : t ρ s = .ok false s1) (e2 : u ρ s1 = .ok false s2) : fOr t u ρ s = .ok false s2 := by
  unfold fOr
  rw [e]
  exact e2
theorem ev_if {t : En → CS → R Bool} {b : Bool} (e : t ρ s = .ok b s1) (h1 : b = true → fa ρ s1 = .ok w s2) (h2 : b = false → fb ρ s1 = .ok w s2) : fIf t fa fb ρ s = .ok w s2 := by
  unfold fIf
  rw [e]
  cases b with
  | true => exact h1 rfl
  | false => exact h2 rfl
theorem ev_it {ds : List D} (e : f ρ s = .ok (.d (.tuple ds)) s1 ∨ f ρ s = .ok (.d (.list ds)) s1) : fIt f ρ s = .ok ds s1 := by
  unfold fIt
  rcases e with e | e <;> rw [e] <;> rfl
theorem ev_enu {ds : List D} (e : f ρ s = .ok (.d (.tuple ds)) s1 ∨ f ρ s = .ok (.d (.list ds)) s1) : fEnu (fCons f fNil) ρ s = .ok (enuD 0 ds) s1 := by
  unfold fEnu fCons fNil
  rcases e with e | e <;> rw [e] <;> rfl
theorem rngK_int' (j : Int) (s : CS) : rngK (.d (.int j)) s = if -(2 ^ 62) ≤ j ∧ j < 2 ^ 62 then .ok (rngD 0 j.toNat) s else .bad := rfl
theorem rng_nat' {n : Nat} (hn : n < 1000000) (s : CS) : rngK (.d (.int (n : Int))) s = .ok ((List.range n).map fun i => .int (i : Nat)) s := by
  have p62 : (2 : Int) ^ 62 = 4611686018427387904 := by decide
  rw [rngK_int', p62]
  have c : -4611686018427387904 ≤ (n : Int) ∧ (n : Int) < 4611686018427387904 := by omega
  rw [if_pos c, Int.toNat_natCast]
  simp only [rngD, Int.zero_add]
theorem rng_def' (f : En → CS → R W) (ρ : En) (s : CS) : fRng1 f ρ s = (f ρ s).bind rngK := rfl
theorem bind_ok' {a b : Type} (x : a) (s : CS) (k : a → CS → R b) : (R.ok x s).bind k = k x s := rfl
theorem ev_rng {n : Nat} (e : f ρ s = .ok (.d (.int n)) s1) (hn : n < 1000000) : fRng1 f ρ s = .ok ((List.range n).map fun i => .int (i : Nat)) s1 := by
  rw [rng_def', e, bind_ok', rng_nat' hn]
theorem ev_frz {i n : Nat} {ds : List D} (e : ρ[i]? = some (some (.c n))) (h : s[n]? = some (.lst ds)) : fFrz i ρ s = .ok (.d (.list ds)) (s.set n .dead) := by
  unfold fFrz
  simp only [e, h]
theorem ev_ixA {n : Nat} {c : Int} {ds : List D} {x : D} (e : fa ρ s = .ok (.c n) s1) (e2 : fb ρ s1 = .ok (.d (.int c)) s2) (h : s2[n]? = some (.lst ds)) (k : atI ds c = some x) : fIxA fa fb ρ s = .ok (.d x) s2 := by
  unfold fIxA
  rw [e]
  show (fb ρ s1).bind _ = _
  rw [e2]
  simp only [R.bind, ixA, ixC, h, k]
theorem ev_dgetR {n m : Nat} {i : Int} {ds : List (D × Nat)} (e : fa ρ s = .ok (.c n) s1) (e2 : fb ρ s1 = .ok (.d (.int i)) s2) (h : s2[n]? = some (.dcr (markR :: ds))) (k : lookR ds i = some m) : fDGetR fa fb ρ s = .ok (.c m) s2 := by
  have hd : dctR (.c n) s2 = some ds := by
    unfold dctR
    simp only [h, markR]
  unfold fDGetR
  rw [e]
  simp only [R.bind, e2, dGetR, hd, k]
theorem ev_dgetI {n : Nat} {i : Int} {x : D} {ds : List (D × D)} (e : fa ρ s = .ok (.c n) s1) (e2 : fb ρ s1 = .ok (.d (.int i)) s2) (h : s2[n]? = some (.dct (mark :: ds))) (k : lookI ds i = some x) : fDGetI fa fb ρ s = .ok (.d x) s2 := by
  have hd : dctI (.c n) s2 = some ds := by
    unfold dctI
    simp only [h, mark, isMk]
    rfl
  unfold fDGetI
  rw [e]
  simp only [R.bind, e2, dGetI, hd, k]
theorem ev_dgetF {i : Int} {x : D} {ds : List (D × D)} (e : fa ρ s = .ok (.fd (mark :: ds)) s1) (e2 : fb ρ s1 = .ok (.d (.int i)) s2) (k : lookI ds i = some x) : fDGetI fa fb ρ s = .ok (.d x) s2 := by
  have hd : dctI (.fd (mark :: ds)) s2 = some ds := rfl
  unfold fDGetI
  rw [e]
  simp only [R.bind, e2, dGetI, hd, k]
theorem ev_cpy {n : Nat} {ds : List D} (e : fa ρ s = .ok (.c n) s1) (h : s1[n]? = some (.lst ds)) : fCpyC (fCons fa fNil) ρ s = .ok (.c s1.length) (s1 ++ [.lst ds]) := by
  unfold fCpyC fCons fNil
  rw [e]
  simp only [R.bind, cpyW, h]
theorem ev_lenA {n : Nat} {ds : List D} (e : fa ρ s = .ok (.c n) s1) (h : s1[n]? = some (.lst ds)) : fLenA (fCons fa fNil) ρ s = .ok (.d (.int ds.length)) s1 := by
  unfold fLenA fCons fNil
  rw [e]
  simp only [R.bind, lenW, h]
theorem ev_call1 {h : List W → CS → R W} {a : W} (e1 : fa ρ s = .ok a s1) {r : R W} (k : noX h [a] s1 = r) : fCall 1 h (fCons fa fNil) ρ s = r := by
  unfold fCall fCons fNil
  rw [e1]
  exact k
theorem ev_call2 {h : List W → CS → R W} {a b : W} (e1 : fa ρ s = .ok a s1) (e2 : fb ρ s1 = .ok b s2) {r : R W} (k : noX h [a, b] s2 = r) : fCall 2 h (fCons fa (fCons fb fNil)) ρ s = r := by
  unfold fCall fCons fNil
  rw [e1]
  simp only [R.bind, e2]
  exact k
theorem ev_call3 {h : List W → CS → R W} {a b c : W} (e1 : fa ρ s = .ok a s1) (e2 : fb ρ s1 = .ok b s2) (e3 : f ρ s2 = .ok c s3) {r : R W} (k : noX h [a, b, c] s3 = r) : fCall 3 h (fCons fa (fCons fb (fCons f fNil))) ρ s = r := by
  unfold fCall fCons fNil
  rw [e1]
  simp only [R.bind, e2, e3]
  exact k
theorem ev_P1 {h : List W → CS → R W} {a : D} (e1 : fa ρ s = .ok (.d a) s1) {r : R W} (k : pureR h [.d a] s1 = r) : fCallP 1 h (fCons fa fNil) ρ s = r := by
  unfold fCallP fCons fNil
  rw [e1]
  exact k
theorem ev_P2 {h : List W → CS → R W} {a b : D} (e1 : fa ρ s = .ok (.d a) s1) (e2 : fb ρ s1 = .ok (.d b) s2) {r : R W} (k : pureR h [.d a, .d b] s2 = r) : fCallP 2 h (fCons fa (fCons fb fNil)) ρ s = r := by
  unfold fCallP fCons fNil
  rw [e1]
  simp only [R.bind, e2]
  exact k
theorem ev_P3 {h : List W → CS → R W} {a b c : D} (e1 : fa ρ s = .ok (.d a) s1) (e2 : fb ρ s1 = .ok (.d b) s2) (e3 : f ρ s2 = .ok (.d c) s3) {r : R W} (k : pureR h [.d a, .d b, .d c] s3 = r) : fCallP 3 h (fCons fa (fCons fb (fCons f fNil))) ρ s = r := by
  unfold fCallP fCons fNil
  rw [e1]
  simp only [R.bind, e2, e3]
  exact k
theorem ev_P4 {h : List W → CS → R W} {g : En → CS → R W} {a b c d : D} {s4 : CS} (e1 : fa ρ s = .ok (.d a) s1) (e2 : fb ρ s1 = .ok (.d b) s2) (e3 : f ρ s2 = .ok (.d c) s3) (e4 : g ρ s3 = .ok (.d d) s4) {r : R W} (k : pureR h [.d a, .d b, .d c, .d d] s4 = r) : fCallP 4 h (fCons fa (fCons fb (fCons f (fCons g fNil)))) ρ s = r := by
  unfold fCallP fCons fNil
  rw [e1]
  simp only [R.bind, e2, e3, e4]
  exact k
theorem ev_sl {lo hi : fO} {x z : D} {a b : Option Int} (e : f ρ s = .ok (.d x) s1) (e2 : lo ρ s1 = .ok a s1) (e3 : hi ρ s1 = .ok b s1) (h : slD x a b = some z) : fSl f lo hi ρ s = .ok (.d z) s1 := by
  unfold fSl
  rw [e]
  simp only [R.bind, e2, e3, liftS, h]
theorem cut_all (n : Nat) : HT.sIx n 0 none = 0 := rfl
theorem init_is (l : List D) (x : D) : cutD (l ++ [x]) none (some (-1)) = l := by
  have h1 : HT.sIx (l ++ [x]).length (l ++ [x]).length (some (-1)) = l.length := by
    show HT.sIx (l ++ [x]).length (l ++ [x]).length (some (-1)) = _
    simp only [HT.sIx, List.length_append, List.length_singleton]
    rw [if_pos (by decide)]
    omega
  unfold cutD
  rw [h1]
  show ((l ++ [x]).drop 0).take (l.length - 0) = l
  simp
theorem ev_lc {vs : List Nat} {fi : En → CS → R (List D)} {h : W → En → Option En} {α : Type} {c g : α → D} {L : List α} (hi : fi ρ s = .ok (L.map c) s1) (hl : L.length ≤ 16777216)
    (hx : ∀ a ∈ L, ∃ ρ1, h (.d (c a)) (wipeE ρ vs) = some ρ1 ∧ f ρ1 s1 = .ok (.d (g a)) s1) : fLc vs fi h fYes f ρ s = .ok (.d (.list (L.map g))) s1 := by
  have go : ∀ L : List α, (∀ a ∈ L, ∃ ρ1, h (.d (c a)) (wipeE ρ vs) = some ρ1 ∧ f ρ1 s1 = .ok (.d (g a)) s1) → compL h fYes f (wipeE ρ vs) (L.map c) s1 = .ok (L.map g) s1 := by
    intro L
    induction L with
    | nil => intro _; rfl
    | cons a r ih =>
      intro hx
      obtain ⟨ρ1, e1, e2⟩ := hx a List.mem_cons_self
      rw [List.map_cons]
      unfold compL
      simp only [e1, fYes, R.bind0, if_true, e2, consR, ih fun b hb => hx b (List.mem_cons_of_mem _ hb), List.map_cons]
  unfold fLc
  rw [hi]
  show (if (L.map c).length ≤ line then _ else _) = _
  rw [if_pos (by rw [List.length_map]; exact hl), go L hx]
  rfl
/-- .. with a test -/
theorem ev_lcF {vs : List Nat} {fi : En → CS → R (List D)} {h : W → En → Option En} {t : En → CS → R Bool} {α : Type} {c g : α → D} {p : α → Bool} {L : List α} (hi : fi ρ s = .ok (L.map c) s1) (hl : L.length ≤ 16777216)
    (hx : ∀ a ∈ L, ∃ ρ1, h (.d (c a)) (wipeE ρ vs) = some ρ1 ∧ t ρ1 s1 = .ok (p a) s1 ∧ (p a = true → f ρ1 s1 = .ok (.d (g a)) s1)) : fLc vs fi h t f ρ s = .ok (.d (.list ((L.filter p).map g))) s1 := by
  have go : ∀ L : List α, (∀ a ∈ L, ∃ ρ1, h (.d (c a)) (wipeE ρ vs) = some ρ1 ∧ t ρ1 s1 = .ok (p a) s1 ∧ (p a = true → f ρ1 s1 = .ok (.d (g a)) s1)) → compL h t f (wipeE ρ vs) (L.map c) s1 = .ok ((L.filter p).map g) s1 := by
    intro L
    induction L with
    | nil => intro _; rfl
    | cons a r ih =>
      intro hx
      obtain ⟨ρ1, e1, e2, e3⟩ := hx a List.mem_cons_self
      have ih := ih fun b hb => hx b (List.mem_cons_of_mem _ hb)
      rw [List.map_cons]
      unfold compL
      rw [List.filter_cons]
      cases hp : p a with
      | true => simp only [e1, e2, hp, R.bind0, if_true, e3 hp, consR, ih, List.map_cons]
      | false => simp only [e1, e2, hp, R.bind0, Bool.false_eq_true, if_false, ih]
  unfold fLc
  rw [hi]
  show (if (L.map c).length ≤ line then _ else _) = _
  rw [if_pos (by rw [List.length_map]; exact hl), go L hx]
  rfl
/-- over a list that lives -/
theorem ev_lcA {vs : List Nat} {n : Nat} {ds : List D} {h : W → En → Option En} {t : En → CS → R Bool} {α : Type} {c g : α → D} {p : α → Bool} {L : List α} (e : fa ρ s = .ok (.c n) s1) (hc : s1[n]? = some (.lst ds)) (hi : enuD 0 ds = L.map c) (hl : ds.length ≤ 16777216)
    (hx : ∀ a ∈ L, ∃ ρ1, h (.d (c a)) (wipeE ρ vs) = some ρ1 ∧ t ρ1 s1 = .ok (p a) s1 ∧ (p a = true → f ρ1 s1 = .ok (.d (g a)) s1)) : fLcA vs (fEnuA (fCons fa fNil)) h t f ρ s = .ok (.d (.list ((L.filter p).map g))) s1 := by
  have go : ∀ L : List α, (∀ a ∈ L, ∃ ρ1, h (.d (c a)) (wipeE ρ vs) = some ρ1 ∧ t ρ1 s1 = .ok (p a) s1 ∧ (p a = true → f ρ1 s1 = .ok (.d (g a)) s1)) → compA n ds h t f (wipeE ρ vs) (L.map c) s1 = .ok ((L.filter p).map g) s1 := by
    intro L
    induction L with
    | nil => intro _; rw [List.map_nil]; unfold compA; rw [if_pos hc]; rfl
    | cons a r ih =>
      intro hx
      obtain ⟨ρ1, e1, e2, e3⟩ := hx a List.mem_cons_self
      have ih := ih fun b hb => hx b (List.mem_cons_of_mem _ hb)
      rw [List.map_cons]
      unfold compA
      rw [List.filter_cons, if_pos hc]
      cases hp : p a with
      | true => simp only [e1, e2, hp, R.bind0, if_true, e3 hp, consR, ih, List.map_cons]
      | false => simp only [e1, e2, hp, R.bind0, Bool.false_eq_true, if_false, ih]
  have e1 : fEnuA (fCons fa fNil) ρ s = .ok ⟨n⟩ s1 := by
    unfold fEnuA fCons fNil
    rw [e]
    simp only [R.bind, lvW, hc]
  unfold fLcA
  rw [e1]
  simp only [R.bind, hc]
  rw [if_pos (show ds.length ≤ line from hl), hi, go L hx]
  rfl
end
end DL
namespace DL
theorem enuL : ∀ {n : Nat} {ds : List D}, (enuD n ds).length = ds.length
  | _, [] => rfl
  | n, x :: r => by unfold enuD; rw [List.length_cons, List.length_cons, enuL]
theorem enuA : ∀ {n : Nat} {ds : List D} {i : Nat} {x : D}, ds[i]? = some x → (enuD n ds)[i]? = some (.tuple [.int ((n + i : Nat) : Int), x])
  | _, [], _, _, e => by simp at e
  | n, y :: r, 0, x, e => by
    simp at e
    subst e
    rfl
  | n, y :: r, i + 1, x, e => by
    have := enuA (n := n + 1) (ds := r) (i := i) (x := x) (by simpa using e)
    rw [show n + (i + 1) = n + 1 + i by omega]
    simpa [enuD] using this
/-! ### trees: pairs of a kind and what lies above -/
abbrev Tr := List (Nat × Int)
def abv (T : Tr) (i : Nat) : Int := match T[i]? with
  | some p => p.2
  | none => -1
def knd (T : Tr) (i : Nat) : Nat := match T[i]? with
  | some p => p.1
  | none => 0
theorem abv_at {T : Tr} {i : Nat} {p : Nat × Int} (h : T[i]? = some p) : abv T i = p.2 := by unfold abv; rw [h]
theorem knd_at {T : Tr} {i : Nat} {p : Nat × Int} (h : T[i]? = some p) : knd T i = p.1 := by unfold knd; rw [h]
structure Rk (N m : Nat) (T : Tr) (rk : Nat → Nat) : Prop where
  lt : ∀ i, i < T.length → rk i < N
  kd : ∀ i, i < T.length → knd T i ≤ m
  ab : ∀ i, i < T.length → abv T i = -1 ∨ ∃ j : Nat, abv T i = j ∧ j < T.length ∧ knd T j < m ∧ rk j < rk i
def WT (m : Nat) (T : Tr) : Prop := T.length ≤ 400 ∧ ∃ rk, Rk 1000 m T rk
/-- .. with room for more -/
def WTs (m : Nat) (T : Tr) : Prop := T.length ≤ 399 ∧ ∃ rk, Rk 400 m T rk
theorem WTs.wt {m : Nat} {T : Tr} (h : WTs m T) : WT m T := by
  obtain ⟨hl, rk, r⟩ := h
  exact ⟨by omega, rk, fun i hi => by have := r.lt i hi; omega, r.kd, r.ab⟩
/-- a place: the root, or a folder -/
def Pl (m : Nat) (T : Tr) (a : Int) : Prop := a = -1 ∨ ∃ j : Nat, a = j ∧ j < T.length ∧ knd T j < m
def up (T : Tr) : Nat → Int → List Nat
  | 0, _ => []
  | f + 1, a => if a < 0 then [] else a.toNat :: up T f (abv T a.toNat)
def upA (T : Tr) (a : Int) : List Nat := up T 1000 a
theorem up_fuel {N m : Nat} {T : Tr} {rk : Nat → Nat} (h : Rk N m T rk) : ∀ (f g : Nat) (a : Int), (a = -1 ∨ ∃ j : Nat, a = j ∧ j < T.length ∧ rk j < f ∧ rk j < g) → up T f a = up T g a
  | 0, 0, _, _ => rfl
  | 0, g + 1, a, q => by
    rcases q with rfl | ⟨j, _, _, h1, _⟩
    · rfl
    · omega
  | f + 1, 0, a, q => by
    rcases q with rfl | ⟨j, _, _, _, h1⟩
    · rfl
    · omega
  | f + 1, g + 1, a, q => by
    rcases q with rfl | ⟨j, rfl, hj, h1, h2⟩
    · rfl
    · unfold up
      rw [if_neg (by omega), if_neg (by omega), Int.toNat_natCast]
      congr 1
      refine up_fuel h f g _ ?_
      rcases h.ab j hj with e | ⟨i, e, hi, _, hr⟩
      · exact .inl e
      · exact .inr ⟨i, e, hi, by omega, by omega⟩
theorem upA_neg (T : Tr) : upA T (-1) = [] := rfl
theorem upA_step {m : Nat} {T : Tr} (h : WT m T) {j : Nat} (hj : j < T.length) : upA T (j : Int) = j :: upA T (abv T j) := by
  obtain ⟨_, rk, h⟩ := h
  show up T (999 + 1) (j : Int) = _
  unfold up
  rw [if_neg (by omega), Int.toNat_natCast]
  congr 1
  have hl := h.lt j hj
  refine up_fuel h 999 1000 _ ?_
  rcases h.ab j hj with e | ⟨i, e, hi, _, hr⟩
  · exact .inl e
  · exact .inr ⟨i, e, hi, by omega, by omega⟩
theorem WT.pl {m : Nat} {T : Tr} (h : WT m T) {j : Nat} (hj : j < T.length) : Pl m T (abv T j) := by
  obtain ⟨_, rk, h⟩ := h
  rcases h.ab j hj with e | ⟨i, e, hi, hk, _⟩
  · exact .inl e
  · exact .inr ⟨i, e, hi, hk⟩
/-- induction along the way down -/
theorem WT.ind {m : Nat} {T : Tr} (h : WT m T) {P : Nat → Prop} (k : ∀ j, j < T.length → (∀ i : Nat, abv T j = i → i < T.length → knd T i < m → P i) → P j) : ∀ j, j < T.length → P j := by
  obtain ⟨_, rk, h⟩ := h
  have : ∀ n j, rk j < n → j < T.length → P j := by
    intro n
    induction n with
    | zero => intro j hj; omega
    | succ n ih =>
      intro j hr hj
      refine k j hj fun i e hi _ => ?_
      rcases h.ab j hj with e2 | ⟨i2, e2, hi2, _, hr2⟩
      · rw [e] at e2; omega
      · rw [e] at e2
        have : i = i2 := by omega
        subst this
        exact ih i (by omega) hi
  exact fun j hj => this (rk j + 1) j (by omega) hj
theorem up_mem {m : Nat} {T : Tr} (h : WT m T) : ∀ j, j < T.length → ∀ i ∈ upA T (abv T j), i < T.length ∧ knd T i < m := by
  refine h.ind (P := fun j => ∀ i ∈ upA T (abv T j), i < T.length ∧ knd T i < m) fun j hj ih i hi => ?_
  rcases h.pl hj with e | ⟨p, e, hp, hk⟩
  · rw [e, upA_neg] at hi; cases hi
  · rw [e, upA_step h hp] at hi
    rcases List.mem_cons.mp hi with rfl | hi
    · exact ⟨hp, hk⟩
    · exact ih p e hp hk i hi
theorem up_memP {m : Nat} {T : Tr} (h : WT m T) {a : Int} (ha : Pl m T a) : ∀ i ∈ upA T a, i < T.length ∧ knd T i < m := by
  intro i hi
  rcases ha with rfl | ⟨j, rfl, hj, hk⟩
  · rw [upA_neg] at hi; cases hi
  · rw [upA_step h hj] at hi
    rcases List.mem_cons.mp hi with rfl | hi
    · exact ⟨hj, hk⟩
    · exact up_mem h j hj i hi
/-! ### from the root down -/
def ch (T : Tr) (a : Int) : List Nat := (List.range T.length).filter fun i => decide (abv T i = a)
theorem ch_mem {T : Tr} {a : Int} {i : Nat} : i ∈ ch T a ↔ i < T.length ∧ abv T i = a := by
  unfold ch
  rw [List.mem_filter, List.mem_range, decide_eq_true_eq]
theorem nodup_sub {α : Type} [DecidableEq α] : ∀ (l D : List α), l.Nodup → (∀ x ∈ l, x ∈ D) → l.length ≤ D.length
  | [], _, _, _ => Nat.zero_le _
  | x :: l, D, nd, h => by
    have nx := (List.nodup_cons.mp nd).1
    have ih := nodup_sub l (D.erase x) (List.nodup_cons.mp nd).2 fun y hy => (List.mem_erase_of_ne (fun e => nx (by rw [← e]; exact hy))).mpr (h y (List.mem_cons_of_mem _ hy))
    have hx := h x List.mem_cons_self
    rw [List.length_erase_of_mem hx] at ih
    have : 0 < D.length := List.length_pos_of_mem hx
    rw [List.length_cons]
    omega
theorem nodup_ix {l : List Nat} (h : l.Nodup) {i j x : Nat} (a : l[i]? = some x) (b : l[j]? = some x) : i = j := by
  obtain ⟨hi, ei⟩ := List.getElem?_eq_some_iff.mp a
  exact (List.getElem?_inj hi h).mp (a.trans b.symm)
structure BI (T : Tr) (d : Nat) (F : List Nat) : Prop where
  nd : F.Nodup
  lt : ∀ j ∈ F, j < T.length
  hi : d ≤ F.length
  par : ∀ (p j : Nat), F[p]? = some j → abv T j = -1 ∨ ∃ (e i : Nat), e < p ∧ e < d ∧ F[e]? = some i ∧ abv T j = ((i : Nat) : Int)
  cl : ∀ j, j < T.length → (abv T j = -1 ∨ ∃ (e i : Nat), e < d ∧ F[e]? = some i ∧ abv T j = ((i : Nat) : Int)) → j ∈ F
theorem BI.len {T : Tr} {d : Nat} {F : List Nat} (h : BI T d F) : F.length ≤ T.length := by
  have := nodup_sub F (List.range T.length) h.nd fun x hx => List.mem_range.mpr (h.lt x hx)
  rw [List.length_range] at this
  exact this
theorem nodup_range_filter (n : Nat) (p : Nat → Bool) : ((List.range n).filter p).Nodup := List.Nodup.sublist List.filter_sublist List.nodup_range
theorem BI.start (T : Tr) : BI T 0 (ch T (-1)) where
  nd := nodup_range_filter _ _
  lt := fun j hj => (ch_mem.mp hj).1
  hi := Nat.zero_le _
  par := fun p j e => .inl (ch_mem.mp (List.mem_of_getElem? e)).2
  cl := fun j hj q => by
    rcases q with e | ⟨e, i, h, _⟩
    · exact ch_mem.mpr ⟨hj, e⟩
    · omega
theorem BI.step {T : Tr} {d : Nat} {F : List Nat} (h : BI T d F) {i : Nat} (hi : F[d]? = some i) : BI T (d + 1) (F ++ ch T (i : Int)) := by
  obtain ⟨hd, ei⟩ := List.getElem?_eq_some_iff.mp hi
  refine ⟨?_, ?_, ?_, ?_, ?_⟩
  · refine List.nodup_append.mpr ⟨h.nd, nodup_range_filter _ _, fun x hx y hy => ?_⟩
    rintro rfl
    obtain ⟨_, ey⟩ := ch_mem.mp hy
    obtain ⟨p, hp, ex⟩ := List.mem_iff_getElem.mp hx
    rcases h.par p x (by rw [List.getElem?_eq_getElem hp, ex]) with e | ⟨e, i2, _, he, e2, e3⟩
    · rw [ey] at e; omega
    · rw [ey] at e3
      have : i = i2 := by omega
      subst this
      have := nodup_ix h.nd e2 hi
      omega
  · intro j hj
    rcases List.mem_append.mp hj with z | z
    · exact h.lt j z
    · exact (ch_mem.mp z).1
  · rw [List.length_append]; omega
  · intro p j e
    by_cases hp : p < F.length
    · rw [List.getElem?_append_left hp] at e
      rcases h.par p j e with z | ⟨q, k, h1, h2, h3, h4⟩
      · exact .inl z
      · exact .inr ⟨q, k, h1, by omega, by rw [List.getElem?_append_left (by omega)]; exact h3, h4⟩
    · rw [List.getElem?_append_right (by omega)] at e
      have := (ch_mem.mp (List.mem_of_getElem? e)).2
      exact .inr ⟨d, i, by omega, by omega, by rw [List.getElem?_append_left hd]; exact hi, this⟩
  · intro j hj q
    rcases q with e | ⟨e, k, h1, h2, h3⟩
    · exact List.mem_append_left _ (h.cl j hj (.inl e))
    · by_cases he : e < d
      · rw [List.getElem?_append_left (by omega)] at h2
        exact List.mem_append_left _ (h.cl j hj (.inr ⟨e, k, he, h2, h3⟩))
      · have : e = d := by omega
        subst this
        rw [List.getElem?_append_left hd, hi] at h2
        cases h2
        exact List.mem_append_right _ (ch_mem.mpr ⟨hj, h3⟩)
theorem BI.all {m : Nat} {T : Tr} (w : WT m T) {d : Nat} {F : List Nat} (h : BI T d F) (hd : d = F.length) : ∀ j, j < T.length → j ∈ F := by
  refine w.ind (P := fun j => j ∈ F) fun j hj ih => h.cl j hj ?_
  rcases w.pl hj with e | ⟨i, e, hi, hk⟩
  · exact .inl e
  · obtain ⟨p, hp, ep⟩ := List.mem_iff_getElem.mp (ih i e hi hk)
    exact .inr ⟨p, i, by omega, by rw [List.getElem?_eq_getElem hp, ep], e⟩
/-- all things, each behind the folder in which it lies -/
structure Down (T : Tr) (F : List Nat) : Prop where
  lt : ∀ j ∈ F, j < T.length
  nd : F.Nodup
  all : ∀ j, j < T.length → j ∈ F
  par : ∀ (p j : Nat), F[p]? = some j → abv T j = -1 ∨ ∃ (e i : Nat), e < p ∧ F[e]? = some i ∧ abv T j = ((i : Nat) : Int)
theorem BI.down {m : Nat} {T : Tr} (w : WT m T) {d : Nat} {F : List Nat} (h : BI T d F) (hd : d = F.length) : Down T F :=
  ⟨h.lt, h.nd, h.all w hd, fun p j e => (h.par p j e).imp id fun ⟨q, i, a, _, c, d⟩ => ⟨q, i, a, c, d⟩⟩
/-! ### the same tree, numbered otherwise -/
def re (N : List Nat) (a : Int) : Int := if a < 0 then a else ((N.getD a.toNat 0 : Nat) : Int)
structure Mix (N : List Nat) (T T' : Tr) : Prop where
  len : T'.length = T.length
  pm : N.Perm (List.range T.length)
  ats : ∀ (i : Nat) (p : Nat × Int), T[i]? = some p → ∃ k : Nat, N[i]? = some k ∧ T'[k]? = some (p.1, re N p.2)
theorem Mix.nl {N : List Nat} {T T' : Tr} (h : Mix N T T') : N.length = T.length := by rw [h.pm.length_eq, List.length_range]
theorem Mix.nd {N : List Nat} {T T' : Tr} (h : Mix N T T') : N.Nodup := h.pm.nodup_iff.mpr List.nodup_range
theorem Mix.ata {N : List Nat} {T T' : Tr} (h : Mix N T T') {i : Nat} (hi : i < T.length) : N.getD i 0 < T'.length ∧ N[i]? = some (N.getD i 0) ∧ knd T' (N.getD i 0) = knd T i ∧ abv T' (N.getD i 0) = re N (abv T i) := by
  obtain ⟨k, e1, e2⟩ := h.ats i T[i] (List.getElem?_eq_getElem hi)
  have ek : N.getD i 0 = k := by rw [List.getD_eq_getElem?_getD, e1]; rfl
  rw [ek]
  refine ⟨(List.getElem?_eq_some_iff.mp e2).1, e1, ?_, ?_⟩
  · rw [knd_at e2, knd_at (List.getElem?_eq_getElem hi)]
  · rw [abv_at e2, abv_at (List.getElem?_eq_getElem hi)]
theorem Mix.back {N : List Nat} {T T' : Tr} (h : Mix N T T') {k : Nat} (hk : k < T'.length) : ∃ i, i < T.length ∧ N.getD i 0 = k := by
  have : k ∈ N := h.pm.mem_iff.mpr (List.mem_range.mpr (by rw [← h.len]; exact hk))
  obtain ⟨i, hi, e⟩ := List.mem_iff_getElem.mp this
  exact ⟨i, by rw [← h.nl]; exact hi, by rw [List.getD_eq_getElem?_getD, List.getElem?_eq_getElem hi, e]; rfl⟩
theorem Mix.inj {N : List Nat} {T T' : Tr} (h : Mix N T T') {i j : Nat} (hi : i < T.length) (hj : j < T.length) (e : N.getD i 0 = N.getD j 0) : i = j := by
  obtain ⟨_, a, _⟩ := h.ata hi
  obtain ⟨_, b, _⟩ := h.ata hj
  rw [← e] at b
  exact nodup_ix h.nd a b
open Classical in
theorem Mix.rk {M m : Nat} {N : List Nat} {T T' : Tr} (h : Mix N T T') {rk : Nat → Nat} (r : Rk M m T rk) : ∃ rk', Rk M m T' rk' := by
  refine ⟨fun k => if q : ∃ i, i < T.length ∧ N.getD i 0 = k then rk (Classical.choose q) else 0, ?_⟩
  have key : ∀ i, i < T.length → (if q : ∃ j, j < T.length ∧ N.getD j 0 = N.getD i 0 then rk (Classical.choose q) else 0) = rk i := by
    intro i hi
    have q : ∃ j, j < T.length ∧ N.getD j 0 = N.getD i 0 := ⟨i, hi, rfl⟩
    rw [dif_pos q]
    obtain ⟨a, b⟩ := Classical.choose_spec q
    rw [h.inj a hi b]
  refine ⟨fun k hk => ?_, fun k hk => ?_, fun k hk => ?_⟩
  · obtain ⟨i, hi, rfl⟩ := h.back hk
    show (if q : ∃ j, j < T.length ∧ N.getD j 0 = N.getD i 0 then rk (Classical.choose q) else 0) < M
    rw [key i hi]
    exact r.lt i hi
  · obtain ⟨i, hi, rfl⟩ := h.back hk
    rw [(h.ata hi).2.2.1]
    exact r.kd i hi
  · obtain ⟨i, hi, rfl⟩ := h.back hk
    rw [(h.ata hi).2.2.2]
    rcases r.ab i hi with e | ⟨j, e, hj, hk, hr⟩
    · left
      rw [e]
      rfl
    · right
      refine ⟨N.getD j 0, ?_, (h.ata hj).1, by rw [(h.ata hj).2.2.1]; exact hk, ?_⟩
      · rw [e]
        unfold re
        rw [if_neg (by omega), Int.toNat_natCast]
      · show (if q : ∃ l, l < T.length ∧ N.getD l 0 = N.getD j 0 then rk (Classical.choose q) else 0) < (if q : ∃ l, l < T.length ∧ N.getD l 0 = N.getD i 0 then rk (Classical.choose q) else 0)
        rw [key i hi, key j hj]
        exact hr
theorem Mix.wt {m : Nat} {N : List Nat} {T T' : Tr} (h : Mix N T T') (w : WT m T) : WT m T' := by
  obtain ⟨hl, rk, r⟩ := w
  exact ⟨by rw [h.len]; exact hl, h.rk r⟩
theorem Mix.wts {m : Nat} {N : List Nat} {T T' : Tr} (h : Mix N T T') (w : WTs m T) : WTs m T' := by
  obtain ⟨hl, rk, r⟩ := w
  exact ⟨by rw [h.len]; exact hl, h.rk r⟩
theorem Mix.up {m : Nat} {N : List Nat} {T T' : Tr} (h : Mix N T T') (w : WT m T) : ∀ (f : Nat) (a : Int), (a = -1 ∨ ∃ j : Nat, a = j ∧ j < T.length) → DL.up T' f (re N a) = (DL.up T f a).map fun i => N.getD i 0
  | 0, _, _ => rfl
  | f + 1, a, q => by
    rcases q with rfl | ⟨j, rfl, hj⟩
    · rfl
    · have er : re N (j : Int) = ((N.getD j 0 : Nat) : Int) := by unfold re; rw [if_neg (by omega), Int.toNat_natCast]
      rw [er]
      unfold DL.up
      rw [if_neg (by omega), if_neg (by omega), Int.toNat_natCast, Int.toNat_natCast, List.map_cons, (h.ata hj).2.2.2]
      congr 1
      refine Mix.up h w f _ ?_
      rcases w.pl hj with e | ⟨i, e, hi, _⟩
      · exact .inl e
      · exact .inr ⟨i, e, hi⟩
/-! ### what a kind makes along a path -/
def pcF {α : Type} (F : Nat → α → α) (b : α) (T : Tr) (a : Int) : α := (upA T a).foldr (fun j c => F (knd T j) c) b
theorem pcF_neg {α : Type} (F : Nat → α → α) (b : α) (T : Tr) : pcF F b T (-1) = b := rfl
theorem pcF_step {α : Type} {F : Nat → α → α} {b : α} {m : Nat} {T : Tr} (h : WT m T) {j : Nat} (hj : j < T.length) : pcF F b T (j : Int) = F (knd T j) (pcF F b T (abv T j)) := by
  unfold pcF
  rw [upA_step h hj]
  rfl
theorem Mix.pc {α : Type} {F : Nat → α → α} {b : α} {m : Nat} {N : List Nat} {T T' : Tr} (h : Mix N T T') (w : WT m T) {a : Int} (ha : a = -1 ∨ ∃ j : Nat, a = j ∧ j < T.length) (hu : ∀ i ∈ upA T a, i < T.length) : pcF F b T' (re N a) = pcF F b T a := by
  have e : upA T' (re N a) = (upA T a).map fun i => N.getD i 0 := h.up w 1000 a ha
  unfold pcF
  rw [e, List.foldr_map]
  generalize upA T a = L at hu
  induction L with
  | nil => rfl
  | cons i r ih =>
    rw [List.foldr_cons, List.foldr_cons, (h.ata (hu i List.mem_cons_self)).2.2.1, ih fun x hx => hu x (List.mem_cons_of_mem _ hx)]
/-! ### a thing more -/
theorem abv_app {T : Tr} {p : Nat × Int} {j : Nat} (h : j < T.length) : abv (T ++ [p]) j = abv T j := by
  unfold abv
  rw [List.getElem?_append_left h]
theorem knd_app {T : Tr} {p : Nat × Int} {j : Nat} (h : j < T.length) : knd (T ++ [p]) j = knd T j := by
  unfold knd
  rw [List.getElem?_append_left h]
theorem abv_new {T : Tr} {p : Nat × Int} : abv (T ++ [p]) T.length = p.2 := abv_at (by simp)
theorem knd_new {T : Tr} {p : Nat × Int} : knd (T ++ [p]) T.length = p.1 := knd_at (by simp)
theorem WTs.app {m : Nat} {T : Tr} (w : WTs m T) {k : Nat} {a : Int} (hk : k ≤ m) (ha : Pl m T a) : WT m (T ++ [(k, a)]) := by
  obtain ⟨hl, rk, r⟩ := w
  have lt1 : ∀ i, i < (T ++ [(k, a)]).length → i < T.length ∨ i = T.length := fun i hi => by
    rw [List.length_append, List.length_singleton] at hi
    omega
  refine ⟨by rw [List.length_append, List.length_singleton]; omega, fun i => if i < T.length then rk i else 500, fun i hi => ?_, fun i hi => ?_, fun i hi => ?_⟩
  · show (if i < T.length then rk i else 500) < 1000
    split
    · rename_i h
      have := r.lt i h
      omega
    · omega
  · rcases lt1 i hi with h | rfl
    · rw [knd_app h]; exact r.kd i h
    · rw [knd_new]; exact hk
  · rcases lt1 i hi with h | rfl
    · rw [abv_app h]
      refine (r.ab i h).imp id fun ⟨j, e, hj, hkj, hr⟩ => ⟨j, e, by rw [List.length_append]; omega, by rw [knd_app hj]; exact hkj, ?_⟩
      show (if j < T.length then rk j else 500) < (if i < T.length then rk i else 500)
      rw [if_pos hj, if_pos h]
      exact hr
    · rw [abv_new]
      refine ha.imp id fun ⟨j, e, hj, hkj⟩ => ⟨j, e, by rw [List.length_append]; omega, by rw [knd_app hj]; exact hkj, ?_⟩
      show (if j < T.length then rk j else 500) < (if T.length < T.length then rk T.length else 500)
      rw [if_pos hj, if_neg (by omega)]
      have := r.lt j hj
      omega
theorem up_app {m : Nat} {T : Tr} (w : WT m T) (p : Nat × Int) : ∀ (f : Nat) (a : Int), (a = -1 ∨ ∃ j : Nat, a = j ∧ j < T.length) → DL.up (T ++ [p]) f a = DL.up T f a
  | 0, _, _ => rfl
  | f + 1, a, q => by
    rcases q with rfl | ⟨j, rfl, hj⟩
    · rfl
    · unfold DL.up
      rw [if_neg (by omega), if_neg (by omega), Int.toNat_natCast, abv_app hj]
      congr 1
      refine up_app w p f _ ?_
      rcases w.pl hj with e | ⟨i, e, hi, _⟩
      · exact .inl e
      · exact .inr ⟨i, e, hi⟩
theorem pcF_app {α : Type} {F : Nat → α → α} {b : α} {m : Nat} {T : Tr} (w : WT m T) (p : Nat × Int) {a : Int} (ha : Pl m T a) : pcF F b (T ++ [p]) a = pcF F b T a := by
  have hu := up_memP w ha
  have e : upA (T ++ [p]) a = upA T a := up_app w p 1000 a (ha.imp id fun ⟨j, a, b, _⟩ => ⟨j, a, b⟩)
  unfold pcF
  rw [e]
  generalize upA T a = L at hu
  induction L with
  | nil => rfl
  | cons i r ih => rw [List.foldr_cons, List.foldr_cons, knd_app (hu i List.mem_cons_self).1, ih fun x hx => hu x (List.mem_cons_of_mem _ hx)]
/-! ### sorting does not ask for the order -/
theorem insL_comm {α : Type} {le : α → α → Bool} {P : α → Prop} (tot : ∀ a b, P a → P b → le a b = true ∨ le b a = true) (asy : ∀ a b, P a → P b → le a b = true → le b a = true → a = b) (tr : ∀ a b c, P a → P b → P c → le a b = true → le b c = true → le a c = true) {x y : α} (hx : P x) (hy : P y) : ∀ l : List α, (∀ z ∈ l, P z) → insL le x (insL le y l) = insL le y (insL le x l)
  | [], _ => by
    show (if le x y = true then [x, y] else [y, x]) = (if le y x = true then [y, x] else [x, y])
    by_cases a : le x y = true
    · by_cases b : le y x = true
      · rw [asy x y hx hy a b]
      · rw [if_pos a, if_neg b]
    · have b := (tot x y hx hy).resolve_left a
      rw [if_neg a, if_pos b]
  | z :: r, h => by
    have hz := h z List.mem_cons_self
    have ih := insL_comm tot asy tr hx hy r fun w hw => h w (List.mem_cons_of_mem _ hw)
    by_cases p : le x z = true
    · by_cases q : le y z = true
      · have e1 : insL le y (z :: r) = y :: z :: r := by rw [insL, if_pos q]
        have e2 : insL le x (z :: r) = x :: z :: r := by rw [insL, if_pos p]
        rw [e1, e2]
        by_cases a : le x y = true
        · by_cases b : le y x = true
          · rw [asy x y hx hy a b]
          · rw [insL, if_pos a, insL, if_neg b, e1]
        · have b := (tot x y hx hy).resolve_left a
          rw [insL, if_neg a, e2, insL, if_pos b]
      · have e1 : insL le y (z :: r) = z :: insL le y r := by rw [insL, if_neg q]
        have e2 : insL le x (z :: r) = x :: z :: r := by rw [insL, if_pos p]
        have nb : ¬ le y x = true := fun b => q (tr y x z hy hx hz b p)
        rw [e1, e2, insL, if_pos p, insL, if_neg nb, e1]
    · by_cases q : le y z = true
      · have e1 : insL le y (z :: r) = y :: z :: r := by rw [insL, if_pos q]
        have e2 : insL le x (z :: r) = z :: insL le x r := by rw [insL, if_neg p]
        have nb : ¬ le x y = true := fun b => p (tr x y z hx hy hz b q)
        rw [e1, e2, insL, if_neg nb, e2, insL, if_pos q]
      · have e1 : insL le y (z :: r) = z :: insL le y r := by rw [insL, if_neg q]
        have e2 : insL le x (z :: r) = z :: insL le x r := by rw [insL, if_neg p]
        rw [e1, e2, insL, if_neg p, insL, if_neg q, ih]
theorem isortL_sub {α : Type} {le : α → α → Bool} {z : α} {l : List α} (h : z ∈ isortL le l) : z ∈ l := isortL_mem.mp h
theorem isortL_perm {α : Type} {le : α → α → Bool} {P : α → Prop} (tot : ∀ a b, P a → P b → le a b = true ∨ le b a = true) (asy : ∀ a b, P a → P b → le a b = true → le b a = true → a = b) (tr : ∀ a b c, P a → P b → P c → le a b = true → le b c = true → le a c = true) {l l' : List α} (h : l.Perm l') (hp : ∀ z ∈ l, P z) : isortL le l = isortL le l' := by
  induction h with
  | nil => rfl
  | cons x _ ih => show insL le x _ = insL le x _; rw [ih fun z hz => hp z (List.mem_cons_of_mem _ hz)]
  | swap x y l => exact insL_comm tot asy tr (hp y (by simp)) (hp x (by simp)) _ fun z hz => hp z (List.mem_cons_of_mem _ (List.mem_cons_of_mem _ (isortL_sub hz)))
  | trans a _ ih1 ih2 => exact (ih1 hp).trans (ih2 fun z hz => hp z (a.mem_iff.mpr hz))
end DL
namespace DL
open PySem PySem.Spec PyProof.Rows L2
/-! ### states with a pen that draws -/
def Ext (s0 s : CS) : Prop := ∃ p t, IsPen p ∧ s = s0.set 0 p ++ t
theorem Ext.refl {s : CS} (h : Pn s) : Ext s s := by
  obtain ⟨p, e, hp⟩ := h
  exact ⟨p, [], hp, (set_id e).symm⟩
theorem Ext.pn {s0 s : CS} (h0 : Pn s0) (h : Ext s0 s) : Pn s := by
  obtain ⟨p, t, hp, rfl⟩ := h
  exact h0.set hp t
theorem Ext.trans {s0 s1 s2 : CS} (h0 : Pn s0) (h : Ext s0 s1) (k : Ext s1 s2) : Ext s0 s2 := by
  obtain ⟨p, t, hp, rfl⟩ := h
  obtain ⟨q, u, hq, rfl⟩ := k
  exact ⟨q, t ++ u, hq, set_set h0 _ _ _ _⟩
theorem Ext.len {s0 s : CS} (h : Ext s0 s) : s0.length ≤ s.length := by
  obtain ⟨p, t, hp, rfl⟩ := h
  rw [List.length_append, List.length_set]
  omega
theorem Ext.get {s0 s : CS} (h : Ext s0 s) {n : Nat} {c : Cell} (hn : 0 < n) (e : s0[n]? = some c) : s[n]? = some c := by
  obtain ⟨p, t, hp, rfl⟩ := h
  rw [List.getElem?_append_left (by rw [List.length_set]; exact (List.getElem?_eq_some_iff.mp e).1), List.getElem?_set_ne (by omega)]
  exact e
theorem Ext.set {s0 s : CS} (h : Ext s0 s) {n : Nat} (hn : s0.length ≤ n) (c : Cell) : Ext s0 (s.set n c) := by
  obtain ⟨p, t, hp, rfl⟩ := h
  refine ⟨p, t.set (n - s0.length) c, hp, ?_⟩
  rw [List.set_append_right _ _ (by rw [List.length_set]; exact hn), List.length_set]
theorem Ext.app {s0 s : CS} (h : Ext s0 s) (u : CS) : Ext s0 (s ++ u) := by
  obtain ⟨p, t, hp, rfl⟩ := h
  exact ⟨p, t ++ u, hp, by rw [List.append_assoc]⟩
theorem Sp.run {α : Type} {f : CS → R α} {P : α → Prop} (h : Sp f P) {s : CS} (hs : Pn s) : ∃ w s', f s = .ok w s' ∧ Ext s s' ∧ P w := by
  obtain ⟨w, p, t, hp, e, hw⟩ := h s hs
  exact ⟨w, _, e, ⟨p, t, hp, rfl⟩, hw⟩
theorem sp_of {α : Type} {f : CS → R α} {P : α → Prop} (h : ∀ s, Pn s → ∃ w s', f s = .ok w s' ∧ Ext s s' ∧ P w) : Sp f P := fun s hs => by
  obtain ⟨w, s', e, ⟨p, t, hp, rfl⟩, hw⟩ := h s hs
  exact ⟨w, p, t, hp, e, hw⟩
theorem ev_args1 {ρ : En} {s s1 : CS} {fa : En → CS → R W} {a : W} (e1 : fa ρ s = .ok a s1) : fCons fa fNil ρ s = .ok [a] s1 := by
  unfold fCons fNil
  rw [e1]
  rfl
theorem ev_args2 {ρ : En} {s s1 s2 : CS} {fa fb : En → CS → R W} {a b : W} (e1 : fa ρ s = .ok a s1) (e2 : fb ρ s1 = .ok b s2) : fCons fa (fCons fb fNil) ρ s = .ok [a, b] s2 := by
  unfold fCons fNil
  rw [e1]
  simp only [R.bind, e2]
theorem ev_args3 {ρ : En} {s s1 s2 s3 : CS} {fa fb fc : En → CS → R W} {a b c : W} (e1 : fa ρ s = .ok a s1) (e2 : fb ρ s1 = .ok b s2) (e3 : fc ρ s2 = .ok c s3) : fCons fa (fCons fb (fCons fc fNil)) ρ s = .ok [a, b, c] s3 := by
  unfold fCons fNil
  rw [e1]
  simp only [R.bind, e2, e3]
theorem add_lists {a b : List D} (h : a.length + b.length ≤ 16777216) : addD (.list a) (.list b) = some (.list (a ++ b)) := if_pos h
theorem add_tuples {a b : List D} (h : a.length + b.length ≤ 16777216) : addD (.tuple a) (.tuple b) = some (.tuple (a ++ b)) := if_pos h
theorem wp_law {n : Nat} {g : En → CS → RT} {w : W} (h : WP g (startE n [w]) [] noC noC fun w _ => w = .d (.bool true)) : ∃ s, fnR 1 n g [w] [] = .ok (.d (.bool true)) s := by
  obtain ⟨w', s', e, rfl⟩ := wp_def (m := 1) rfl h
  refine ⟨s', ?_⟩
  unfold noX at e
  cases z : fnR 1 n g [w] [] with
  | ok x s => rw [z] at e; exact e
  | exc x s => rw [z] at e; cases e
  | bad => rw [z] at e; cases e
theorem ev_lenS {ρ : En} {s : CS} {i : Nat} {ns : List Int} (e : ρ[i]? = some (some (.sc ns))) : fLenA (fCons (fVar i) fNil) ρ s = .ok (.d (.int (ns.length : Nat))) s := by
  unfold fLenA
  rw [ev_args1 (ev_v e)]
  rfl
theorem turns_is (n : Nat) : ∃ k : Nat, minA [.int 6, .int (n : Nat)] = some (.int (k : Nat)) ∧ k ≤ 6 := by
  by_cases h : ((n : Nat) : Int) < 6
  · exact ⟨n, congrArg (fun x => some (PyData.int x)) (if_pos h), by omega⟩
  · exact ⟨6, congrArg (fun x => some (PyData.int x)) (if_neg h), by omega⟩
theorem max_is (j k : Nat) : ∃ q : Nat, max2D [.int (j : Nat), .int (k : Nat)] = some (.int (q : Nat)) ∧ q ≤ j + k := by
  by_cases h : ((k : Nat) : Int) > (j : Int)
  · exact ⟨k, congrArg (fun x => some (PyData.int x)) (if_pos h), by omega⟩
  · exact ⟨j, congrArg (fun x => some (PyData.int x)) (if_neg h), by omega⟩
theorem wp_asg0 {f : En → CS → R W} {ρ : En} {s : CS} {w : W} {i : Nat} {N C : En → CS → Prop} {Z : W → CS → Prop} (e : f ρ s = .ok w s) (h : N (ρ.set i (some w)) s) : WP (gAsg (hN i) f) ρ s N C Z := wp_asg e h
theorem Pn.len {s : CS} (h : Pn s) : 0 < s.length := h.ne
theorem get_new (s : CS) (c : Cell) : (s ++ [c])[s.length]? = some c := by simp
end DL
namespace DL
open PySem PySem.Spec PyProof.Rows L2
/-! ### turned round -/
theorem pick_all {α : Type} : ∀ ys : List α, (List.range ys.length).filterMap (fun k => ys[k]?) = ys
  | [] => rfl
  | y :: t => by
    rw [List.length_cons, List.range_succ_eq_map, List.filterMap_cons, List.filterMap_map]
    show y :: (List.range t.length).filterMap (fun k => (y :: t)[k + 1]?) = _
    have : (fun k => (y :: t)[k + 1]?) = fun k => t[k]? := by
      funext k
      exact List.getElem?_cons_succ
    rw [this, pick_all t]
theorem pick_rev {α : Type} (xs : List α) : pick xs ((List.range xs.length).map fun k => xs.length - 1 - k) = xs.reverse := by
  unfold pick
  rw [List.filterMap_map]
  have h := pick_all xs.reverse
  rw [List.length_reverse] at h
  rw [← h]
  have go : ∀ L : List Nat, (∀ k ∈ L, k < xs.length) → L.filterMap (fun k => xs[xs.length - 1 - k]?) = L.filterMap fun k => xs.reverse[k]? := by
    intro L
    induction L with
    | nil => intro _; rfl
    | cons a r ih =>
      intro hL
      have e : xs[xs.length - 1 - a]? = xs.reverse[a]? := (List.getElem?_reverse (hL a List.mem_cons_self)).symm
      rw [List.filterMap_cons, List.filterMap_cons, e, ih fun k hk => hL k (List.mem_cons_of_mem _ hk)]
  exact go _ fun k hk => List.mem_range.mp hk
theorem tIx_rev (n : Nat) : tIx n none none (-1) = (List.range n).map fun k => n - 1 - k := by
  unfold tIx
  have e1 : (Builtin.Slice.sliceAdjust none none (-1) n) = ((n : Int) - 1, -1) := rfl
  rw [e1]
  have e2 : Builtin.Slice.slicePlaces ((n : Int) - 1) (-1) (-1) = n := by
    unfold Builtin.Slice.slicePlaces
    rw [if_neg (by decide)]
    by_cases h : (n : Int) - 1 > -1
    · rw [if_pos h]
      have : (((n : Int) - 1 - -1 - 1) / - -1 + 1) = n := by
        rw [show - -(1 : Int) = 1 from rfl, Int.ediv_one]
        omega
      rw [this, Int.toNat_natCast]
    · rw [if_neg h]
      show (0 : Int).toNat = n
      omega
  show (List.range (Builtin.Slice.slicePlaces ((n : Int) - 1) (-1) (-1))).map _ = _
  rw [e2]
  refine List.map_congr_left fun k hk => ?_
  have := List.mem_range.mp hk
  show ((n : Int) - 1 + (k : Int) * (-1)).toNat = _
  omega
theorem lIx_rev (n : Nat) : lIx n none none (-1) = (List.range n).map fun k => n - 1 - k := by
  unfold lIx
  have e1 : (sliceBounds none none (some (-1)) n) = ((n : Int) - 1, -1, -1) := rfl
  rw [e1]
  show sliceRange ((n : Int) - 1) (-1) (-1) = _
  unfold sliceRange
  have e2 : (if (-1 : Int) > 0 then (if (n : Int) - 1 < -1 then (-1 - ((n : Int) - 1) + -1 - 1) / -1 else 0) else (if (n : Int) - 1 > -1 then ((n : Int) - 1 - -1 - -1 - 1) / (- -1) else 0)) = (n : Int) := by
    rw [if_neg (by decide)]
    by_cases h : (n : Int) - 1 > -1
    · rw [if_pos h, show - -(1 : Int) = 1 from rfl, Int.ediv_one]
      omega
    · rw [if_neg h]
      omega
  rw [e2]
  show (List.range ((n : Int)).toNat).map _ = _
  rw [Int.toNat_natCast]
  refine List.map_congr_left fun k hk => ?_
  have := List.mem_range.mp hk
  show ((n : Int) - 1 + (-1) * (k : Int)).toNat = _
  omega
theorem step_revT {ds : List D} (h : ds.length ≤ 16777216) : slStD none none (-1) (.tuple ds) = some (.tuple ds.reverse) := by
  unfold slStD
  rw [if_neg (by decide)]
  simp only
  rw [if_neg (by decide), if_pos (by rw [tIx_rev, List.length_map, List.length_range]; exact h), tIx_rev, pick_rev]
theorem step_revL {ds : List D} (h : ds.length ≤ 16777216) : slStD none none (-1) (.list ds) = some (.list ds.reverse) := by
  unfold slStD
  rw [if_neg (by decide)]
  simp only
  rw [if_pos (by rw [lIx_rev, List.length_map, List.length_range]; exact h), lIx_rev, pick_rev]
theorem ev_step {f : En → CS → R W} {lo hi st : fO} {ρ : En} {s s1 : CS} {x z : D} {a b : Option Int} {k : Int} (e : f ρ s = .ok (.d x) s1) (e2 : lo ρ s1 = .ok a s1) (e3 : hi ρ s1 = .ok b s1) (e4 : st ρ s1 = .ok (some k) s1) (h : slStD a b k x = some z) : fStep f lo hi st ρ s = .ok (.d z) s1 := by
  unfold fStep
  rw [e]
  simp only [R.bind, e2, e3, e4, h]
/-! ### a sorted list stays -/
theorem isortL_id {α : Type} {le : α → α → Bool} : ∀ l : List α, l.Pairwise (fun a b => le a b = true) → isortL le l = l
  | [], _ => rfl
  | x :: r, h => by
    have ⟨h1, h2⟩ := List.pairwise_cons.mp h
    show insL le x (isortL le r) = _
    rw [isortL_id r h2]
    cases r with
    | nil => rfl
    | cons y t =>
      unfold insL
      rw [if_pos (h1 y List.mem_cons_self)]
/-! ### dicts made by a comprehension, two clauses -/
theorem comp_all {h : W → En → Option En} {f : En → CS → R W} {ρ : En} {s : CS} {α : Type} {c g : α → D} : ∀ L : List α, (∀ a ∈ L, ∃ ρ1, h (.d (c a)) ρ = some ρ1 ∧ f ρ1 s = .ok (.d (g a)) s) → compL h fYes f ρ (L.map c) s = .ok (L.map g) s
  | [], _ => rfl
  | a :: r, hx => by
    obtain ⟨ρ1, e1, e2⟩ := hx a List.mem_cons_self
    have ih := comp_all r fun b hb => hx b (List.mem_cons_of_mem _ hb)
    rw [List.map_cons]
    unfold compL
    simp only [e1, fYes, R.bind0, if_true, e2, consR, ih, List.map_cons]
theorem comp_filter {h : W → En → Option En} {t : En → CS → R Bool} {f : En → CS → R W} {ρ : En} {s : CS} {α : Type} {c g : α → D} {p : α → Bool} : ∀ L : List α, (∀ a ∈ L, ∃ ρ1, h (.d (c a)) ρ = some ρ1 ∧ t ρ1 s = .ok (p a) s ∧ (p a = true → f ρ1 s = .ok (.d (g a)) s)) → compL h t f ρ (L.map c) s = .ok ((L.filter p).map g) s
  | [], _ => rfl
  | a :: r, hx => by
    obtain ⟨ρ1, e1, e2, e3⟩ := hx a List.mem_cons_self
    have ih := comp_filter r fun b hb => hx b (List.mem_cons_of_mem _ hb)
    rw [List.map_cons]
    unfold compL
    rw [List.filter_cons]
    cases hp : p a with
    | true => simp only [e1, e2, hp, R.bind0, if_true, e3 hp, consR, ih, List.map_cons]
    | false => simp only [e1, e2, hp, R.bind0, Bool.false_eq_true, if_false, ih]
theorem anyI_no : ∀ (ds : List (D × D)) (i : Int), (∀ p ∈ ds, ∃ j, p.1 = .int j ∧ j ≠ i) → anyI ds i = false
  | [], _, _ => rfl
  | p :: r, i, h => by
    obtain ⟨j, e, hj⟩ := h p List.mem_cons_self
    obtain ⟨x, y⟩ := p
    have e : x = .int j := e
    subst e
    simp only [anyI, isI_int, decide_eq_true_eq, hj, if_false]
    exact anyI_no r i fun q hq => h q (List.mem_cons_of_mem _ hq)
theorem mkX_nd {α : Type} {k : α → Int} {g : α → D} : ∀ (L : List α) (acc : List (D × D)), (∀ a ∈ L, ∀ p ∈ acc, ∃ j, p.1 = .int j ∧ j ≠ k a) → (L.map k).Nodup → (L.map fun a => PyData.tuple [.int (k a), g a]).foldl (stepX true) acc = acc ++ L.map fun a => (.int (k a), g a)
  | [], acc, _, _ => by rw [List.map_nil, List.map_nil, List.append_nil]; rfl
  | a :: r, acc, h, hn => by
    rw [List.map_cons] at hn
    have ⟨n1, n2⟩ := List.nodup_cons.mp hn
    rw [List.map_cons, List.foldl_cons]
    have e : stepX true acc (.tuple [.int (k a), g a]) = acc ++ [(.int (k a), g a)] := by
      show putI acc (k a) (g a) = _
      unfold putI
      rw [anyI_no acc (k a) (h a List.mem_cons_self), if_neg (by decide)]
    rw [e, mkX_nd r _ ?_ n2, List.append_assoc]
    · rfl
    · intro b hb p hp
      rcases List.mem_append.mp hp with z | z
      · exact h b (List.mem_cons_of_mem _ hb) p z
      · rw [List.mem_singleton.mp z]
        exact ⟨k a, rfl, fun e => n1 (by rw [e]; exact List.mem_map.mpr ⟨b, hb, rfl⟩)⟩
theorem ev_dcI {vs : List Nat} {fi : En → CS → R (List D)} {h : W → En → Option En} {fk fv : En → CS → R W} {ρ : En} {s s1 : CS} {α : Type} {c : α → D} {k : α → Int} {g : α → D} {L : List α} (hi : fi ρ s = .ok (L.map c) s1) (hl : L.length ≤ 16777216) (hnd : (L.map k).Nodup)
    (hx : ∀ a ∈ L, ∃ ρ1, h (.d (c a)) (wipeE ρ vs) = some ρ1 ∧ fk ρ1 s1 = .ok (.d (.int (k a))) s1 ∧ fv ρ1 s1 = .ok (.d (g a)) s1) : fDc outC true vs fi h fYes fk fv ρ s = .ok (.c s1.length) (s1 ++ [.dct (mark :: L.map fun a => (.int (k a), g a))]) := by
  have e := comp_all (f := fPr true fk fv) (g := fun a => .tuple [.int (k a), g a]) (s := s1) (ρ := wipeE ρ vs) (h := h) (c := c) L fun a ha => by
    obtain ⟨ρ1, e1, e2, e3⟩ := hx a ha
    refine ⟨ρ1, e1, ?_⟩
    unfold fPr
    rw [e2]
    simp only [R.bind0, e3]
    rfl
  unfold fDc
  rw [hi]
  simp only [R.bind]
  rw [if_pos (show (L.map c).length ≤ line by rw [List.length_map]; exact hl), e]
  have := mkX_nd (k := k) (g := g) L [] (fun a ha p hp => by cases hp) hnd
  rw [List.nil_append] at this
  show outC (mark :: mkX true ([] ++ L.map fun a => .tuple [.int (k a), g a])) s1 = _
  unfold mkX
  rw [List.nil_append, this]
  rfl
theorem consA_at {k : CS → R (List D)} {s : CS} {ys : List D} (e : k s = .ok ys s) : ∀ zs : List D, consA k zs s = .ok (zs ++ ys) s
  | [] => e
  | z :: r => by
    show (consA k r s).bind0 (fun ys s => .ok (z :: ys) s) = _
    rw [consA_at e r]
    rfl
theorem comp2_all {vs1 : List Nat} {h : W → En → Option En} {fi1 : En → CS → R (List D)} {h1 : W → En → Option En} {t1 : En → CS → R Bool} {f : En → CS → R W} {ρ : En} {s : CS} {α : Type} {c : α → D} {G : α → List D} : ∀ L : List α, (∀ a ∈ L, ∃ ρ1 ys, h (.d (c a)) ρ = some ρ1 ∧ fi1 ρ1 s = .ok ys s ∧ ys.length ≤ 4096 ∧ compL h1 t1 f (wipeE ρ1 vs1) ys s = .ok (G a) s) → comp2 vs1 h fYes fi1 h1 t1 f ρ (L.map c) s = .ok (L.flatMap G) s
  | [], _ => rfl
  | x :: r, k => by
    obtain ⟨ρ1, ys, e1, e2, e3, e4⟩ := k x (List.mem_cons_self ..)
    have ih := comp2_all r fun y hy => k y (List.mem_cons_of_mem _ hy)
    rw [List.map_cons]
    unfold comp2
    rw [e1]
    show (fi1 ρ1 s).bind0 (fun ys s => if ys.length ≤ 4096 then appR (compL h1 t1 f (wipeE ρ1 vs1) ys s) (fun s => comp2 vs1 h fYes fi1 h1 t1 f ρ (r.map c) s) else .bad) = _
    rw [e2]
    show (if ys.length ≤ 4096 then appR (compL h1 t1 f (wipeE ρ1 vs1) ys s) (fun s => comp2 vs1 h fYes fi1 h1 t1 f ρ (r.map c) s) else .bad) = _
    rw [if_pos e3, e4]
    show consA _ (G x) s = _
    rw [consA_at ih (G x)]
    rfl
theorem ev_lc2 {vs vs1 : List Nat} {fi : En → CS → R (List D)} {h : W → En → Option En} {fi1 : En → CS → R (List D)} {h1 : W → En → Option En} {t1 : En → CS → R Bool} {f : En → CS → R W} {ρ : En} {s s1 : CS} {α : Type} {c : α → D} {G : α → List D} {L : List α} (hi : fi ρ s = .ok (L.map c) s1) (hl : L.length ≤ 4096)
    (hx : ∀ a ∈ L, ∃ ρ1 ys, h (.d (c a)) (wipeE ρ vs) = some ρ1 ∧ fi1 ρ1 s1 = .ok ys s1 ∧ ys.length ≤ 4096 ∧ compL h1 t1 f (wipeE ρ1 vs1) ys s1 = .ok (G a) s1) : fLc2 vs vs1 fi h fYes fi1 h1 t1 f ρ s = .ok (.d (.list (L.flatMap G))) s1 := by
  unfold fLc2
  rw [hi]
  show (if (L.map c).length ≤ 4096 then _ else _) = _
  rw [if_pos (by rw [List.length_map]; exact hl), comp2_all L hx]
  rfl
theorem ev_and {t u : En → CS → R Bool} {ρ : En} {s : CS} {a b : Bool} (e : t ρ s = .ok a s) (e2 : a = true → u ρ s = .ok b s) : fAnd t u ρ s = .ok (a && b) s := by
  unfold fAnd
  rw [e]
  cases a with
  | true => exact e2 rfl
  | false => rfl
def isNone : D → Bool
  | .none => true
  | _ => false
theorem ev_isN {neg : Bool} {f : En → CS → R W} {ρ : En} {s s1 : CS} {x : D} (e : f ρ s = .ok (.d x) s1) : fIsN neg f ρ s = .ok (.d (.bool (xor neg (isNone x)))) s1 := by
  unfold fIsN
  rw [e]
  cases neg <;> cases x <;> rfl
theorem ev_rng2 {f g : En → CS → R W} {ρ : En} {s s1 s2 : CS} {i j : Int} (e1 : f ρ s = .ok (.d (.int i)) s1) (e2 : g ρ s1 = .ok (.d (.int j)) s2) (h : -(2 ^ 62) ≤ i ∧ i < 2 ^ 62 ∧ -(2 ^ 62) ≤ j ∧ j < 2 ^ 62) : fRng2 f g ρ s = .ok (rngD i (j - i).toNat) s2 := by
  unfold fRng2
  rw [e1]
  simp only [R.bind, e2]
  rw [if_pos h]
theorem small62 {i : Int} (h : -1000000 ≤ i) (h2 : i < 1000000) : -(2 ^ 62) ≤ i ∧ i < 2 ^ 62 := ⟨by omega, by omega⟩
theorem cut_take (X : List D) (k : Nat) : DL.cutD X none (some (k : Int)) = X.take k := by
  unfold DL.cutD
  have h1 : HT.sIx X.length X.length (some (k : Int)) = min k X.length := by
    simp only [HT.sIx]
    rw [if_neg (by omega), Int.toNat_natCast]
  rw [h1]
  show (X.drop 0).take (min k X.length - 0) = _
  rw [List.drop_zero, Nat.sub_zero]
  by_cases h : k ≤ X.length
  · rw [Nat.min_eq_left h]
  · rw [Nat.min_eq_right (by omega), List.take_of_length_le (Nat.le_refl _), List.take_of_length_le (by omega)]
theorem flat_len' {α β : Type} {G : α → List β} {k : Nat} : ∀ L : List α, (∀ x ∈ L, (G x).length ≤ k) → (L.flatMap G).length ≤ L.length * k
  | [], _ => Nat.zero_le _
  | x :: r, h => by
    rw [List.flatMap_cons, List.length_append, List.length_cons, Nat.succ_mul]
    have h1 := h x List.mem_cons_self
    have h2 := flat_len' r fun y hy => h y (List.mem_cons_of_mem _ hy)
    omega
/-! ### data that can be laid: whole numbers in rows -/
theorem lay_all : ∀ {L : List D} {n : Nat}, (∀ x ∈ L, x.canLay0 = true ∧ x.depth ≤ n) → PyData.canLayAll0 L = true ∧ PyData.depthAll L ≤ n
  | [], _, _ => ⟨rfl, Nat.zero_le _⟩
  | x :: r, n, h => by
    obtain ⟨a, b⟩ := lay_all (L := r) fun y hy => h y (List.mem_cons_of_mem _ hy)
    obtain ⟨c, d⟩ := h x List.mem_cons_self
    refine ⟨by simp only [PyData.canLayAll0, c, a, Bool.and_self], ?_⟩
    simp only [PyData.depthAll]
    omega
theorem lay_tuple {L : List D} {n : Nat} (h : ∀ x ∈ L, x.canLay0 = true ∧ x.depth ≤ n) : (PyData.tuple L).canLay0 = true ∧ (PyData.tuple L).depth ≤ n + 1 := by
  obtain ⟨a, b⟩ := lay_all h
  exact ⟨by simpa only [PyData.canLay0] using a, by simp only [PyData.depth]; omega⟩
theorem lay_list {L : List D} {n : Nat} (h : ∀ x ∈ L, x.canLay0 = true ∧ x.depth ≤ n) : (PyData.list L).canLay0 = true ∧ (PyData.list L).depth ≤ n + 1 := by
  obtain ⟨a, b⟩ := lay_all h
  exact ⟨by simpa only [PyData.canLay0] using a, by simp only [PyData.depth]; omega⟩
theorem shaped_of {x : D} {n : Nat} (h : x.canLay0 = true ∧ x.depth ≤ n) (hn : n ≤ 60) : SeqAt.shaped x = true := by
  unfold SeqAt.shaped
  rw [Bool.and_eq_true]
  exact ⟨h.1, decide_eq_true (by have := h.2; omega)⟩
end DL
namespace PySem
namespace Er_LimitExceeded
open PySem.W PySem.Calls PyProof.Rows PySem.HandSPX
/-! ### the text of __init__ -/
def iA (p1 p2 : Pos) : Arguments := { posonlyargs := [], args := [{ arg := "self", annotation := none, pos := p1 }, { arg := "limit", annotation := none, pos := p2 }], vararg := none, kwonlyargs := [], kw_defaults := [], kwarg := none, defaults := [] }
def iB (q1 q2 q3 q4 : Pos) : List Stmt := [.Assign [.Attribute (.Name "self" q1) "limit" q2] (.Name "limit" q3) q4]
def iS : Scope := { kind := .function, names := [(PySem.Str.ofString "self", .local), (PySem.Str.ofString "limit", .local)], isGenerator := false, isCoroutine := false, more := [] }
abbrev oeB : List Value := [.type "OverflowError", .type "ArithmeticError", .type "Exception", .type "BaseException", .type "object"]
/-- what the written part says of Low, at C, and of its __init__, at fI -/
structure LowTxt (K : Frag) (mg : Str → Option Value) (C fI : Addr) : Prop where
  gC : mg "LimitExceeded" = some (.ref C)
  cls : ∃ nm q N bs bm sn sub ab col dd k0 k1 k2 k3 k5, K.lookup C = some (excClassObj nm q C N bs bm true sn sub ab col dd k0 k1 k2 k3 k5 "OverflowError.__new__") ∧ excTail oeB bm = true
  sa : findIn K (.ref C) "__setattr__" = some (some (.builtin "object.__setattr__"))
  ga : findIn K (.ref C) "__getattribute__" = some (some (.builtin "BaseException.__getattribute__"))
  gg : findIn K (.ref C) "__getattr__" = some none
  noN : findIn K (.ref C) "limit" = some none
  iC : findIn K (.ref C) "__init__" = some (some (.ref fI))
  tC : typeIn K (.ref fI) = some (.type "function")
  kC : keepIn K (.ref C) = true
  exC : subIn K (.ref C) (.type "BaseException") = some true
  tyC : typeIn K (.ref C) = some (.type "type")
  hdC : hasDictIn K C = true
  te : exmOne K (.ref C) (.ref C) = some true
  fn : ∃ (oc : Value) (od : Option Addr) (doc pm : Value) (an : Option Addr) (cdv ct : Value) (osl : Array (Option Value)) (p1 p2 q1 q2 q3 q4 : Pos),
    K.lookup fI = some ⟨oc, od, .func (fnOf "__init__" "LimitExceeded.__init__" (iA p1 p2) (iB q1 q2 q3 q4) iS .none .none doc pm an cdv ct), osl⟩ ∧ codeIn K cdv "LimitExceeded.__init__" = true
theorem one_size (v : Value) : [v].length ≤ sizeLine := by
  rw [sizeLine_eq]
  exact (by decide : 1 ≤ 16777216)
theorem kept_but {K : Frag} {h h' : Heap} {x : Addr} (X : K.In h) (hx : K.lookup x = none) (k : ∀ b o, b ≠ x → h.get? b = some o → h'.get? b = some o) : K.In h' := fun a o e =>
  k a o (fun z => by rw [z, hx] at e; cases e) (X a o e)
theorem ldC {M : Model} {s : Shared} {name : Str} {scope : Scope} {L a : Addr} {cd : Value} {m : Str → Option Value} {x : Str} {pos : Pos} {v : Value} {Q : Value → Shared → Prop} {A : Around} {E : Value → Shared → Prop} (hn : s.heap.Ns L m) (hv : m x = some v) (h : Q v s)
    (hk : scope.kind = .function := by rfl) (hl : (envOfC name scope L a cd).kindOf x = some .local := by rfl) (hd : (x == ("__debug__" : Str)) = false := by decide) :
    wpAny M A (eval (.Name x pos) (envOfC name scope L a cd)) Q E s := wpAny_Name (wpAny_loadName_local hk hl hn hv h) hd
/-- what __init__ leaves of a fresh exception at x -/
structure InitEnd (h h' : Heap) (x C dx t1 : Addr) (v : Value) : Prop where
  keep : ∀ b o, b ≠ x → h.get? b = some o → h'.get? b = some o
  obj : h'.get? x = some { cls := .ref C, dict := some dx, data := .fields #[.ref t1, .none, .none, .none, .bool false, .none] }
  dbig : h.objs.size ≤ dx
  dne : dx ≠ x
  ns : h'.Ns1 dx (fun y => if y = "limit" then some v else none)
/-- a made Low -/
structure OwnMade (h h' : Heap) (e C d : Addr) (v : Value) : Prop where
  keep : ∀ b o, h.get? b = some o → h'.get? b = some o
  new : h.objs.size ≤ e
  obj : ∃ oe vs, h'.get? e = some oe ∧ oe.cls = .ref C ∧ oe.dict = some d ∧ oe.data = .fields vs ∧ vs[1]? = some .none
  dbig : h.objs.size ≤ d
  dne : d ≠ e
  ns : h'.Ns1 d (fun y => if y = "limit" then some v else none)
section
variable {prog : Program} {w : World} {A : Around} {E : Value → Shared → Prop} {R : Result → Shared → Prop} {s : Shared} {K : Frag} {mg : Str → Option Value} {C fI : Addr}
theorem low_init (T : LowTxt K mg C fI) {x t0 : Addr} {v : Value} (X : K.In s.heap) (hlim : s.heap.NoLimit) (hx : s.heap.get? x = some (excO C t0)) (hnx : K.lookup x = none) (hroom : A.depth < recursionLimit)
    (hq : ∀ h' tk dx, InitEnd s.heap h' x C dx t0 v → R (.ok (.ret .none)) { s with heap := h', toks := tk }) :
    codeAny (model prog w) A (.call (.ref fI) ⟨[.ref x, v], []⟩) R s := by
  obtain ⟨oc, od, doc, pm, an, cdv, ct, osl, p1, p2, q1, q2, q3, q4, ho, hcd⟩ := T.fn
  obtain ⟨nm, q, N, bs, bm, sn, sub, ab, col, dd, k0, k1, k2, k3, k5, hC, hbm⟩ := T.cls
  have hcl : clsIn K C = some { name := nm, bases := bs, mro := .ref C :: bm, ns := N, qualname := q, hasDict := true, slotNames := sn, subclasses := sub, abstract := ab, collection := col, hasDel := false } := by unfold clsIn; rw [hC] <;> rfl
  refine Att.call_fn (binds := [("self", .ref x), ("limit", v)]) X hlim ho hcd hroom (BindsTo.of_eq (by first | rfl | with_unfolding_all rfl)) (by first | rfl | decide | with_unfolding_all rfl) (fun s₁ IC => ?_) rfl rfl rfl
  obtain ⟨h₁, tk₁, rfl⟩ := IC.toInCall.same
  have k : ∀ b o, s.heap.get? b = some o → h₁.get? b = some o := IC.toInCall.keep
  have hn := IC.toInCall.ns
  have hxL : s.heap.objs.size ≠ x := Nat.ne_of_gt (Heap.lt_size hx)
  have X₁ : K.In h₁ := X.keeps k
  have hx₁ := k _ _ hx
  -- self.by = by
  show wpAny _ _ (execs _ _) _ _ _
  refine wpAny_execs_cons (plainObj_wpAny_Assign_Attribute ?_)
  refine ldC (v := v) hn (by first | rfl | with_unfolding_all rfl | kernel_rfl) (ldC (v := .ref x) hn (by first | rfl | with_unfolding_all rfl | kernel_rfl) ?_)
  refine set_plain X₁ (ox := excO C t0) (od := none) ⟨hx₁, rfl, rfl, trivial⟩ T.sa ?_
  have ov : excOver K C oeB = true := by
    unfold excOver
    rw [hcl]
    show (C == C && excTail oeB bm) = true
    rw [hbm, beq_self_eq_true, Bool.and_true]
  have tk0 : takerIn K C "limit" = some none := by
    unfold takerIn
    rw [T.noN]
    rfl
  refine osa_openX (od := none) F.store_OverflowError X₁ ⟨hx₁, rfl, rfl, trivial⟩ ov tk0 fun bq => ?_
  have lk : Looks (model prog w) h₁ (classData C) _ := looks_clsIn X₁ hcl
  have xn : x ≠ h₁.objs.size := fun z => Nat.lt_irrefl _ (z ▸ Heap.lt_size hx₁)
  show wpAny _ _ (Builtin.ObjectAttr.storeInOwnDict (.ref x) (.ref C) _ _ v bq) _ _ _
  unfold Builtin.ObjectAttr.storeInOwnDict
  unfold Builtin.ObjectAttr.ownDictForStores
  repeat (first | with_reducible refine lk.at ?_ | with_reducible refine wpAny_loadPart_at hx₁ ?_ | with_reducible refine store_in_new ?_ ?_ | wp_step)
  · have nw := (Heap.get?_push_at (h := h₁) (o := { cls := .type "dict", data := .dict #[] }) rfl rfl)
    refine ⟨_, #[], _, (Eq.trans (Heap.get?_update_ne _ _ _ _ (Ne.symm xn)) nw), rfl, fun e he => absurd he (by simp), fun _ => rfl⟩
  intro h₃ tk₃ hn₃ sb
  have k₃ : ∀ b o, b ≠ x → h₁.get? b = some o → h₃.get? b = some o := fun b o hb ho => by
    rw [sb.2 b (fun z => Nat.lt_irrefl _ (z ▸ Heap.lt_size ho)), Heap.get?_update_ne _ _ _ _ hb]
    exact Heap.get?_push_of_some _ ho
  have hx₃ : h₃.get? x = some { cls := .ref C, dict := some h₁.objs.size, data := .fields #[.ref t0, .none, .none, .none, .bool false, .none] } := by
    rw [sb.2 x xn]
    exact Heap.get?_update_self _ (Heap.get?_push_of_some _ hx₁) rfl
  have dn := Nat.le_refl h₁.objs.size
  have dne := Ne.symm xn
  show wpAny _ _ (execs _ _) _ _ _
  have z : s.heap.objs.size < h₁.objs.size := hn.lt
  exact wpAny_execs_nil (hq h₃ tk₃ h₁.objs.size ⟨fun b o hb e => k₃ b o hb (k b o e), hx₃, Nat.le_of_lt (Nat.lt_of_lt_of_le z dn), dne, hn₃⟩)
theorem low_made (T : LowTxt K mg C fI) {v : Value} (X : K.In s.heap) (hlim : s.heap.NoLimit) (hroom : A.depth + 1 < recursionLimit)
    (hq : ∀ h' tk e d, OwnMade s.heap h' e C d v → R (.ok (.ret (.ref e))) { s with heap := h', toks := tk }) :
    codeAny (model prog w) A (.call (.ref C) ⟨[v], []⟩) R s := by
  obtain ⟨nm, q, N, bs, bm, sn, sub, ab, col, dd, k0, k1, k2, k3, k5, hC, hbm⟩ := T.cls
  obtain ⟨hp, g, dr, tk, os⟩ := s
  have k : ∀ b o, hp.get? b = some o → ((hp.push (kdv_tup [v])).push (excO C hp.objs.size)).get? b = some o := fun b o e => Heap.get?_push_of_some _ (Heap.get?_push_of_some _ e)
  have hget : ((hp.push (kdv_tup [v])).push (excO C hp.objs.size)).get? (hp.objs.size + 1) = some (excO C hp.objs.size) := by heap_get
  have hnx : K.lookup (hp.objs.size + 1) = none := by
    cases e : K.lookup (hp.objs.size + 1) with
    | none => rfl
    | some o =>
      have z : hp.get? (hp.objs.size + 1) = some o := X _ _ e
      exact absurd (Nat.lt_of_succ_lt (Heap.lt_size z)) (Nat.lt_irrefl _)
  refine call_own F.excBase_OverflowError (fun X => excTail_contains X bm hbm) (X _ _ hC) (looks_findIn X T.iC) (fun self => bind_fn X self T.tC) (one_size v) ?_
  refine low_init (s := ⟨(hp.push (kdv_tup [v])).push (excO C hp.objs.size), g, dr, tk, os⟩) T (X.keeps k) (hlim.keeps k) hget hnx ?_ fun h' tk' dx ⟨k', hx, dn, dne, hns⟩ => ?_
  · show A.depth + 1 < recursionLimit
    exact hroom
  · have old : ∀ b o, hp.get? b = some o → h'.get? b = some o := fun b o e => k' b o (Nat.ne_of_lt (Nat.lt_succ_of_lt (Heap.lt_size e))) (k b o e)
    have z : hp.objs.size + 1 + 1 ≤ dx := by
      first
        | (simpa only [Heap.size_push] using dn)
        | exact dn
        | (have q := dn; rw [Heap.size_push, Heap.size_push] at q; exact q)
    exact ⟨rfl, hq h' tk' (hp.objs.size + 1) dx ⟨old, Nat.le_succ _, ⟨_, _, hx, rfl, rfl, rfl, rfl⟩, Nat.le_trans (Nat.le_trans (Nat.le_succ _) (Nat.le_succ _)) z, dne, hns⟩⟩
end
end Er_LimitExceeded
end PySem
namespace L2
namespace Er_LimitExceeded
open PySem PySem.Spec PyProof.Rows
theorem relO_low {v : V} {v' : Value} (r : RelV v v') (f : Str) : RelO (List.lookup f [(("limit" : Str), v)]) (if f = "limit" then some v' else none) := by
  by_cases hw : f = "limit"
  · subst hw
    rw [if_pos rfl]
    have q : List.lookup ("limit" : Str) [(("limit" : Str), v)] = some v := by simp [List.lookup]
    rw [q]
    exact r
  · rw [if_neg hw]
    have qw : (f == ("limit" : Str)) = false := by simpa using hw
    have q2 : List.lookup f [(("limit" : Str), v)] = none := by simp [List.lookup, qw]
    rw [q2]
    trivial
section
variable {X : Cx} {C fI : Addr}
theorem pmk_low {a : Expr} {ta : TA} {p pos : Pos} {k : Nat} (T : PySem.Er_LimitExceeded.LowTxt X.K X.mg C fI) (hr : Room k X.A) (ha : PA X [a] ta) (hg : Gl X "LimitExceeded" := by rfl)
    (he : starEach (a :: []) X.env = (false, eval a X.env) :: starEach [] X.env := by rfl) (hpl : (backTo pos (starEach [] X.env)).any (·.1) = false := by rfl) :
    PMk X (.Call (.Name "LimitExceeded" p) [a] [] pos) (DL.tMk "limit" C ta) := by
  intro pins s σ H Q I h
  refine wpAny_Call_Name_kw (ld_glob I hg T.gC ?_)
  refine PySem.W.callWith_K (h₀ := X.base) I.ok.mod.kin T.kC (thn (ha.run pos pins s σ H _ I h) fun us s1 hh => ?_) he hpl
  obtain ⟨vs, H1, I1, r1, v, ev, q1⟩ := hh
  subst ev
  refine ⟨I1.kIn, ?_⟩
  cases r1 with
  | cons rv rn =>
    rename_i v' us'
    cases rn
    show wpAny _ _ (call (.ref C) [v']) _ _ _
    have hlim := I1.nolimit
    obtain ⟨hp, g, dr, tk, os⟩ := s1
    refine wpAny_call (PySem.Er_LimitExceeded.low_made T I1.kIn hlim (by have := hr.dp; omega) fun h' tk' e d M => ?_)
    show MkP X pins σ Q (.ref e) ⟨h', g, dr, tk', os⟩
    obtain ⟨oe, fv, hoe, hc, hd, hdat, h1⟩ := M.obj
    have hns := M.ns
    obtain ⟨G', g1, g2⟩ := restrict h' fun b => decide (b ≠ e)
    have gk : ∀ b, b ≠ e → G'.get? b = h'.get? b := fun b hb => g1 b (decide_eq_true hb)
    have ge : G'.get? e = none := g2 e (by simp)
    have old : ∀ b o, hp.get? b = some o → G'.get? b = some o := fun b o q => (gk b (Nat.ne_of_lt (Nat.lt_of_lt_of_le (Heap.lt_size q) M.new))).trans (M.keep b o q)
    have ob : ObjOk X.prog X.w (upd H1 d (.xd [(("limit" : Str), v)])) G' d (.xd [(("limit" : Str), v)]) :=
      ⟨_, hns.at (fun o q => (gk d M.dne).trans q), fun f => relO_low rv f⟩
    have J : Inv X pins σ (upd H1 d (.xd [(("limit" : Str), v)])) ⟨G', g, dr, tk', os⟩ := I1.laid (t' := tk') old M.dbig ob
    refine ⟨e, oe, fv, ⟨G', g, dr, tk', os⟩, _, .ref C, some d, rfl, J, fun b o q => ?_, ge, hoe, ⟨hc, hd⟩, hdat, h1, ?_, rfl, I1.bare, raises_own T.exC T.tyC, q1 d (I1.hok.fresh M.dbig)⟩
    · by_cases hb : b = e
      · have q' : G'.get? b = some o := q
        rw [hb, ge] at q'; cases q'
      · exact (gk b hb).symm.trans q
    · rw [upd_ne (Ne.symm M.dne)]
      exact I1.hok.fresh M.new
theorem pe_byLow {a : Addr} {oe : Obj} {cls : Value} {d : Option Addr} {pn : List (Addr × Obj)} {e : Expr} {te : TE} {pos : Pos} (T : PySem.Er_LimitExceeded.LowTxt X.K X.mg C fI) (hz : Zc cls d oe) (hf : ∃ vs, oe.data = .fields vs) (he : PE (X.suite a ((a, oe) :: pn)) e te)
    (hb : attributeBase e "limit" X.env (eval e X.env) = eval e X.env := by rfl) :
    PE (X.suite a ((a, oe) :: pn)) (.Attribute e "limit" pos) (DL.tBy "limit" C a cls d te) := by
  refine ⟨fun pins s σ H Q I h => ?_⟩
  refine attr_of hb (thn (he.run pins s σ H _ I h) fun u s1 hh => ?_)
  obtain ⟨x, H1, I1, rx, ex, ec, dd, v, ed, ea, q⟩ := hh
  subst ex
  obtain rfl : u = Value.ref a := rx
  subst ec
  subst ed
  obtain ⟨ha, _⟩ := I1.pin (a, oe) (List.mem_append_left _ List.mem_cons_self)
  obtain ⟨vs, hd⟩ := hf
  have hx : ObjOk X.prog X.w H1 s1.heap dd (.xd [(("limit" : Str), v)]) := I1.hok dd _ ea
  obtain ⟨mA, hns, hr⟩ := hx
  obtain ⟨od, ho, hl⟩ := lookIn_ns hns
  have l : List.lookup ("limit" : Str) [(("limit" : Str), v)] = some v := by simp [List.lookup]
  obtain ⟨u, hu, ru⟩ := RelO.some_of (v := v) (o := mA "limit") (by rw [← l]; exact hr "limit")
  have J : PySem.W.InstAt s1.heap a oe C (some od) := ⟨ha, hz.1, by unfold PySem.W.notCls; rw [hd] <;> rfl, by rw [hz.2]; exact ho⟩
  exact HandSPX.exc_get I1.kIn J T.ga T.gg T.exC (PySem.W.findObj_own T.hdC T.noN rfl (by rw [hl, hu])) (handed_of ru) ⟨v, H1, I1.tok _, ru, q⟩
end
/-- an error of the class at S is what «except S» names -/
theorem exm_self {K : PySem.W.Frag} {S : Addr} (h1 : PySem.W.subIn K (.ref S) (.type "BaseException") = some true) (h2 : PySem.W.isClsIn K S = true) (h3 : PySem.W.typeIn K (.ref S) = some (.type "type")) (h4 : PySem.W.subIn K (.ref S) (.ref S) = some true) :
    PySem.W.exmOne K (.ref S) (.ref S) = some true := by
  have e1 : (PySem.W.subIn K (.ref S) (.type "BaseException") == some true) = true := by rw [h1] <;> rfl
  have e2 : ((PySem.W.clsIn K S).isSome && PySem.W.typeIn K (.ref S) == some (.type "type")) = true := by
    have h2' : (PySem.W.clsIn K S).isSome = true := h2
    rw [h2', h3] <;> rfl
  show (if (PySem.W.subIn K (.ref S) (.type "BaseException") == some true) = true then (if ((PySem.W.clsIn K S).isSome && PySem.W.typeIn K (.ref S) == some (.type "type")) = true then PySem.W.subIn K (.ref S) (.ref S) else none) else none) = some true
  rw [if_pos e1, if_pos e2]
  exact h4
end Er_LimitExceeded
end L2
namespace K55
open PySem PySem.Spec PyProof.Rows L2 DL
/-! the text -/
def topS (i : Nat) : Stmt := PySem.Challenge.pw_movedfolders_k55_unfolded_at_the_bound.main.body.getD i (.Pass ⟨0, 0, 0, 0⟩)
abbrev xsum_of_s : Stmt := topS 3
abbrev xsum_of_N : List Str := ["cost", "other"]
theorem xsum_of_sc : FnScope xsum_of_N ["cost", "other"] (defScope xsum_of_s) := ⟨rfl, rfl, rfl, by decide +kernel, rfl, by decide +kernel, by decide +kernel⟩
abbrev xrow_costs_s : Stmt := topS 6
abbrev xrow_costs_N : List Str := ["ledger", "costs", "row"]
theorem xrow_costs_sc : FnScope xrow_costs_N ["ledger"] (defScope xrow_costs_s) := ⟨rfl, rfl, rfl, by decide +kernel, rfl, by decide +kernel, by decide +kernel⟩
abbrev xchain_cost_s : Stmt := topS 7
abbrev xchain_cost_N : List Str := ["costs", "chain", "total", "row"]
theorem xchain_cost_sc : FnScope xchain_cost_N ["costs", "chain"] (defScope xchain_cost_s) := ⟨rfl, rfl, rfl, by decide +kernel, rfl, by decide +kernel, by decide +kernel⟩
abbrev xused_rows_s : Stmt := topS 8
abbrev xused_rows_N : List Str := ["ledger", "chain", "used", "found", "k", "row"]
theorem xused_rows_sc : FnScope xused_rows_N ["ledger", "chain"] (defScope xused_rows_s) := ⟨rfl, rfl, rfl, by decide +kernel, rfl, by decide +kernel, by decide +kernel⟩
abbrev xcourse_cost_s : Stmt := topS 10
abbrev xcourse_cost_N : List Str := ["house", "rules", "item", "course", "ledger", "chain"]
theorem xcourse_cost_sc : FnScope xcourse_cost_N ["house", "rules", "item", "course"] (defScope xcourse_cost_s) := ⟨rfl, rfl, rfl, by decide +kernel, rfl, by decide +kernel, by decide +kernel⟩
abbrev xunfold_s : Stmt := topS 15
abbrev xunfold_N : List Str := ["house", "rules", "item", "course", "moves", "things", "others", "place", "steps"]
theorem xunfold_sc : FnScope xunfold_N ["house", "rules", "item", "course"] (defScope xunfold_s) := ⟨rfl, rfl, rfl, by decide +kernel, rfl, by decide +kernel, by decide +kernel⟩
abbrev xspread_s : Stmt := topS 16
abbrev xspread_N : List Str := ["course", "ledger", "chain", "parts", "k"]
theorem xspread_sc : FnScope xspread_N ["course"] (defScope xspread_s) := ⟨rfl, rfl, rfl, by decide +kernel, rfl, by decide +kernel, by decide +kernel⟩
abbrev xshifted_s : Stmt := topS 17
abbrev xshifted_N : List Str := ["place", "start"]
theorem xshifted_sc : FnScope xshifted_N ["place", "start"] (defScope xshifted_s) := ⟨rfl, rfl, rfl, by decide +kernel, rfl, by decide +kernel, by decide +kernel⟩
abbrev y_spread_row_s : Stmt := topS 18
abbrev y_spread_row_N : List Str := ["parts", "row", "kind", "chain", "others", "place", "moves"]
theorem y_spread_row_sc : FnScope y_spread_row_N ["parts", "row"] (defScope y_spread_row_s) := ⟨rfl, rfl, rfl, by decide +kernel, rfl, by decide +kernel, by decide +kernel⟩
abbrev y_spread_chain_s : Stmt := topS 19
abbrev y_spread_chain_N : List Str := ["parts", "chain", "own", "others", "places", "moves", "k", "start", "things", "place", "steps", "item", "above", "thing", "target"]
theorem y_spread_chain_sc : FnScope y_spread_chain_N ["parts", "chain"] (defScope y_spread_chain_s) := ⟨rfl, rfl, rfl, by decide +kernel, rfl, by decide +kernel, by decide +kernel⟩
abbrev y_law_stepped_s : Stmt := topS 21
abbrev y_law_stepped_N : List Str := ["_law_sizes", "_law_cells", "_law_step", "_law_word", "_law_cell", "_law_number"]
theorem y_law_stepped_sc : FnScope y_law_stepped_N ["_law_sizes", "_law_cells", "_law_step"] (defScope y_law_stepped_s) := ⟨rfl, rfl, rfl, by decide +kernel, rfl, by decide +kernel, by decide +kernel⟩
abbrev y_law_made_s : Stmt := topS 22
abbrev y_law_made_N : List Str := ["_law_house", "_law_content_here", "_law_kind", "_law_cells", "_law_step"]
theorem y_law_made_sc : FnScope y_law_made_N ["_law_house", "_law_content_here", "_law_kind"] (defScope y_law_made_s) := ⟨rfl, rfl, rfl, by decide +kernel, rfl, by decide +kernel, by decide +kernel⟩
abbrev y_law_path_s : Stmt := topS 23
abbrev y_law_path_N : List Str := ["_law_tree", "_law_thing", "_law_found"]
theorem y_law_path_sc : FnScope y_law_path_N ["_law_tree", "_law_thing"] (defScope y_law_path_s) := ⟨rfl, rfl, rfl, by decide +kernel, rfl, by decide +kernel, by decide +kernel⟩
abbrev y_law_content_s : Stmt := topS 24
abbrev y_law_content_N : List Str := ["_law_house", "_law_tree", "_law_thing", "_law_content_here", "_law_folder"]
theorem y_law_content_sc : FnScope y_law_content_N ["_law_house", "_law_tree", "_law_thing"] (defScope y_law_content_s) := ⟨rfl, rfl, rfl, by decide +kernel, rfl, by decide +kernel, by decide +kernel⟩
abbrev y_law_place_s : Stmt := topS 25
abbrev y_law_place_N : List Str := ["_law_house", "_law_tree", "_law_target", "_law_content_here"]
theorem y_law_place_sc : FnScope y_law_place_N ["_law_house", "_law_tree", "_law_target"] (defScope y_law_place_s) := ⟨rfl, rfl, rfl, by decide +kernel, rfl, by decide +kernel, by decide +kernel⟩
abbrev y_law_letting_s : Stmt := topS 26
abbrev y_law_letting_N : List Str := ["_law_house", "_law_rules", "_law_tree", "_law_thing", "_law_target", "_law_ahead", "_law_goal", "_law_index", "_law_item", "_law_starts", "_law_goals"]
theorem y_law_letting_sc : FnScope y_law_letting_N ["_law_house", "_law_rules", "_law_tree", "_law_thing", "_law_target"] (defScope y_law_letting_s) := ⟨rfl, rfl, rfl, by decide +kernel, rfl, by decide +kernel, by decide +kernel⟩
abbrev y_law_moved_s : Stmt := topS 27
abbrev y_law_moved_N : List Str := ["_law_tree", "_law_thing", "_law_target"]
theorem y_law_moved_sc : FnScope y_law_moved_N ["_law_tree", "_law_thing", "_law_target"] (defScope y_law_moved_s) := ⟨rfl, rfl, rfl, by decide +kernel, rfl, by decide +kernel, by decide +kernel⟩
abbrev y_law_ground_s : Stmt := topS 28
abbrev y_law_ground_N : List Str := []
theorem y_law_ground_sc : FnScope y_law_ground_N [] (defScope y_law_ground_s) := ⟨rfl, rfl, rfl, by decide +kernel, rfl, by decide +kernel, by decide +kernel⟩
abbrev y_law_counted_s : Stmt := topS 29
abbrev y_law_counted_N : List Str := ["_law_course", "_law_house", "_law_rules", "_law_tree", "_law_thing", "_law_moves", "e", "_law_one", "_law_target"]
theorem y_law_counted_sc : FnScope y_law_counted_N ["_law_course"] (defScope y_law_counted_s) := ⟨rfl, rfl, rfl, by decide +kernel, rfl, by decide +kernel, by decide +kernel⟩
abbrev y_law_things_right_s : Stmt := topS 30
abbrev y_law_things_right_N : List Str := ["_law_more", "_law_ledger", "_law_told", "_law_at", "_law_last"]
theorem y_law_things_right_sc : FnScope y_law_things_right_N ["_law_more"] (defScope y_law_things_right_s) := ⟨rfl, rfl, rfl, by decide +kernel, rfl, by decide +kernel, by decide +kernel⟩
abbrev y_law_moves_right_s : Stmt := topS 31
abbrev y_law_moves_right_N : List Str := ["_law_ledger", "_law_told", "_law_last", "_law_many"]
theorem y_law_moves_right_sc : FnScope y_law_moves_right_N [] (defScope y_law_moves_right_s) := ⟨rfl, rfl, rfl, by decide +kernel, rfl, by decide +kernel, by decide +kernel⟩
abbrev xlaw_s : Stmt := topS 32
abbrev xlaw_N : List Str := ["_law_script", "_law_cells", "_law_many", "_law_twice", "_law_told", "_law_nine", "_law_cell", "_law_at"]
theorem xlaw_sc : FnScope xlaw_N ["_law_script"] (defScope xlaw_s) := ⟨rfl, rfl, rfl, by decide +kernel, rfl, by decide +kernel, by decide +kernel⟩
/-! the mirrors -/
noncomputable section
def xsum_of_g : En → CS → RT := (gRet (fN tupD (fCons (f2 addD (f2 ixD (fVar 0) (fC (.int 0))) (f2 ixD (fVar 1) (fC (.int 0)))) (fCons (f2 addD (f2 ixD (fVar 0) (fC (.int 1))) (f2 ixD (fVar 1) (fC (.int 1)))) fNil))))
abbrev xsum_of_r : List W → CS → R W := fnR 2 2 xsum_of_g
def xchain_cost_g : En → CS → RT := (gSeq (gAsg (hN 2) (fN tupD (fCons (f2 fdivD (fN lenD (fCons (fVar 1) fNil)) (fC (.int 2))) (fCons (fC (.int 0)) fNil))))
    (gSeq (gFor (fIt (fStep (fVar 1) fO0 fO0 (fO1 (fC (.int 2))))) (hN 3) (gAsg (hN 2) (fCallP 2 (noX xsum_of_r) (fCons (fVar 2) (fCons (fIxA (fVar 0) (fVar 3)) fNil)))))
    (gRet (fVar 2))))
abbrev xchain_cost_r : List W → CS → R W := fnR 2 4 xchain_cost_g
def xrow_costs_g : En → CS → RT := (gSeq (gAsg (hN 1) (fNew fNil))
    (gSeq (gFor (fIt (fVar 0)) (hN 2) (gIf (fB (f2 eqD (fVar 2) (fC (.tuple [.str "root"])))) (gAppC (fVar 1) (fN tupD (fCons (fC (.int 0)) (fCons (fC (.int 0)) fNil)))) (gAppC (fVar 1) (fCallP 2 (noX xsum_of_r) (fCons (fCall 2 xchain_cost_r (fCons (fVar 1) (fCons (f2 ixD (fVar 2) (fC (.int 1))) fNil))) (fCons (fN tupD (fCons (fC (.int 0)) (fCons (fC (.int 1)) fNil))) fNil))))))
    (gRet (fFrz 1))))
abbrev xrow_costs_r : List W → CS → R W := fnR 1 3 xrow_costs_g
def xused_rows_g : En → CS → RT := (gSeq (gAsg (hN 2) (fDc outC true [5] (fIt (fStep (fVar 1) fO0 fO0 (fO1 (fC (.int 2))))) (hN 5) fYes (fVar 5) (fC (.bool true))))
    (gSeq (gAsg (hN 3) (fNew fNil))
    (gSeq (gFor (fRevR (fN lenD (fCons (fVar 0) fNil))) (hN 4) (gIf (fB (fIIn false (fVar 4) (fVar 2))) (gSeq (gAppC (fVar 3) (fVar 4))
    (gIf (fB (f2 neD (f2 ixD (fVar 0) (fVar 4)) (fC (.tuple [.str "root"])))) (gUpdI (fVar 2) (fDc outF true [5] (fIt (fStep (f2 ixD (f2 ixD (fVar 0) (fVar 4)) (fC (.int 1))) fO0 fO0 (fO1 (fC (.int 2))))) (hN 5) fYes (fVar 5) (fC (.bool true)))) gNx)) gNx))
    (gRet (fFrz 3)))))
abbrev xused_rows_r : List W → CS → R W := fnR 2 6 xused_rows_g
def xcourse_cost_g : En → CS → RT := (gSeq (gAsg (hT 2 (hsC (hN 4) (hsC (hN 5) hsN))) (fVar 3))
    (gRet (fCall 2 xchain_cost_r (fCons (fCallP 1 (noX xrow_costs_r) (fCons (fVar 4) fNil)) (fCons (fVar 5) fNil)))))
abbrev xcourse_cost_r : List W → CS → R W := fnR 4 6 xcourse_cost_g
def xshifted_g : En → CS → RT := (gRet (fIf (fB (f2 eqD (fVar 0) (fC (.int (-1))))) (fC (.int (-1))) (f2 addD (fVar 0) (fVar 1))))
abbrev xshifted_r : List W → CS → R W := fnR 2 2 xshifted_g
def y_spread_chain_g : En → CS → RT := (gSeq (gAsg (hN 2) (fN sumD (fCons (fLc [6] (fIt (fStep (fVar 1) fO0 fO0 (fO1 (fC (.int 2))))) (hN 6) fYes (fN lenD (fCons (f2 ixD (fDGetI (fVar 0) (fVar 6)) (fC (.int 0))) fNil))) fNil)))
    (gSeq (gPar3 3 4 5 (fCons (fNew fNil) (fCons (fNew fNil) (fCons (fNew fNil) fNil))))
    (gSeq (gFor (fIt (fStep (fVar 1) fO0 fO0 (fO1 (fC (.int 2))))) (hN 6) (gSeq (gAsg (hN 7) (fLenA (fCons (fVar 3) fNil)))
    (gSeq (gAsg (hT 3 (hsC (hN 8) (hsC (hN 9) (hsC (hN 10) hsN)))) (fDGetI (fVar 0) (fVar 6)))
    (gSeq (gExtC (fVar 3) (fLc [11, 12] (fIt (fVar 8)) (hT 2 (hsC (hN 11) (hsC (hN 12) hsN))) fYes (fN tupD (fCons (fVar 11) (fCons (fCallP 2 (noX xshifted_r) (fCons (fVar 12) (fCons (fVar 7) fNil))) fNil)))))
    (gSeq (gIf (fTr (fVar 4)) (gAppC (fVar 5) (fN tupD (fCons (fVar 2) (fCons (fCallP 2 (noX xshifted_r) (fCons (fVar 9) (fCons (fVar 7) fNil))) fNil)))) gNx)
    (gSeq (gAppC (fVar 4) (fCallP 2 (noX xshifted_r) (fCons (fVar 9) (fCons (fVar 7) fNil))))
    (gExtC (fVar 5) (fLc [13, 14] (fIt (fVar 10)) (hT 2 (hsC (hN 13) (hsC (hN 14) hsN))) fYes (fN tupD (fCons (f2 addD (fVar 13) (fVar 7)) (fCons (fCallP 2 (noX xshifted_r) (fCons (fVar 14) (fCons (fVar 7) fNil))) fNil)))))))))))
    (gRet (fN tupD (fCons (fN tupleD (fCons (fFrz 3) fNil)) (fCons (fIxA (fVar 4) (fC (.int 0))) (fCons (fN tupleD (fCons (fFrz 5) fNil)) fNil))))))))
abbrev y_spread_chain_r : List W → CS → R W := fnR 2 15 y_spread_chain_g
def y_spread_row_g : En → CS → RT := (gSeq (gIf (fB (f2 eqD (fVar 1) (fC (.tuple [.str "root"])))) (gRet (fN tupD (fCons (fN tupD fNil) (fCons (fC (.int (-1))) (fCons (fN tupD fNil) fNil))))) gNx)
    (gSeq (gAsg (hT 2 (hsC (hN 2) (hsC (hN 3) hsN))) (fVar 1))
    (gSeq (gAsg (hT 3 (hsC (hN 4) (hsC (hN 5) (hsC (hN 6) hsN)))) (fCall 2 y_spread_chain_r (fCons (fVar 0) (fCons (fVar 3) fNil))))
    (gRet (fN tupD (fCons (f2 addD (fVar 4) (fN tupD (fCons (fN tupD (fCons (fVar 2) (fCons (fVar 5) fNil))) fNil))) (fCons (fN lenD (fCons (fVar 4) fNil)) (fCons (fVar 6) fNil))))))))
abbrev y_spread_row_r : List W → CS → R W := fnR 2 7 y_spread_row_g
def xspread_g : En → CS → RT := (gSeq (gAsg (hT 2 (hsC (hN 1) (hsC (hN 2) hsN))) (fVar 0))
    (gSeq (gAsg (hN 3) fNewDI0)
    (gSeq (gFor (fIt (fSrt (fCons (fCallP 2 (noX xused_rows_r) (fCons (fVar 1) (fCons (fVar 2) fNil))) fNil))) (hN 4) (gDPutI (fCall 2 y_spread_row_r (fCons (fVar 3) (fCons (f2 ixD (fVar 1) (fVar 4)) fNil))) (fVar 3) (fVar 4)))
    (gRet (fCall 2 y_spread_chain_r (fCons (fVar 3) (fCons (fVar 2) fNil)))))))
abbrev xspread_r : List W → CS → R W := fnR 1 5 xspread_g
def xunfold_g : En → CS → RT := (gSeq (gAsg (hT 2 (hsC (hN 4) (hsC (hN 5) hsN))) (fCallP 4 (noX xcourse_cost_r) (fCons (fVar 0) (fCons (fVar 1) (fCons (fVar 2) (fCons (fVar 3) fNil))))))
    (gSeq (gIf (fOr (fB (f2 gtD (fVar 4) (fC (.int 200)))) (fB (f2 gtD (f2 addD (fVar 5) (fC (.int 1))) (fC (.int 200))))) (gRaise 0 (fCons (fC (.int 200)) fNil)) gNx)
    (gSeq (gAsg (hT 3 (hsC (hN 6) (hsC (hN 7) (hsC (hN 8) hsN)))) (fCallP 1 (noX xspread_r) (fCons (fVar 3) fNil)))
    (gRet (fN tupD (fCons (f2 addD (fVar 6) (fN tupD (fCons (fN tupD (fCons (fVar 2) (fCons (fVar 7) fNil))) fNil))) (fCons (fN lenD (fCons (fVar 6) fNil)) (fCons (fVar 8) fNil))))))))
abbrev xunfold_r : List W → CS → R W := fnR 4 9 xunfold_g
def y_law_stepped_g : En → CS → RT := (gSeq (gAsg (hT 3 (hsC (hN 3) (hsC (hN 4) (hsC (hN 5) hsN)))) (fVar 2))
    (gIf (fB (f2 eqD (fVar 3) (fC (.str "set")))) (gPutC (fVar 5) (fVar 1) (fVar 4)) (gIf (fB (f2 eqD (fVar 3) (fC (.str "raise")))) (gPutC (fN max2D (fCons (fIxA (fVar 1) (fVar 4)) (fCons (fVar 5) fNil))) (fVar 1) (fVar 4)) (gIf (fB (f2 eqD (fVar 3) (fC (.str "lower")))) (gPutC (fN minA (fCons (fIxA (fVar 1) (fVar 4)) (fCons (fVar 5) fNil))) (fVar 1) (fVar 4)) (gPutC (fN minA (fCons (fIxA (fVar 1) (fVar 5)) (fCons (f2 subD (f2 ixD (fVar 0) (fVar 4)) (fC (.int 1))) fNil))) (fVar 1) (fVar 4))))))
abbrev y_law_stepped_r : List W → CS → R W := fnR 3 6 y_law_stepped_g
def y_law_made_g : En → CS → RT := (gSeq (gAsg (hN 3) (fNewL (fCons (fVar 1) fNil)))
    (gSeq (gFor (fIt (f2 ixD (f2 ixD (fVar 0) (fC (.int 2))) (fVar 2))) (hN 4) (gIf (fB (f2 neD (f2 ixD (fVar 4) (fC (.int 0))) (fC (.str "when")))) (gDrop (fCall 3 y_law_stepped_r (fCons (f2 ixD (fVar 0) (fC (.int 0))) (fCons (fVar 3) (fCons (fVar 4) fNil))))) (gIf (fB (fChain leD leD (f2 ixD (fVar 4) (fC (.int 2))) (fIxA (fVar 3) (f2 ixD (fVar 4) (fC (.int 1)))) (f2 ixD (fVar 4) (fC (.int 3))))) (gDrop (fCall 3 y_law_stepped_r (fCons (f2 ixD (fVar 0) (fC (.int 0))) (fCons (fVar 3) (fCons (f2 ixD (fVar 4) (fC (.int 4))) fNil))))) gNx)))
    (gRet (fN tupleD (fCons (fFrz 3) fNil)))))
abbrev y_law_made_r : List W → CS → R W := fnR 3 5 y_law_made_g
def y_law_path_g : En → CS → RT := (gSeq (gAsg (hN 2) (fNew (fCons (fVar 1) fNil)))
    (gSeq (whileL (fB (f2 geD (f2 ixD (f2 ixD (fVar 0) (fIxA (fVar 2) (fC (.int 0)))) (fC (.int 1))) (fC (.int 0)))) (gInsC (fVar 2) (fC (.int 0)) (f2 ixD (f2 ixD (fVar 0) (fIxA (fVar 2) (fC (.int 0)))) (fC (.int 1)))) 4096)
    (gRet (fFrz 2))))
abbrev y_law_path_r : List W → CS → R W := fnR 2 3 y_law_path_g
def y_law_content_g : En → CS → RT := (gSeq (gAsg (hN 3) (f2 ixD (fVar 0) (fC (.int 1))))
    (gSeq (gFor (fIt (fSl (fCallP 2 (noX y_law_path_r) (fCons (fVar 1) (fCons (fVar 2) fNil))) fO0 (fO1 (f1 negD (fC (.int 1)))))) (hN 4) (gAsg (hN 3) (fCallP 3 (noX y_law_made_r) (fCons (fVar 0) (fCons (fVar 3) (fCons (f2 ixD (f2 ixD (fVar 1) (fVar 4)) (fC (.int 0))) fNil))))))
    (gRet (fVar 3))))
abbrev y_law_content_r : List W → CS → R W := fnR 3 5 y_law_content_g
def y_law_place_g : En → CS → RT := (gSeq (gIf (fB (f2 ltD (fVar 2) (fC (.int 0)))) (gRet (f2 ixD (fVar 0) (fC (.int 1)))) gNx)
    (gSeq (gAsg (hN 3) (fCallP 3 (noX y_law_content_r) (fCons (fVar 0) (fCons (fVar 1) (fCons (fVar 2) fNil)))))
    (gRet (fCallP 3 (noX y_law_made_r) (fCons (fVar 0) (fCons (fVar 3) (fCons (f2 ixD (f2 ixD (fVar 1) (fVar 2)) (fC (.int 0))) fNil)))))))
abbrev y_law_place_r : List W → CS → R W := fnR 3 4 y_law_place_g
def y_law_letting_g : En → CS → RT := (gSeq (gIf (fAnd (fB (f2 geD (fVar 4) (fC (.int 0)))) (fB (f2 eqD (f2 ixD (f2 ixD (fVar 2) (fVar 4)) (fC (.int 0))) (fN lenD (fCons (f2 ixD (fVar 0) (fC (.int 2))) fNil))))) (gRet (fC .none)) gNx)
    (gSeq (gIf (fAnd (fB (f2 geD (fVar 4) (fC (.int 0)))) (fB (f2 inDD (fVar 3) (fCallP 2 (noX y_law_path_r) (fCons (fVar 2) (fCons (fVar 4) fNil)))))) (gRet (fC .none)) gNx)
    (gSeq (gAsg (hN 5) (fCallP 3 (noX y_law_content_r) (fCons (fVar 0) (fCons (fVar 2) (fCons (fVar 3) fNil)))))
    (gSeq (gAsg (hN 6) (fCallP 3 (noX y_law_place_r) (fCons (fVar 0) (fCons (fVar 2) (fCons (fVar 4) fNil)))))
    (gSeq (gFor (fEnu (fCons (fVar 1) fNil)) (hT 2 (hsC (hN 7) (hsC (hT 3 (hsC (hN 8) (hsC (hN 9) (hsC (hN 10) hsN)))) hsN))) (gIf (fAnd (fB (f2 eqD (fVar 8) (f2 ixD (f2 ixD (fVar 2) (fVar 3)) (fC (.int 0))))) (fAnd (fB (f2 inDD (fVar 5) (fVar 9))) (fB (f2 inDD (fVar 6) (fVar 10))))) (gRet (fVar 7)) gNx))
    (gRet (fC .none)))))))
abbrev y_law_letting_r : List W → CS → R W := fnR 5 11 y_law_letting_g
def y_law_moved_g : En → CS → RT := (gRet (f2 addD (f2 addD (fSl (fVar 0) fO0 (fO1 (fVar 1))) (fN tupD (fCons (fN tupD (fCons (f2 ixD (f2 ixD (fVar 0) (fVar 1)) (fC (.int 0))) (fCons (fVar 2) fNil))) fNil))) (fSl (fVar 0) (fO1 (f2 addD (fVar 1) (fC (.int 1)))) fO0)))
abbrev y_law_moved_r : List W → CS → R W := fnR 3 3 y_law_moved_g
def y_law_ground_g : En → CS → RT := (gRet (fN tupD (fCons (fN tupD (fCons (fN tupD (fCons (fC (.int 2)) fNil)) (fCons (fN tupD (fCons (fC (.int 0)) fNil)) (fCons (fN tupD (fCons (fN tupD fNil) fNil)) fNil)))) (fCons (fN tupD (fCons (fN tupD (fCons (fC (.int 0)) (fCons (fN tupD (fCons (fN tupD (fCons (fC (.int 0)) fNil)) fNil)) (fCons (fN tupD (fCons (fN tupD (fCons (fC (.int 0)) fNil)) fNil)) fNil)))) (fCons (fN tupD (fCons (fC (.int 1)) (fCons (fN tupD (fCons (fN tupD (fCons (fC (.int 0)) fNil)) fNil)) (fCons (fN tupD (fCons (fN tupD (fCons (fC (.int 0)) fNil)) fNil)) fNil)))) fNil))) fNil))))
abbrev y_law_ground_r : List W → CS → R W := fnR 0 0 y_law_ground_g
def y_law_counted_t3 : En → CS → RT := (gRet (fIf (fB (f2 eqD (f2 ixD (f2 ixD (fVar 3) (fVar 4)) (fC (.int 0))) (fC (.int 1)))) (fN tupD (fCons (fN lenD (fCons (fVar 3) fNil)) (fCons (fN lenD (fCons (fVar 5) fNil)) fNil))) (fC .none)))
def y_law_counted_t2 : En → CS → RT := (gSeq (gFor (fIt (fVar 5)) (hT 2 (hsC (hN 7) (hsC (hN 8) hsN))) (gSeq (gIf (fB (fIsN false (fCallP 5 (noX y_law_letting_r) (fCons (fVar 1) (fCons (fVar 2) (fCons (fVar 3) (fCons (fVar 7) (fCons (fVar 8) fNil)))))))) (gRet (fC .none)) gNx)
    (gAsg (hN 3) (fCallP 3 (noX y_law_moved_r) (fCons (fVar 3) (fCons (fVar 7) (fCons (fVar 8) fNil))))))) y_law_counted_t3)
def y_law_counted_t1 : En → CS → RT := (gSeq (gTry 6 0 (gAsg (hT 3 (hsC (hN 3) (hsC (hN 4) (hsC (hN 5) hsN)))) (fCallX 4 xunfold_r (fCons (fVar 1) (fCons (fVar 2) (fCons (fC (.int 1)) (fCons (fVar 0) fNil)))))) (fun q => gRet (fX q))) y_law_counted_t2)
def y_law_counted_g : En → CS → RT := (gSeq (gAsg (hT 2 (hsC (hN 1) (hsC (hN 2) hsN))) (fCallP 0 (noX y_law_ground_r) fNil)) y_law_counted_t1)
abbrev y_law_counted_r : List W → CS → R W := fnR 1 9 y_law_counted_g
def y_law_things_right_t3 : En → CS → RT := (gRet (fAndV (f2 eqD (fCallP 1 (noX y_law_counted_r) (fCons (fN tupD (fCons (fVar 1) (fCons (fN tupD (fCons (f2 subD (fC (.int 99)) (fVar 0)) (fCons (fC (.int 1)) (fCons (fC (.int 99)) (fCons (fC (.int 1)) (fCons (f2 addD (fC (.int 2)) (fVar 0)) fNil)))))) fNil))) fNil)) (fC (.int 200))) (f2 eqD (fCallP 1 (noX y_law_counted_r) (fCons (fN tupD (fCons (fVar 1) (fCons (fN tupD (fCons (fC (.int 0)) fNil)) fNil))) fNil)) (fN tupD (fCons (fC (.int 1)) (fCons (fC (.int 0)) fNil))))))
def y_law_things_right_t2 : En → CS → RT := (gSeq (gIf (fOr (fB (f2 neD (fVar 2) (fN lstD (fCons (fN tupD (fCons (fC (.int 199)) (fCons (fC (.int 2)) fNil))) (fCons (fN tupD (fCons (fC (.int 200)) (fCons (fC (.int 2)) fNil))) (fCons (fC (.int 200)) fNil)))))) (fB (f2 neD (fCallP 1 (noX y_law_counted_r) (fCons (fN tupD (fCons (fVar 1) (fCons (fN tupD (fCons (f2 subD (fC (.int 99)) (fVar 0)) (fCons (fC (.int 1)) (fCons (fC (.int 99)) (fCons (fC (.int 1)) (fCons (f2 addD (fC (.int 1)) (fVar 0)) fNil)))))) fNil))) fNil)) (fN tupD (fCons (fC (.int 200)) (fCons (fC (.int 2)) fNil)))))) (gRet (fC (.bool false))) gNx) y_law_things_right_t3)
def y_law_things_right_t1 : En → CS → RT := (gSeq (gAsg (hN 2) (fLc [4] (fIt (fN tupD (fCons (fC (.int 0)) (fCons (fC (.int 1)) (fCons (fC (.int 2)) fNil))))) (hN 4) fYes (fCallP 1 (noX y_law_counted_r) (fCons (fN tupD (fCons (fVar 1) (fCons (fN tupD (fCons (fC (.int 99)) (fCons (fC (.int 1)) (fCons (fC (.int 99)) (fCons (fC (.int 1)) (fCons (fVar 4) fNil)))))) fNil))) fNil)))) y_law_things_right_t2)
def y_law_things_right_g : En → CS → RT := (gSeq (gAsg (hN 1) (f2 addD (fN tupD (fCons (fN tupD (fCons (fC (.str "root")) fNil)) fNil)) (fN tupleD (fCons (fLc [3] (fRng1 (fC (.int 99))) (hN 3) fYes (fN tupD (fCons (fC (.int 0)) (fCons (fN tupD (fCons (fVar 3) fNil)) fNil)))) fNil)))) y_law_things_right_t1)
abbrev y_law_things_right_r : List W → CS → R W := fnR 1 5 y_law_things_right_g
def y_law_moves_right_g : En → CS → RT := (gSeq (gAsg (hN 0) (fN tupD (fCons (fN tupD (fCons (fC (.str "root")) fNil)) (fCons (fN tupD (fCons (fC (.int 0)) (fCons (f2 addD (fN tupD (fCons (fC (.int 0)) fNil)) (f2 mulD (fN tupD (fCons (fC (.int 0)) (fCons (fC (.int 0)) fNil))) (fC (.int 8)))) fNil))) (fCons (fN tupD (fCons (fC (.int 0)) (fCons (f2 addD (fN tupD (fCons (fC (.int 1)) fNil)) (f2 mulD (fN tupD (fCons (fC (.int 0)) (fCons (fC (.int 1)) fNil))) (fC (.int 8)))) fNil))) (fCons (fN tupD (fCons (fC (.int 0)) (fCons (fN tupD (fCons (fC (.int 0)) (fCons (fC (.int 0)) (fCons (fC (.int 0)) fNil)))) fNil))) fNil))))))
    (gSeq (gAsg (hN 1) (fLc [2] (fIt (fN tupD (fCons (fC (.int 0)) (fCons (fC (.int 3)) fNil)))) (hN 2) fYes (fCallP 1 (noX y_law_counted_r) (fCons (fN tupD (fCons (fVar 0) (fCons (f2 addD (f2 addD (f2 addD (fN tupD (fCons (fC (.int 2)) (fCons (fC (.int 1)) (fCons (fC (.int 2)) fNil)))) (f2 mulD (fN tupD (fCons (fC (.int 1)) (fCons (fC (.int 1)) fNil))) (fC (.int 4)))) (f2 mulD (fN tupD (fCons (fC (.int 1)) (fCons (fC (.int 0)) fNil))) (fC (.int 2)))) (fN tupD (fCons (fC (.int 1)) (fCons (fVar 2) fNil)))) fNil))) fNil))))
    (gSeq (gIf (fB (f2 neD (fVar 1) (fN lstD (fCons (fN tupD (fCons (fC (.int 25)) (fCons (fC (.int 200)) fNil))) (fCons (fC (.int 200)) fNil))))) (gRet (fC (.bool false))) gNx)
    (gSeq (gAsg (hN 1) (fLc [3] (fRng1 (fC (.int 4))) (hN 3) fYes (fCallP 1 (noX y_law_counted_r) (fCons (fN tupD (fCons (fVar 0) (fCons (f2 addD (f2 addD (fN tupD (fCons (fC (.int 2)) (fCons (fC (.int 1)) (fCons (fC (.int 2)) fNil)))) (f2 mulD (fN tupD (fCons (fC (.int 1)) (fCons (fC (.int 1)) fNil))) (fC (.int 4)))) (f2 mulD (fN tupD (fCons (fC (.int 1)) (fCons (fC (.int 0)) fNil))) (fVar 3))) fNil))) fNil))))
    (gRet (f2 eqD (fVar 1) (fN lstD (fCons (fN tupD (fCons (fC (.int 25)) (fCons (fC (.int 197)) fNil))) (fCons (fN tupD (fCons (fC (.int 25)) (fCons (fC (.int 198)) fNil))) (fCons (fN tupD (fCons (fC (.int 25)) (fCons (fC (.int 199)) fNil))) (fCons (fN tupD (fCons (fC (.int 25)) (fCons (fC (.int 200)) fNil))) fNil)))))))))))
abbrev y_law_moves_right_r : List W → CS → R W := fnR 0 4 y_law_moves_right_g
def xlaw_t7 : En → CS → RT := (gRet (fAndV (fCallP 1 (noX y_law_things_right_r) (fCons (f2 modD (fN intD (fCons (f2 ixD (fVar 1) (fC (.int 0))) fNil)) (fC (.int 90))) fNil)) (fCallP 0 (noX y_law_moves_right_r) fNil)))
def xlaw_t6 : En → CS → RT := (gSeq (gIf (fB (f2 neD (fLc [7] (fIt (fN tupD (fCons (fC (.int 1)) (fCons (fC (.int 99)) fNil)))) (hN 7) fYes (fCallP 1 (noX y_law_counted_r) (fCons (fN tupD (fCons (fVar 5) (fCons (f2 addD (fN tupD (fCons (fVar 7) fNil)) (f2 mulD (fN tupD (fCons (fC (.int 1)) (fCons (fVar 7) fNil))) (fC (.int 8)))) fNil))) fNil))) (fN lstD (fCons (fN tupD (fCons (fC (.int 10)) (fCons (fC (.int 80)) fNil))) (fCons (fC (.int 200)) fNil))))) (gRet (fC (.bool false))) gNx) xlaw_t7)
def xlaw_t5 : En → CS → RT := (gSeq (gAsg (hN 5) (f2 addD (fN tupD (fCons (fN tupD (fCons (fC (.str "root")) fNil)) fNil)) (fN tupleD (fCons (fLc [7] (fRng1 (fC (.int 99))) (hN 7) fYes (fN tupD (fCons (fC (.int 0)) (fCons (f2 addD (fN tupD (fCons (fVar 7) fNil)) (f2 mulD (fN tupD (fCons (fC (.int 0)) (fCons (fVar 7) fNil))) (fC (.int 8)))) fNil)))) fNil)))) xlaw_t6)
def xlaw_t4 : En → CS → RT := (gSeq (gIf (fB (f2 neD (fVar 4) (fN lstD (fCons (fN tupD (fCons (fC (.int 2)) (fCons (fC (.int 1)) fNil))) (fCons (fN tupD (fCons (fC (.int 16)) (fCons (fC (.int 15)) fNil))) (fCons (fN tupD (fCons (fC (.int 128)) (fCons (fC (.int 127)) fNil))) (fCons (fC (.int 200)) (fCons (fC (.int 200)) fNil)))))))) (gRet (fC (.bool false))) gNx) xlaw_t5)
def xlaw_t3 : En → CS → RT := (gSeq (gAsg (hN 4) (fLc [7] (fIt (fN tupD (fCons (fC (.int 1)) (fCons (fC (.int 4)) (fCons (fC (.int 7)) (fCons (fC (.int 8)) (fCons (fVar 2) fNil))))))) (hN 7) fYes (fCallP 1 (noX y_law_counted_r) (fCons (fN tupD (fCons (fVar 3) (fCons (fN tupD (fCons (fVar 7) fNil)) fNil))) fNil)))) xlaw_t4)
def xlaw_t2 : En → CS → RT := (gSeq (gAsg (hN 3) (f2 addD (fN tupD (fCons (fN tupD (fCons (fC (.str "root")) fNil)) fNil)) (fN tupleD (fCons (fLc [7] (fRng1 (fVar 2)) (hN 7) fYes (fN tupD (fCons (fC (.int 0)) (fCons (fN tupD (fCons (fVar 7) (fCons (fC (.int 0)) (fCons (fVar 7) fNil)))) fNil)))) fNil)))) xlaw_t3)
def xlaw_t1 : En → CS → RT := (gSeq (gAsg (hN 2) (f2 addD (fC (.int 8)) (f2 modD (fN intD (fCons (f2 ixD (fVar 1) (fC (.int 0))) fNil)) (fC (.int 92))))) xlaw_t2)
def xlaw_g : En → CS → RT := (gSeq (gAsg (hN 1) (f2 addD (fLc [6] (fIt (fSl (fVar 0) fO0 (fO1 (fC (.int 1))))) (hN 6) fYes (fN absD (fCons (fN intD (fCons (fVar 6) fNil)) fNil))) (fN lstD (fCons (fC (.int 4)) fNil)))) xlaw_t1)
abbrev xlaw_r : List W → CS → R W := fnR 1 8 xlaw_g
end
/-! what the top has written -/
structure Txt [KFrag] (K : PySem.W.Frag) (mg : Str → Option Value) (a : Nat → Addr) (d : Nat → FuncData) (T : TX) (c ci : Nat → Addr) : Prop where
  K0 : PySem.Er_LimitExceeded.LowTxt K mg (c 0) (ci 0)
  T0 : T 0 = (c 0, ("limit" : Str))
  F0 : Fun K "sum_of" "sum_of" xsum_of_s (a 0) (d 0)
  M0 : mg "sum_of" = some (.ref (a 0))
  B0 : Binds K (d 0) ["cost", "other"] []
  F1 : Fun K "row_costs" "row_costs" xrow_costs_s (a 1) (d 1)
  M1 : mg "row_costs" = some (.ref (a 1))
  B1 : Binds K (d 1) ["ledger"] []
  F2 : Fun K "chain_cost" "chain_cost" xchain_cost_s (a 2) (d 2)
  M2 : mg "chain_cost" = some (.ref (a 2))
  B2 : Binds K (d 2) ["costs", "chain"] []
  F3 : Fun K "used_rows" "used_rows" xused_rows_s (a 3) (d 3)
  M3 : mg "used_rows" = some (.ref (a 3))
  B3 : Binds K (d 3) ["ledger", "chain"] []
  F4 : Fun K "course_cost" "course_cost" xcourse_cost_s (a 4) (d 4)
  M4 : mg "course_cost" = some (.ref (a 4))
  B4 : Binds K (d 4) ["house", "rules", "item", "course"] []
  F5 : Fun K "unfold" "unfold" xunfold_s (a 5) (d 5)
  M5 : mg "unfold" = some (.ref (a 5))
  B5 : Binds K (d 5) ["house", "rules", "item", "course"] []
  F6 : Fun K "spread" "spread" xspread_s (a 6) (d 6)
  M6 : mg "spread" = some (.ref (a 6))
  B6 : Binds K (d 6) ["course"] []
  F7 : Fun K "shifted" "shifted" xshifted_s (a 7) (d 7)
  M7 : mg "shifted" = some (.ref (a 7))
  B7 : Binds K (d 7) ["place", "start"] []
  F8 : Fun K "_spread_row" "_spread_row" y_spread_row_s (a 8) (d 8)
  M8 : mg "_spread_row" = some (.ref (a 8))
  B8 : Binds K (d 8) ["parts", "row"] []
  F9 : Fun K "_spread_chain" "_spread_chain" y_spread_chain_s (a 9) (d 9)
  M9 : mg "_spread_chain" = some (.ref (a 9))
  B9 : Binds K (d 9) ["parts", "chain"] []
  F10 : Fun K "_law_stepped" "_law_stepped" y_law_stepped_s (a 10) (d 10)
  M10 : mg "_law_stepped" = some (.ref (a 10))
  B10 : Binds K (d 10) ["_law_sizes", "_law_cells", "_law_step"] []
  F11 : Fun K "_law_made" "_law_made" y_law_made_s (a 11) (d 11)
  M11 : mg "_law_made" = some (.ref (a 11))
  B11 : Binds K (d 11) ["_law_house", "_law_content_here", "_law_kind"] []
  F12 : Fun K "_law_path" "_law_path" y_law_path_s (a 12) (d 12)
  M12 : mg "_law_path" = some (.ref (a 12))
  B12 : Binds K (d 12) ["_law_tree", "_law_thing"] []
  F13 : Fun K "_law_content" "_law_content" y_law_content_s (a 13) (d 13)
  M13 : mg "_law_content" = some (.ref (a 13))
  B13 : Binds K (d 13) ["_law_house", "_law_tree", "_law_thing"] []
  F14 : Fun K "_law_place" "_law_place" y_law_place_s (a 14) (d 14)
  M14 : mg "_law_place" = some (.ref (a 14))
  B14 : Binds K (d 14) ["_law_house", "_law_tree", "_law_target"] []
  F15 : Fun K "_law_letting" "_law_letting" y_law_letting_s (a 15) (d 15)
  M15 : mg "_law_letting" = some (.ref (a 15))
  B15 : Binds K (d 15) ["_law_house", "_law_rules", "_law_tree", "_law_thing", "_law_target"] []
  F16 : Fun K "_law_moved" "_law_moved" y_law_moved_s (a 16) (d 16)
  M16 : mg "_law_moved" = some (.ref (a 16))
  B16 : Binds K (d 16) ["_law_tree", "_law_thing", "_law_target"] []
  F17 : Fun K "_law_ground" "_law_ground" y_law_ground_s (a 17) (d 17)
  M17 : mg "_law_ground" = some (.ref (a 17))
  B17 : Binds K (d 17) [] []
  F18 : Fun K "_law_counted" "_law_counted" y_law_counted_s (a 18) (d 18)
  M18 : mg "_law_counted" = some (.ref (a 18))
  B18 : Binds K (d 18) ["_law_course"] []
  F19 : Fun K "_law_things_right" "_law_things_right" y_law_things_right_s (a 19) (d 19)
  M19 : mg "_law_things_right" = some (.ref (a 19))
  B19 : Binds K (d 19) ["_law_more"] []
  F20 : Fun K "_law_moves_right" "_law_moves_right" y_law_moves_right_s (a 20) (d 20)
  M20 : mg "_law_moves_right" = some (.ref (a 20))
  B20 : Binds K (d 20) [] []
  F21 : Fun K "law" "law" xlaw_s (a 21) (d 21)
  M21 : mg "law" = some (.ref (a 21))
  B21 : Binds K (d 21) ["_law_script"] []
  z_abs : mg "abs" = none
  z_enumerate : mg "enumerate" = none
  z_int : mg "int" = none
  z_len : mg "len" = none
  z_list : mg "list" = none
  z_max : mg "max" = none
  z_min : mg "min" = none
  z_range : mg "range" = none
  z_reversed : mg "reversed" = none
  z_sorted : mg "sorted" = none
  z_sum : mg "sum" = none
  z_tuple : mg "tuple" = none
  g_MOST_MOVES : ∃ t, mg "MOST_MOVES" = some (.int 200 t)
  g_MOST_THINGS : ∃ t, mg "MOST_THINGS" = some (.int 200 t)
  g_ROOT : ∃ t, mg "ROOT" = some (.int (-1) t)
  u_ROOT_ROW : ∃ b, mg "ROOT_ROW" = some (.ref b) ∧ KTp b [.str "root"]
end K55
namespace K55
open PySem PySem.Spec PyProof.Rows L2 DL
section
variable [KFrag] {P : Program} {w : World} {K : PySem.W.Frag} {mg : Str → Option Value} {base : Heap} {a : Nat → Addr} {d : Nat → FuncData} {T : TX} {c ci : Nat → Addr}
theorem xsum_of_ok (hKF : K = KFrag.K) (hKw : w = KFrag.w) (Tx : Txt K mg a d T c ci) : FnG P w K mg base 1 (a 0) (d 0) ["cost", "other"] (spD T 2 xsum_of_r) := by
  subst hKF
  exact fnG (g := xsum_of_g) Tx.F0 xsum_of_sc rfl rfl fun cdv A outer s H E hgd hr => (by
  have nd := xsum_of_sc.nd
  refine dss_one ?_
  · refine ds_ret ?_
    · refine de_tup ?_
      · refine da_cons ?_ ?_
        · refine de_op dop_add ?_ ?_
          · refine de_ix dix ?_ ?_
            · exact de_var (pv 0)
            · exact de_int
          · refine de_ix dix ?_ ?_
            · exact de_var (pv 1)
            · exact de_int
        · refine da_cons ?_ ?_
          · refine de_op dop_add ?_ ?_
            · refine de_ix dix ?_ ?_
              · exact de_var (pv 0)
              · exact de_int
            · refine de_ix dix ?_ ?_
              · exact de_var (pv 1)
              · exact de_int
          · exact da_nil)
end
end K55
namespace K55
open PySem PySem.Spec PyProof.Rows L2 DL
section
variable [KFrag] {P : Program} {w : World} {K : PySem.W.Frag} {mg : Str → Option Value} {base : Heap} {a : Nat → Addr} {d : Nat → FuncData} {T : TX} {c ci : Nat → Addr}
theorem xchain_cost_ok (hKF : K = KFrag.K) (hKw : w = KFrag.w) (Tx : Txt K mg a d T c ci) : FnG P w K mg base 2 (a 2) (d 2) ["costs", "chain"] (spD T 2 xchain_cost_r) := by
  subst hKF
  exact fnG (g := xchain_cost_g) Tx.F2 xchain_cost_sc rfl rfl fun cdv A outer s H E hgd hr => (by
  have nd := xchain_cost_sc.nd
  refine dss_cons ?_ ?_
  · refine ds_set (i := 2) nd rfl (by first | exact Or.inl rfl | exact Or.inr rfl) ?_
    · refine de_tup ?_
      · refine da_cons ?_ ?_
        · refine de_op dop_fdiv ?_ ?_
          · refine de_callB dc_len rfl Tx.z_len PySem.boot_len ?_
            · refine da_cons ?_ ?_
              · exact de_var (pv 1)
              · exact da_nil
          · exact de_int
        · refine da_cons ?_ ?_
          · exact de_int
          · exact da_nil
  · refine dss_cons ?_ ?_
    · refine ds_for (is := [3]) (passes_of rfl) rfl ?_ ?_ ?_
      · refine di_seq ?_
        · refine de_step ?_ ?_ ?_ ?_
          · exact de_var (pv 1)
          · exact do_none
          · exact do_none
          · refine do_some ?_
            · exact de_int
      · exact dg_name (pg_name (i := 3) nd rfl (by first | exact Or.inl rfl | exact Or.inr rfl))
      · refine dss_one ?_
        · refine ds_set (i := 2) nd rfl (by first | exact Or.inl rfl | exact Or.inr rfl) ?_
          · refine de_callPG hgd (takes_of rfl rfl rfl rfl) (xsum_of_ok rfl hKw Tx) (hr.mono (by decide)) rfl Tx.M0 Tx.F0.kp Tx.B0 ?_
            · refine da_cons ?_ ?_
              · exact de_var (pv 2)
              · refine da_cons ?_ ?_
                · refine de_ixA ?_ ?_
                  · exact de_var (pv 0)
                  · exact de_var (pv 3)
                · exact da_nil
    · refine dss_one ?_
      · refine ds_ret ?_
        · exact de_var (pv 2))
end
end K55
namespace K55
open PySem PySem.Spec PyProof.Rows L2 DL
section
variable [KFrag] {P : Program} {w : World} {K : PySem.W.Frag} {mg : Str → Option Value} {base : Heap} {a : Nat → Addr} {d : Nat → FuncData} {T : TX} {c ci : Nat → Addr}
theorem xrow_costs_ok (hKF : K = KFrag.K) (hKw : w = KFrag.w) (Tx : Txt K mg a d T c ci) : FnG P w K mg base 3 (a 1) (d 1) ["ledger"] (spD T 1 xrow_costs_r) := by
  subst hKF
  exact fnG (g := xrow_costs_g) Tx.F1 xrow_costs_sc rfl rfl fun cdv A outer s H E hgd hr => (by
  have nd := xrow_costs_sc.nd
  refine dss_cons ?_ ?_
  · refine ds_set (i := 1) nd rfl (by first | exact Or.inl rfl | exact Or.inr rfl) ?_
    · refine de_new ?_
      · exact da_nil
  · refine dss_cons ?_ ?_
    · refine ds_for (is := [2]) (passes_of rfl) rfl ?_ ?_ ?_
      · refine di_seq ?_
        · exact de_var (pv 0)
      · exact dg_name (pg_name (i := 2) nd rfl (by first | exact Or.inl rfl | exact Or.inr rfl))
      · refine dss_one ?_
        · refine ds_if ?_ ?_ ?_
          · refine dt_cmp (dop_eq hr.units) ?_ ?_
            · exact de_var (pv 2)
            · exact de_gtup rfl Tx.u_ROOT_ROW.choose_spec.1 Tx.u_ROOT_ROW.choose_spec.2 (fun _ _ => .cons (.str _) (.nil))
          · refine dss_one ?_
            · refine ds_app (de_var (pv 1)) ?_
              · refine de_tup ?_
                · refine da_cons ?_ ?_
                  · exact de_int
                  · refine da_cons ?_ ?_
                    · exact de_int
                    · exact da_nil
          · refine dss_one ?_
            · refine ds_app (de_var (pv 1)) ?_
              · refine de_callPG hgd (takes_of rfl rfl rfl rfl) (xsum_of_ok rfl hKw Tx) (hr.mono (by decide)) rfl Tx.M0 Tx.F0.kp Tx.B0 ?_
                · refine da_cons ?_ ?_
                  · refine de_callG hgd (takes_of rfl rfl rfl rfl) (xchain_cost_ok rfl hKw Tx) (hr.mono (by decide)) rfl Tx.M2 Tx.F2.kp Tx.B2 ?_
                    · refine da_cons ?_ ?_
                      · exact de_var (pv 1)
                      · refine da_cons ?_ ?_
                        · refine de_ix dix ?_ ?_
                          · exact de_var (pv 2)
                          · exact de_int
                        · exact da_nil
                  · refine da_cons ?_ ?_
                    · refine de_tup ?_
                      · refine da_cons ?_ ?_
                        · exact de_int
                        · refine da_cons ?_ ?_
                          · exact de_int
                          · exact da_nil
                    · exact da_nil
    · refine dss_one ?_
      · refine ds_ret ?_
        · exact de_frz (pv 1))
end
end K55
namespace K55
open PySem PySem.Spec PyProof.Rows L2 DL
section
variable [KFrag] {P : Program} {w : World} {K : PySem.W.Frag} {mg : Str → Option Value} {base : Heap} {a : Nat → Addr} {d : Nat → FuncData} {T : TX} {c ci : Nat → Addr}
theorem xused_rows_ok (hKF : K = KFrag.K) (hKw : w = KFrag.w) (Tx : Txt K mg a d T c ci) : FnG P w K mg base 1 (a 3) (d 3) ["ledger", "chain"] (spD T 2 xused_rows_r) := by
  subst hKF
  exact fnG (g := xused_rows_g) Tx.F3 xused_rows_sc rfl rfl fun cdv A outer s H E hgd hr => (by
  have nd := xused_rows_sc.nd
  refine dss_cons ?_ ?_
  · refine ds_setDc (i := 2) (ik := true) (is := [5]) (own := [("row", 5)]) hKw hr.units rfl nd rfl rfl (sw_dict rfl rfl rfl (by decide +kernel)) ?_ (blkOk_by (N := xused_rows_N) (sc := defScope xused_rows_s) (own := [("row", 5)]) (by decide +kernel)) (by decide) ?_ ?_ ?_ ?_
    · refine di_seq ?_
      · refine de_step ?_ ?_ ?_ ?_
        · exact de_var (pv 1)
        · exact do_none
        · exact do_none
        · refine do_some ?_
          · exact de_int
    · refine fun _ _ _ _ _ => ?_
      · exact dg_name (pg_name (i := 5) nd rfl (by first | exact Or.inl rfl | exact Or.inr rfl))
    · refine fun _ _ _ _ _ => ?_
      · exact dts_nil
    · refine fun _ _ _ _ _ => ?_
      · exact de_var (pv 5)
    · refine fun _ _ _ _ _ => ?_
      · exact de_bool
  · refine dss_cons ?_ ?_
    · refine ds_set (i := 3) nd rfl (by first | exact Or.inl rfl | exact Or.inr rfl) ?_
      · refine de_new ?_
        · exact da_nil
    · refine dss_cons ?_ ?_
      · refine ds_for (is := [4]) (passes_of rfl) rfl ?_ ?_ ?_
        · refine di_revR rfl Tx.z_reversed rfl Tx.z_range ?_
          · refine de_callB dc_len rfl Tx.z_len PySem.boot_len ?_
            · refine da_cons ?_ ?_
              · exact de_var (pv 0)
              · exact da_nil
        · exact dg_name (pg_name (i := 4) nd rfl (by first | exact Or.inl rfl | exact Or.inr rfl))
        · refine dss_one ?_
          · refine ds_if ?_ ?_ ?_
            · refine dt_iin hr.units ?_ ?_
              · exact de_var (pv 4)
              · exact de_var (pv 2)
            · refine dss_cons ?_ ?_
              · refine ds_app (de_var (pv 3)) ?_
                · exact de_var (pv 4)
              · refine dss_one ?_
                · refine ds_if ?_ ?_ ?_
                  · refine dt_cmp (dop_ne hr.units) ?_ ?_
                    · refine de_ix dix ?_ ?_
                      · exact de_var (pv 0)
                      · exact de_var (pv 4)
                    · exact de_gtup rfl Tx.u_ROOT_ROW.choose_spec.1 Tx.u_ROOT_ROW.choose_spec.2 (fun _ _ => .cons (.str _) (.nil))
                  · refine dss_one ?_
                    · refine ds_updI (de_var (pv 2)) ?_
                      · refine de_dcF (ik := true) (is := [5]) (own := [("row", 5)]) hKw hr.units rfl nd ?_ (blkOk_by (N := xused_rows_N) (sc := defScope xused_rows_s) (own := [("row", 5)]) (by decide +kernel)) (by decide) ?_ ?_ ?_ ?_
                        · refine di_seq ?_
                          · refine de_step ?_ ?_ ?_ ?_
                            · refine de_ix dix ?_ ?_
                              · refine de_ix dix ?_ ?_
                                · exact de_var (pv 0)
                                · exact de_var (pv 4)
                              · exact de_int
                            · exact do_none
                            · exact do_none
                            · refine do_some ?_
                              · exact de_int
                        · refine fun _ _ _ _ _ => ?_
                          · exact dg_name (pg_name (i := 5) nd rfl (by first | exact Or.inl rfl | exact Or.inr rfl))
                        · refine fun _ _ _ _ _ => ?_
                          · exact dts_nil
                        · refine fun _ _ _ _ _ => ?_
                          · exact de_var (pv 5)
                        · refine fun _ _ _ _ _ => ?_
                          · exact de_bool
                  · exact dss_nil
            · exact dss_nil
      · refine dss_one ?_
        · refine ds_ret ?_
          · exact de_frz (pv 3))
end
end K55
namespace K55
open PySem PySem.Spec PyProof.Rows L2 DL
section
variable [KFrag] {P : Program} {w : World} {K : PySem.W.Frag} {mg : Str → Option Value} {base : Heap} {a : Nat → Addr} {d : Nat → FuncData} {T : TX} {c ci : Nat → Addr}
theorem xcourse_cost_ok (hKF : K = KFrag.K) (hKw : w = KFrag.w) (Tx : Txt K mg a d T c ci) : FnG P w K mg base 4 (a 4) (d 4) ["house", "rules", "item", "course"] (spD T 4 xcourse_cost_r) := by
  subst hKF
  exact fnG (g := xcourse_cost_g) Tx.F4 xcourse_cost_sc rfl rfl fun cdv A outer s H E hgd hr => (by
  have nd := xcourse_cost_sc.nd
  refine dss_cons ?_ ?_
  · refine ds_asg (is := [4, 5]) ?_ ?_
    · exact de_var (pv 3)
    · refine dgT rfl ?_
      · refine dgsC (is := [4]) (js := [5]) ?_ ?_
        · exact dg_name (pg_name (i := 4) nd rfl (by first | exact Or.inl rfl | exact Or.inr rfl))
        · refine dgsC (is := [5]) (js := []) ?_ ?_
          · exact dg_name (pg_name (i := 5) nd rfl (by first | exact Or.inl rfl | exact Or.inr rfl))
          · exact dgs_nil
  · refine dss_one ?_
    · refine ds_ret ?_
      · refine de_callG hgd (takes_of rfl rfl rfl rfl) (xchain_cost_ok rfl hKw Tx) (hr.mono (by decide)) rfl Tx.M2 Tx.F2.kp Tx.B2 ?_
        · refine da_cons ?_ ?_
          · refine de_callPG hgd (takes_of rfl rfl rfl rfl) (xrow_costs_ok rfl hKw Tx) (hr.mono (by decide)) rfl Tx.M1 Tx.F1.kp Tx.B1 ?_
            · refine da_cons ?_ ?_
              · exact de_var (pv 4)
              · exact da_nil
          · refine da_cons ?_ ?_
            · exact de_var (pv 5)
            · exact da_nil)
end
end K55
namespace K55
open PySem PySem.Spec PyProof.Rows L2 DL
section
variable [KFrag] {P : Program} {w : World} {K : PySem.W.Frag} {mg : Str → Option Value} {base : Heap} {a : Nat → Addr} {d : Nat → FuncData} {T : TX} {c ci : Nat → Addr}
theorem xshifted_ok (hKF : K = KFrag.K) (hKw : w = KFrag.w) (Tx : Txt K mg a d T c ci) : FnG P w K mg base 1 (a 7) (d 7) ["place", "start"] (spD T 2 xshifted_r) := by
  subst hKF
  exact fnG (g := xshifted_g) Tx.F7 xshifted_sc rfl rfl fun cdv A outer s H E hgd hr => (by
  have nd := xshifted_sc.nd
  refine dss_one ?_
  · refine ds_ret ?_
    · refine de_if ?_ ?_ ?_
      · refine dt_cmp (dop_eq hr.units) ?_ ?_
        · exact de_var (pv 0)
        · exact de_gint rfl Tx.g_ROOT.choose_spec
      · exact de_gint rfl Tx.g_ROOT.choose_spec
      · refine de_op dop_add ?_ ?_
        · exact de_var (pv 0)
        · exact de_var (pv 1))
end
end K55
namespace K55
open PySem PySem.Spec PyProof.Rows L2 DL
section
variable [KFrag] {P : Program} {w : World} {K : PySem.W.Frag} {mg : Str → Option Value} {base : Heap} {a : Nat → Addr} {d : Nat → FuncData} {T : TX} {c ci : Nat → Addr}
theorem y_spread_chain_ok (hKF : K = KFrag.K) (hKw : w = KFrag.w) (Tx : Txt K mg a d T c ci) : FnG P w K mg base 2 (a 9) (d 9) ["parts", "chain"] (spD T 2 y_spread_chain_r) := by
  subst hKF
  exact fnG (g := y_spread_chain_g) Tx.F9 y_spread_chain_sc rfl rfl fun cdv A outer s H E hgd hr => (by
  have nd := y_spread_chain_sc.nd
  refine dss_cons ?_ ?_
  · refine ds_set (i := 2) nd rfl (by first | exact Or.inl rfl | exact Or.inr rfl) ?_
    · refine de_callB (dc_sum rfl) rfl Tx.z_sum PyProof.Rows.boot_sum ?_
      · refine da_cons ?_ ?_
        · refine de_lc (is := [6]) (own := [("k", 6)]) rfl nd ?_ (blkOk_by (N := y_spread_chain_N) (sc := defScope y_spread_chain_s) (own := [("k", 6)]) (by decide +kernel)) (by decide) ?_ ?_ ?_
          · refine di_seq ?_
            · refine de_step ?_ ?_ ?_ ?_
              · exact de_var (pv 1)
              · exact do_none
              · exact do_none
              · refine do_some ?_
                · exact de_int
          · refine fun _ _ _ _ _ => ?_
            · exact dg_name (pg_name (i := 6) nd rfl (by first | exact Or.inl rfl | exact Or.inr rfl))
          · refine fun _ _ _ _ _ => ?_
            · exact dts_nil
          · refine fun _ _ _ _ _ => ?_
            · refine de_callB dc_len rfl Tx.z_len PySem.boot_len ?_
              · refine da_cons ?_ ?_
                · refine de_ix dix ?_ ?_
                  · refine de_dgetI hr.units ?_ ?_
                    · exact de_var (pv 0)
                    · exact de_var (pv 6)
                  · exact de_int
                · exact da_nil
        · exact da_nil
  · refine dss_cons ?_ ?_
    · refine ds_par3 (i := 3) (j := 4) (l := 5) rfl nd rfl rfl rfl (by decide) (by decide) (by decide) rfl rfl rfl ?_ rfl
      · refine da_cons ?_ ?_
        · refine de_new ?_
          · exact da_nil
        · refine da_cons ?_ ?_
          · refine de_new ?_
            · exact da_nil
          · refine da_cons ?_ ?_
            · refine de_new ?_
              · exact da_nil
            · exact da_nil
    · refine dss_cons ?_ ?_
      · refine ds_for (is := [6]) (passes_of rfl) rfl ?_ ?_ ?_
        · refine di_seq ?_
          · refine de_step ?_ ?_ ?_ ?_
            · exact de_var (pv 1)
            · exact do_none
            · exact do_none
            · refine do_some ?_
              · exact de_int
        · exact dg_name (pg_name (i := 6) nd rfl (by first | exact Or.inl rfl | exact Or.inr rfl))
        · refine dss_cons ?_ ?_
          · refine ds_set (i := 7) nd rfl (by first | exact Or.inl rfl | exact Or.inr rfl) ?_
            · refine de_lenA rfl Tx.z_len ?_
              · refine da_cons ?_ ?_
                · exact de_var (pv 3)
                · exact da_nil
          · refine dss_cons ?_ ?_
            · refine ds_asg (is := [8, 9, 10]) ?_ ?_
              · refine de_dgetI hr.units ?_ ?_
                · exact de_var (pv 0)
                · exact de_var (pv 6)
              · refine dgT rfl ?_
                · refine dgsC (is := [8]) (js := [9, 10]) ?_ ?_
                  · exact dg_name (pg_name (i := 8) nd rfl (by first | exact Or.inl rfl | exact Or.inr rfl))
                  · refine dgsC (is := [9]) (js := [10]) ?_ ?_
                    · exact dg_name (pg_name (i := 9) nd rfl (by first | exact Or.inl rfl | exact Or.inr rfl))
                    · refine dgsC (is := [10]) (js := []) ?_ ?_
                      · exact dg_name (pg_name (i := 10) nd rfl (by first | exact Or.inl rfl | exact Or.inr rfl))
                      · exact dgs_nil
            · refine dss_cons ?_ ?_
              · refine ds_ext (de_var (pv 3)) ?_
                · refine de_lc (is := [11, 12]) (own := [("item", 11), ("above", 12)]) rfl nd ?_ (blkOk_by (N := y_spread_chain_N) (sc := defScope y_spread_chain_s) (own := [("item", 11), ("above", 12)]) (by decide +kernel)) (by decide) ?_ ?_ ?_
                  · refine di_seq ?_
                    · exact de_var (pv 8)
                  · refine fun _ _ _ _ _ => ?_
                    · refine dgT rfl ?_
                      · refine dgsC (is := [11]) (js := [12]) ?_ ?_
                        · exact dg_name (pg_name (i := 11) nd rfl (by first | exact Or.inl rfl | exact Or.inr rfl))
                        · refine dgsC (is := [12]) (js := []) ?_ ?_
                          · exact dg_name (pg_name (i := 12) nd rfl (by first | exact Or.inl rfl | exact Or.inr rfl))
                          · exact dgs_nil
                  · refine fun _ _ _ _ _ => ?_
                    · exact dts_nil
                  · refine fun _ _ _ _ _ => ?_
                    · refine de_tup ?_
                      · refine da_cons ?_ ?_
                        · exact de_var (pv 11)
                        · refine da_cons ?_ ?_
                          · refine de_callPG hgd takes0 (xshifted_ok rfl hKw Tx) (hr.mono (by decide)) rfl Tx.M7 Tx.F7.kp Tx.B7 ?_
                            · refine da_cons ?_ ?_
                              · exact de_var (pv 12)
                              · refine da_cons ?_ ?_
                                · exact de_var (pv 7)
                                · exact da_nil
                          · exact da_nil
              · refine dss_cons ?_ ?_
                · refine ds_if ?_ ?_ ?_
                  · refine dt_truth ?_
                    · exact de_var (pv 4)
                  · refine dss_one ?_
                    · refine ds_app (de_var (pv 5)) ?_
                      · refine de_tup ?_
                        · refine da_cons ?_ ?_
                          · exact de_var (pv 2)
                          · refine da_cons ?_ ?_
                            · refine de_callPG hgd (takes_of rfl rfl rfl rfl) (xshifted_ok rfl hKw Tx) (hr.mono (by decide)) rfl Tx.M7 Tx.F7.kp Tx.B7 ?_
                              · refine da_cons ?_ ?_
                                · exact de_var (pv 9)
                                · refine da_cons ?_ ?_
                                  · exact de_var (pv 7)
                                  · exact da_nil
                            · exact da_nil
                  · exact dss_nil
                · refine dss_cons ?_ ?_
                  · refine ds_app (de_var (pv 4)) ?_
                    · refine de_callPG hgd (takes_of rfl rfl rfl rfl) (xshifted_ok rfl hKw Tx) (hr.mono (by decide)) rfl Tx.M7 Tx.F7.kp Tx.B7 ?_
                      · refine da_cons ?_ ?_
                        · exact de_var (pv 9)
                        · refine da_cons ?_ ?_
                          · exact de_var (pv 7)
                          · exact da_nil
                  · refine dss_one ?_
                    · refine ds_ext (de_var (pv 5)) ?_
                      · refine de_lc (is := [13, 14]) (own := [("thing", 13), ("target", 14)]) rfl nd ?_ (blkOk_by (N := y_spread_chain_N) (sc := defScope y_spread_chain_s) (own := [("thing", 13), ("target", 14)]) (by decide +kernel)) (by decide) ?_ ?_ ?_
                        · refine di_seq ?_
                          · exact de_var (pv 10)
                        · refine fun _ _ _ _ _ => ?_
                          · refine dgT rfl ?_
                            · refine dgsC (is := [13]) (js := [14]) ?_ ?_
                              · exact dg_name (pg_name (i := 13) nd rfl (by first | exact Or.inl rfl | exact Or.inr rfl))
                              · refine dgsC (is := [14]) (js := []) ?_ ?_
                                · exact dg_name (pg_name (i := 14) nd rfl (by first | exact Or.inl rfl | exact Or.inr rfl))
                                · exact dgs_nil
                        · refine fun _ _ _ _ _ => ?_
                          · exact dts_nil
                        · refine fun _ _ _ _ _ => ?_
                          · refine de_tup ?_
                            · refine da_cons ?_ ?_
                              · refine de_op dop_add ?_ ?_
                                · exact de_var (pv 13)
                                · exact de_var (pv 7)
                              · refine da_cons ?_ ?_
                                · refine de_callPG hgd takes0 (xshifted_ok rfl hKw Tx) (hr.mono (by decide)) rfl Tx.M7 Tx.F7.kp Tx.B7 ?_
                                  · refine da_cons ?_ ?_
                                    · exact de_var (pv 14)
                                    · refine da_cons ?_ ?_
                                      · exact de_var (pv 7)
                                      · exact da_nil
                                · exact da_nil
      · refine dss_one ?_
        · refine ds_ret ?_
          · refine de_tup ?_
            · refine da_cons ?_ ?_
              · refine de_callTy dc_tuple rfl Tx.z_tuple PyProof.Rows.boot_tuple ?_
                · refine da_cons ?_ ?_
                  · exact de_frz (pv 3)
                  · exact da_nil
              · refine da_cons ?_ ?_
                · refine de_ixA ?_ ?_
                  · exact de_var (pv 4)
                  · exact de_int
                · refine da_cons ?_ ?_
                  · refine de_callTy dc_tuple rfl Tx.z_tuple PyProof.Rows.boot_tuple ?_
                    · refine da_cons ?_ ?_
                      · exact de_frz (pv 5)
                      · exact da_nil
                  · exact da_nil)
end
end K55
namespace K55
open PySem PySem.Spec PyProof.Rows L2 DL
section
variable [KFrag] {P : Program} {w : World} {K : PySem.W.Frag} {mg : Str → Option Value} {base : Heap} {a : Nat → Addr} {d : Nat → FuncData} {T : TX} {c ci : Nat → Addr}
theorem y_spread_row_ok (hKF : K = KFrag.K) (hKw : w = KFrag.w) (Tx : Txt K mg a d T c ci) : FnG P w K mg base 3 (a 8) (d 8) ["parts", "row"] (spD T 2 y_spread_row_r) := by
  subst hKF
  exact fnG (g := y_spread_row_g) Tx.F8 y_spread_row_sc rfl rfl fun cdv A outer s H E hgd hr => (by
  have nd := y_spread_row_sc.nd
  refine dss_cons ?_ ?_
  · refine ds_if ?_ ?_ ?_
    · refine dt_cmp (dop_eq hr.units) ?_ ?_
      · exact de_var (pv 1)
      · exact de_gtup rfl Tx.u_ROOT_ROW.choose_spec.1 Tx.u_ROOT_ROW.choose_spec.2 (fun _ _ => .cons (.str _) (.nil))
    · refine dss_one ?_
      · refine ds_ret ?_
        · refine de_tup ?_
          · refine da_cons ?_ ?_
            · refine de_tup ?_
              · exact da_nil
            · refine da_cons ?_ ?_
              · exact de_gint rfl Tx.g_ROOT.choose_spec
              · refine da_cons ?_ ?_
                · refine de_tup ?_
                  · exact da_nil
                · exact da_nil
    · exact dss_nil
  · refine dss_cons ?_ ?_
    · refine ds_asg (is := [2, 3]) ?_ ?_
      · exact de_var (pv 1)
      · refine dgT rfl ?_
        · refine dgsC (is := [2]) (js := [3]) ?_ ?_
          · exact dg_name (pg_name (i := 2) nd rfl (by first | exact Or.inl rfl | exact Or.inr rfl))
          · refine dgsC (is := [3]) (js := []) ?_ ?_
            · exact dg_name (pg_name (i := 3) nd rfl (by first | exact Or.inl rfl | exact Or.inr rfl))
            · exact dgs_nil
    · refine dss_cons ?_ ?_
      · refine ds_asg (is := [4, 5, 6]) ?_ ?_
        · refine de_callG hgd (takes_of rfl rfl rfl rfl) (y_spread_chain_ok rfl hKw Tx) (hr.mono (by decide)) rfl Tx.M9 Tx.F9.kp Tx.B9 ?_
          · refine da_cons ?_ ?_
            · exact de_var (pv 0)
            · refine da_cons ?_ ?_
              · exact de_var (pv 3)
              · exact da_nil
        · refine dgT rfl ?_
          · refine dgsC (is := [4]) (js := [5, 6]) ?_ ?_
            · exact dg_name (pg_name (i := 4) nd rfl (by first | exact Or.inl rfl | exact Or.inr rfl))
            · refine dgsC (is := [5]) (js := [6]) ?_ ?_
              · exact dg_name (pg_name (i := 5) nd rfl (by first | exact Or.inl rfl | exact Or.inr rfl))
              · refine dgsC (is := [6]) (js := []) ?_ ?_
                · exact dg_name (pg_name (i := 6) nd rfl (by first | exact Or.inl rfl | exact Or.inr rfl))
                · exact dgs_nil
      · refine dss_one ?_
        · refine ds_ret ?_
          · refine de_tup ?_
            · refine da_cons ?_ ?_
              · refine de_op dop_add ?_ ?_
                · exact de_var (pv 4)
                · refine de_tup ?_
                  · refine da_cons ?_ ?_
                    · refine de_tup ?_
                      · refine da_cons ?_ ?_
                        · exact de_var (pv 2)
                        · refine da_cons ?_ ?_
                          · exact de_var (pv 5)
                          · exact da_nil
                    · exact da_nil
              · refine da_cons ?_ ?_
                · refine de_callB dc_len rfl Tx.z_len PySem.boot_len ?_
                  · refine da_cons ?_ ?_
                    · exact de_var (pv 4)
                    · exact da_nil
                · refine da_cons ?_ ?_
                  · exact de_var (pv 6)
                  · exact da_nil)
end
end K55
namespace K55
open PySem PySem.Spec PyProof.Rows L2 DL
section
variable [KFrag] {P : Program} {w : World} {K : PySem.W.Frag} {mg : Str → Option Value} {base : Heap} {a : Nat → Addr} {d : Nat → FuncData} {T : TX} {c ci : Nat → Addr}
theorem xspread_ok (hKF : K = KFrag.K) (hKw : w = KFrag.w) (Tx : Txt K mg a d T c ci) : FnG P w K mg base 4 (a 6) (d 6) ["course"] (spD T 1 xspread_r) := by
  subst hKF
  exact fnG (g := xspread_g) Tx.F6 xspread_sc rfl rfl fun cdv A outer s H E hgd hr => (by
  have nd := xspread_sc.nd
  refine dss_cons ?_ ?_
  · refine ds_asg (is := [1, 2]) ?_ ?_
    · exact de_var (pv 0)
    · refine dgT rfl ?_
      · refine dgsC (is := [1]) (js := [2]) ?_ ?_
        · exact dg_name (pg_name (i := 1) nd rfl (by first | exact Or.inl rfl | exact Or.inr rfl))
        · refine dgsC (is := [2]) (js := []) ?_ ?_
          · exact dg_name (pg_name (i := 2) nd rfl (by first | exact Or.inl rfl | exact Or.inr rfl))
          · exact dgs_nil
  · refine dss_cons ?_ ?_
    · refine ds_set (i := 3) nd rfl (by first | exact Or.inl rfl | exact Or.inr rfl) ?_
      · exact de_newDI0
    · refine dss_cons ?_ ?_
      · refine ds_for (is := [4]) (passes_of rfl) rfl ?_ ?_ ?_
        · refine di_seq ?_
          · refine de_srt hKw rfl hr.units rfl Tx.z_sorted PyProof.Rows.boot_sorted ?_
            · refine da_cons ?_ ?_
              · refine de_callPG hgd (takes_of rfl rfl rfl rfl) (xused_rows_ok rfl hKw Tx) (hr.mono (by decide)) rfl Tx.M3 Tx.F3.kp Tx.B3 ?_
                · refine da_cons ?_ ?_
                  · exact de_var (pv 1)
                  · refine da_cons ?_ ?_
                    · exact de_var (pv 2)
                    · exact da_nil
              · exact da_nil
        · exact dg_name (pg_name (i := 4) nd rfl (by first | exact Or.inl rfl | exact Or.inr rfl))
        · refine dss_one ?_
          · refine ds_dputI hr.units ?_ ?_ ?_
            · refine de_callG hgd (takes_of rfl rfl rfl rfl) (y_spread_row_ok rfl hKw Tx) (hr.mono (by decide)) rfl Tx.M8 Tx.F8.kp Tx.B8 ?_
              · refine da_cons ?_ ?_
                · exact de_var (pv 3)
                · refine da_cons ?_ ?_
                  · refine de_ix dix ?_ ?_
                    · exact de_var (pv 1)
                    · exact de_var (pv 4)
                  · exact da_nil
            · exact de_var (pv 3)
            · exact de_var (pv 4)
      · refine dss_one ?_
        · refine ds_ret ?_
          · refine de_callG hgd (takes_of rfl rfl rfl rfl) (y_spread_chain_ok rfl hKw Tx) (hr.mono (by decide)) rfl Tx.M9 Tx.F9.kp Tx.B9 ?_
            · refine da_cons ?_ ?_
              · exact de_var (pv 3)
              · refine da_cons ?_ ?_
                · exact de_var (pv 2)
                · exact da_nil)
end
end K55
namespace K55
open PySem PySem.Spec PyProof.Rows L2 DL
section
variable [KFrag] {P : Program} {w : World} {K : PySem.W.Frag} {mg : Str → Option Value} {base : Heap} {a : Nat → Addr} {d : Nat → FuncData} {T : TX} {c ci : Nat → Addr}
theorem xunfold_ok (hKF : K = KFrag.K) (hKw : w = KFrag.w) (Tx : Txt K mg a d T c ci) : FnG P w K mg base 5 (a 5) (d 5) ["house", "rules", "item", "course"] (spD T 4 xunfold_r) := by
  subst hKF
  exact fnG (g := xunfold_g) Tx.F5 xunfold_sc rfl rfl fun cdv A outer s H E hgd hr => (by
  have nd := xunfold_sc.nd
  refine dss_cons ?_ ?_
  · refine ds_asg (is := [4, 5]) ?_ ?_
    · refine de_callPG hgd (takes_of rfl rfl rfl rfl) (xcourse_cost_ok rfl hKw Tx) (hr.mono (by decide)) rfl Tx.M4 Tx.F4.kp Tx.B4 ?_
      · refine da_cons ?_ ?_
        · exact de_var (pv 0)
        · refine da_cons ?_ ?_
          · exact de_var (pv 1)
          · refine da_cons ?_ ?_
            · exact de_var (pv 2)
            · refine da_cons ?_ ?_
              · exact de_var (pv 3)
              · exact da_nil
    · refine dgT rfl ?_
      · refine dgsC (is := [4]) (js := [5]) ?_ ?_
        · exact dg_name (pg_name (i := 4) nd rfl (by first | exact Or.inl rfl | exact Or.inr rfl))
        · refine dgsC (is := [5]) (js := []) ?_ ?_
          · exact dg_name (pg_name (i := 5) nd rfl (by first | exact Or.inl rfl | exact Or.inr rfl))
          · exact dgs_nil
  · refine dss_cons ?_ ?_
    · refine ds_if ?_ ?_ ?_
      · refine dt_w ?_
        · refine dw_or ?_ ?_
          · refine dt_cmp dop_gt ?_ ?_
            · exact de_var (pv 4)
            · exact de_gint rfl Tx.g_MOST_MOVES.choose_spec
          · refine dw_or1 ?_
            · refine dt_cmp dop_gt ?_ ?_
              · refine de_op dop_add ?_ ?_
                · exact de_var (pv 5)
                · exact de_int
              · exact de_gint rfl Tx.g_MOST_THINGS.choose_spec
      · refine dss_one ?_
        · refine ds_raise 0 Tx.T0 (ps_raise rfl (takes_of rfl rfl rfl rfl) (L2.Er_LimitExceeded.pmk_low Tx.K0 hr ?_))
          · refine da_cons ?_ ?_
            · exact de_gint rfl Tx.g_MOST_THINGS.choose_spec
            · exact da_nil
      · exact dss_nil
    · refine dss_cons ?_ ?_
      · refine ds_asg (is := [6, 7, 8]) ?_ ?_
        · refine de_callPG hgd (takes_of rfl rfl rfl rfl) (xspread_ok rfl hKw Tx) (hr.mono (by decide)) rfl Tx.M6 Tx.F6.kp Tx.B6 ?_
          · refine da_cons ?_ ?_
            · exact de_var (pv 3)
            · exact da_nil
        · refine dgT rfl ?_
          · refine dgsC (is := [6]) (js := [7, 8]) ?_ ?_
            · exact dg_name (pg_name (i := 6) nd rfl (by first | exact Or.inl rfl | exact Or.inr rfl))
            · refine dgsC (is := [7]) (js := [8]) ?_ ?_
              · exact dg_name (pg_name (i := 7) nd rfl (by first | exact Or.inl rfl | exact Or.inr rfl))
              · refine dgsC (is := [8]) (js := []) ?_ ?_
                · exact dg_name (pg_name (i := 8) nd rfl (by first | exact Or.inl rfl | exact Or.inr rfl))
                · exact dgs_nil
      · refine dss_one ?_
        · refine ds_ret ?_
          · refine de_tup ?_
            · refine da_cons ?_ ?_
              · refine de_op dop_add ?_ ?_
                · exact de_var (pv 6)
                · refine de_tup ?_
                  · refine da_cons ?_ ?_
                    · refine de_tup ?_
                      · refine da_cons ?_ ?_
                        · exact de_var (pv 2)
                        · refine da_cons ?_ ?_
                          · exact de_var (pv 7)
                          · exact da_nil
                    · exact da_nil
              · refine da_cons ?_ ?_
                · refine de_callB dc_len rfl Tx.z_len PySem.boot_len ?_
                  · refine da_cons ?_ ?_
                    · exact de_var (pv 6)
                    · exact da_nil
                · refine da_cons ?_ ?_
                  · exact de_var (pv 8)
                  · exact da_nil)
end
end K55
namespace K55
open PySem PySem.Spec PyProof.Rows L2 DL
section
variable [KFrag] {P : Program} {w : World} {K : PySem.W.Frag} {mg : Str → Option Value} {base : Heap} {a : Nat → Addr} {d : Nat → FuncData} {T : TX} {c ci : Nat → Addr}
theorem y_law_stepped_ok (hKF : K = KFrag.K) (hKw : w = KFrag.w) (Tx : Txt K mg a d T c ci) : FnG P w K mg base 1 (a 10) (d 10) ["_law_sizes", "_law_cells", "_law_step"] (spD T 3 y_law_stepped_r) := by
  subst hKF
  exact fnG (g := y_law_stepped_g) Tx.F10 y_law_stepped_sc rfl rfl fun cdv A outer s H E hgd hr => (by
  have nd := y_law_stepped_sc.nd
  refine dss_cons ?_ ?_
  · refine ds_asg (is := [3, 4, 5]) ?_ ?_
    · exact de_var (pv 2)
    · refine dgT rfl ?_
      · refine dgsC (is := [3]) (js := [4, 5]) ?_ ?_
        · exact dg_name (pg_name (i := 3) nd rfl (by first | exact Or.inl rfl | exact Or.inr rfl))
        · refine dgsC (is := [4]) (js := [5]) ?_ ?_
          · exact dg_name (pg_name (i := 4) nd rfl (by first | exact Or.inl rfl | exact Or.inr rfl))
          · refine dgsC (is := [5]) (js := []) ?_ ?_
            · exact dg_name (pg_name (i := 5) nd rfl (by first | exact Or.inl rfl | exact Or.inr rfl))
            · exact dgs_nil
  · refine dss_one ?_
    · refine ds_if ?_ ?_ ?_
      · refine dt_cmp (dop_eq hr.units) ?_ ?_
        · exact de_var (pv 3)
        · exact de_str
      · refine dss_one ?_
        · refine ds_put ?_ (de_var (pv 1)) ?_
          · exact de_var (pv 5)
          · exact de_var (pv 4)
      · refine dss_one ?_
        · refine ds_if ?_ ?_ ?_
          · refine dt_cmp (dop_eq hr.units) ?_ ?_
            · exact de_var (pv 3)
            · exact de_str
          · refine dss_one ?_
            · refine ds_put ?_ (de_var (pv 1)) ?_
              · refine de_callB (dc_max2 rfl) rfl Tx.z_max PyProof.Rows.boot_max ?_
                · refine da_cons ?_ ?_
                  · refine de_ixA ?_ ?_
                    · exact de_var (pv 1)
                    · exact de_var (pv 4)
                  · refine da_cons ?_ ?_
                    · exact de_var (pv 5)
                    · exact da_nil
              · exact de_var (pv 4)
          · refine dss_one ?_
            · refine ds_if ?_ ?_ ?_
              · refine dt_cmp (dop_eq hr.units) ?_ ?_
                · exact de_var (pv 3)
                · exact de_str
              · refine dss_one ?_
                · refine ds_put ?_ (de_var (pv 1)) ?_
                  · refine de_callB (dc_minA rfl) rfl Tx.z_min PyProof.Rows.boot_min ?_
                    · refine da_cons ?_ ?_
                      · refine de_ixA ?_ ?_
                        · exact de_var (pv 1)
                        · exact de_var (pv 4)
                      · refine da_cons ?_ ?_
                        · exact de_var (pv 5)
                        · exact da_nil
                  · exact de_var (pv 4)
              · refine dss_one ?_
                · refine ds_put ?_ (de_var (pv 1)) ?_
                  · refine de_callB (dc_minA rfl) rfl Tx.z_min PyProof.Rows.boot_min ?_
                    · refine da_cons ?_ ?_
                      · refine de_ixA ?_ ?_
                        · exact de_var (pv 1)
                        · exact de_var (pv 5)
                      · refine da_cons ?_ ?_
                        · refine de_op dop_sub ?_ ?_
                          · refine de_ix dix ?_ ?_
                            · exact de_var (pv 0)
                            · exact de_var (pv 4)
                          · exact de_int
                        · exact da_nil
                  · exact de_var (pv 4))
end
end K55
namespace K55
open PySem PySem.Spec PyProof.Rows L2 DL
section
variable [KFrag] {P : Program} {w : World} {K : PySem.W.Frag} {mg : Str → Option Value} {base : Heap} {a : Nat → Addr} {d : Nat → FuncData} {T : TX} {c ci : Nat → Addr}
theorem y_law_made_ok (hKF : K = KFrag.K) (hKw : w = KFrag.w) (Tx : Txt K mg a d T c ci) : FnG P w K mg base 2 (a 11) (d 11) ["_law_house", "_law_content_here", "_law_kind"] (spD T 3 y_law_made_r) := by
  subst hKF
  exact fnG (g := y_law_made_g) Tx.F11 y_law_made_sc rfl rfl fun cdv A outer s H E hgd hr => (by
  have nd := y_law_made_sc.nd
  refine dss_cons ?_ ?_
  · refine ds_set (i := 3) nd rfl (by first | exact Or.inl rfl | exact Or.inr rfl) ?_
    · refine de_newL rfl Tx.z_list ?_
      · refine da_cons ?_ ?_
        · exact de_var (pv 1)
        · exact da_nil
  · refine dss_cons ?_ ?_
    · refine ds_for (is := [4]) (passes_of rfl) rfl ?_ ?_ ?_
      · refine di_seq ?_
        · refine de_ix dix ?_ ?_
          · refine de_ix dix ?_ ?_
            · exact de_var (pv 0)
            · exact de_int
          · exact de_var (pv 2)
      · exact dg_name (pg_name (i := 4) nd rfl (by first | exact Or.inl rfl | exact Or.inr rfl))
      · refine dss_one ?_
        · refine ds_if ?_ ?_ ?_
          · refine dt_cmp (dop_ne hr.units) ?_ ?_
            · refine de_ix dix ?_ ?_
              · exact de_var (pv 4)
              · exact de_int
            · exact de_str
          · refine dss_one ?_
            · refine ds_expr ?_
              · refine de_callG hgd (takes_of rfl rfl rfl rfl) (y_law_stepped_ok rfl hKw Tx) (hr.mono (by decide)) rfl Tx.M10 Tx.F10.kp Tx.B10 ?_
                · refine da_cons ?_ ?_
                  · refine de_ix dix ?_ ?_
                    · exact de_var (pv 0)
                    · exact de_int
                  · refine da_cons ?_ ?_
                    · exact de_var (pv 3)
                    · refine da_cons ?_ ?_
                      · exact de_var (pv 4)
                      · exact da_nil
          · refine dss_one ?_
            · refine ds_if ?_ ?_ ?_
              · refine dt_chain dop_le dop_le ?_ ?_ ?_
                · refine de_ix dix ?_ ?_
                  · exact de_var (pv 4)
                  · exact de_int
                · refine de_ixA ?_ ?_
                  · exact de_var (pv 3)
                  · refine de_ix dix ?_ ?_
                    · exact de_var (pv 4)
                    · exact de_int
                · refine de_ix dix ?_ ?_
                  · exact de_var (pv 4)
                  · exact de_int
              · refine dss_one ?_
                · refine ds_expr ?_
                  · refine de_callG hgd (takes_of rfl rfl rfl rfl) (y_law_stepped_ok rfl hKw Tx) (hr.mono (by decide)) rfl Tx.M10 Tx.F10.kp Tx.B10 ?_
                    · refine da_cons ?_ ?_
                      · refine de_ix dix ?_ ?_
                        · exact de_var (pv 0)
                        · exact de_int
                      · refine da_cons ?_ ?_
                        · exact de_var (pv 3)
                        · refine da_cons ?_ ?_
                          · refine de_ix dix ?_ ?_
                            · exact de_var (pv 4)
                            · exact de_int
                          · exact da_nil
              · exact dss_nil
    · refine dss_one ?_
      · refine ds_ret ?_
        · refine de_callTy dc_tuple rfl Tx.z_tuple PyProof.Rows.boot_tuple ?_
          · refine da_cons ?_ ?_
            · exact de_frz (pv 3)
            · exact da_nil)
end
end K55
namespace K55
open PySem PySem.Spec PyProof.Rows L2 DL
section
variable [KFrag] {P : Program} {w : World} {K : PySem.W.Frag} {mg : Str → Option Value} {base : Heap} {a : Nat → Addr} {d : Nat → FuncData} {T : TX} {c ci : Nat → Addr}
theorem y_law_path_ok (hKF : K = KFrag.K) (hKw : w = KFrag.w) (Tx : Txt K mg a d T c ci) : FnG P w K mg base 1 (a 12) (d 12) ["_law_tree", "_law_thing"] (spD T 2 y_law_path_r) := by
  subst hKF
  exact fnG (g := y_law_path_g) Tx.F12 y_law_path_sc rfl rfl fun cdv A outer s H E hgd hr => (by
  have nd := y_law_path_sc.nd
  refine dss_cons ?_ ?_
  · refine ds_set (i := 2) nd rfl (by first | exact Or.inl rfl | exact Or.inr rfl) ?_
    · refine de_new ?_
      · refine da_cons ?_ ?_
        · exact de_var (pv 1)
        · exact da_nil
  · refine dss_cons ?_ ?_
    · refine ds_while 4096 (passes_of rfl) ?_ ?_
      · refine dt_cmp dop_ge ?_ ?_
        · refine de_ix dix ?_ ?_
          · refine de_ix dix ?_ ?_
            · exact de_var (pv 0)
            · refine de_ixA ?_ ?_
              · exact de_var (pv 2)
              · exact de_int
          · exact de_int
        · exact de_int
      · refine dss_one ?_
        · refine ds_ins (de_var (pv 2)) ?_ ?_
          · exact de_int
          · refine de_ix dix ?_ ?_
            · refine de_ix dix ?_ ?_
              · exact de_var (pv 0)
              · refine de_ixA ?_ ?_
                · exact de_var (pv 2)
                · exact de_int
            · exact de_int
    · refine dss_one ?_
      · refine ds_ret ?_
        · exact de_frz (pv 2))
end
end K55
namespace K55
open PySem PySem.Spec PyProof.Rows L2 DL
section
variable [KFrag] {P : Program} {w : World} {K : PySem.W.Frag} {mg : Str → Option Value} {base : Heap} {a : Nat → Addr} {d : Nat → FuncData} {T : TX} {c ci : Nat → Addr}
theorem y_law_content_ok (hKF : K = KFrag.K) (hKw : w = KFrag.w) (Tx : Txt K mg a d T c ci) : FnG P w K mg base 3 (a 13) (d 13) ["_law_house", "_law_tree", "_law_thing"] (spD T 3 y_law_content_r) := by
  subst hKF
  exact fnG (g := y_law_content_g) Tx.F13 y_law_content_sc rfl rfl fun cdv A outer s H E hgd hr => (by
  have nd := y_law_content_sc.nd
  refine dss_cons ?_ ?_
  · refine ds_set (i := 3) nd rfl (by first | exact Or.inl rfl | exact Or.inr rfl) ?_
    · refine de_ix dix ?_ ?_
      · exact de_var (pv 0)
      · exact de_int
  · refine dss_cons ?_ ?_
    · refine ds_for (is := [4]) (passes_of rfl) rfl ?_ ?_ ?_
      · refine di_seq ?_
        · refine de_slice rfl ?_ ?_ ?_
          · refine de_callPG hgd (takes_of rfl rfl rfl rfl) (y_law_path_ok rfl hKw Tx) (hr.mono (by decide)) rfl Tx.M12 Tx.F12.kp Tx.B12 ?_
            · refine da_cons ?_ ?_
              · exact de_var (pv 1)
              · refine da_cons ?_ ?_
                · exact de_var (pv 2)
                · exact da_nil
          · exact do_none
          · refine do_some ?_
            · refine de_neg ?_
              · exact de_int
      · exact dg_name (pg_name (i := 4) nd rfl (by first | exact Or.inl rfl | exact Or.inr rfl))
      · refine dss_one ?_
        · refine ds_set (i := 3) nd rfl (by first | exact Or.inl rfl | exact Or.inr rfl) ?_
          · refine de_callPG hgd (takes_of rfl rfl rfl rfl) (y_law_made_ok rfl hKw Tx) (hr.mono (by decide)) rfl Tx.M11 Tx.F11.kp Tx.B11 ?_
            · refine da_cons ?_ ?_
              · exact de_var (pv 0)
              · refine da_cons ?_ ?_
                · exact de_var (pv 3)
                · refine da_cons ?_ ?_
                  · refine de_ix dix ?_ ?_
                    · refine de_ix dix ?_ ?_
                      · exact de_var (pv 1)
                      · exact de_var (pv 4)
                    · exact de_int
                  · exact da_nil
    · refine dss_one ?_
      · refine ds_ret ?_
        · exact de_var (pv 3))
end
end K55
namespace K55
open PySem PySem.Spec PyProof.Rows L2 DL
section
variable [KFrag] {P : Program} {w : World} {K : PySem.W.Frag} {mg : Str → Option Value} {base : Heap} {a : Nat → Addr} {d : Nat → FuncData} {T : TX} {c ci : Nat → Addr}
theorem y_law_place_ok (hKF : K = KFrag.K) (hKw : w = KFrag.w) (Tx : Txt K mg a d T c ci) : FnG P w K mg base 4 (a 14) (d 14) ["_law_house", "_law_tree", "_law_target"] (spD T 3 y_law_place_r) := by
  subst hKF
  exact fnG (g := y_law_place_g) Tx.F14 y_law_place_sc rfl rfl fun cdv A outer s H E hgd hr => (by
  have nd := y_law_place_sc.nd
  refine dss_cons ?_ ?_
  · refine ds_if ?_ ?_ ?_
    · refine dt_cmp dop_lt ?_ ?_
      · exact de_var (pv 2)
      · exact de_int
    · refine dss_one ?_
      · refine ds_ret ?_
        · refine de_ix dix ?_ ?_
          · exact de_var (pv 0)
          · exact de_int
    · exact dss_nil
  · refine dss_cons ?_ ?_
    · refine ds_set (i := 3) nd rfl (by first | exact Or.inl rfl | exact Or.inr rfl) ?_
      · refine de_callPG hgd (takes_of rfl rfl rfl rfl) (y_law_content_ok rfl hKw Tx) (hr.mono (by decide)) rfl Tx.M13 Tx.F13.kp Tx.B13 ?_
        · refine da_cons ?_ ?_
          · exact de_var (pv 0)
          · refine da_cons ?_ ?_
            · exact de_var (pv 1)
            · refine da_cons ?_ ?_
              · exact de_var (pv 2)
              · exact da_nil
    · refine dss_one ?_
      · refine ds_ret ?_
        · refine de_callPG hgd (takes_of rfl rfl rfl rfl) (y_law_made_ok rfl hKw Tx) (hr.mono (by decide)) rfl Tx.M11 Tx.F11.kp Tx.B11 ?_
          · refine da_cons ?_ ?_
            · exact de_var (pv 0)
            · refine da_cons ?_ ?_
              · exact de_var (pv 3)
              · refine da_cons ?_ ?_
                · refine de_ix dix ?_ ?_
                  · refine de_ix dix ?_ ?_
                    · exact de_var (pv 1)
                    · exact de_var (pv 2)
                  · exact de_int
                · exact da_nil)
end
end K55
namespace K55
open PySem PySem.Spec PyProof.Rows L2 DL
section
variable [KFrag] {P : Program} {w : World} {K : PySem.W.Frag} {mg : Str → Option Value} {base : Heap} {a : Nat → Addr} {d : Nat → FuncData} {T : TX} {c ci : Nat → Addr}
theorem y_law_letting_ok (hKF : K = KFrag.K) (hKw : w = KFrag.w) (Tx : Txt K mg a d T c ci) : FnG P w K mg base 5 (a 15) (d 15) ["_law_house", "_law_rules", "_law_tree", "_law_thing", "_law_target"] (spD T 5 y_law_letting_r) := by
  subst hKF
  exact fnG (g := y_law_letting_g) Tx.F15 y_law_letting_sc rfl rfl fun cdv A outer s H E hgd hr => (by
  have nd := y_law_letting_sc.nd
  refine dss_cons ?_ ?_
  · refine ds_if ?_ ?_ ?_
    · refine dt_w ?_
      · refine dw_and ?_ ?_
        · refine dt_cmp dop_ge ?_ ?_
          · exact de_var (pv 4)
          · exact de_int
        · refine dw_and1 ?_
          · refine dt_cmp (dop_eq hr.units) ?_ ?_
            · refine de_ix dix ?_ ?_
              · refine de_ix dix ?_ ?_
                · exact de_var (pv 2)
                · exact de_var (pv 4)
              · exact de_int
            · refine de_callB dc_len rfl Tx.z_len PySem.boot_len ?_
              · refine da_cons ?_ ?_
                · refine de_ix dix ?_ ?_
                  · exact de_var (pv 0)
                  · exact de_int
                · exact da_nil
    · refine dss_one ?_
      · refine ds_ret ?_
        · exact de_none
    · exact dss_nil
  · refine dss_cons ?_ ?_
    · refine ds_if ?_ ?_ ?_
      · refine dt_w ?_
        · refine dw_and ?_ ?_
          · refine dt_cmp dop_ge ?_ ?_
            · exact de_var (pv 4)
            · exact de_int
          · refine dw_and1 ?_
            · refine dt_cmp (dop_in (units65 hr)) ?_ ?_
              · exact de_var (pv 3)
              · refine de_callPG hgd (takes_of rfl rfl rfl rfl) (y_law_path_ok rfl hKw Tx) (hr.mono (by decide)) rfl Tx.M12 Tx.F12.kp Tx.B12 ?_
                · refine da_cons ?_ ?_
                  · exact de_var (pv 2)
                  · refine da_cons ?_ ?_
                    · exact de_var (pv 4)
                    · exact da_nil
      · refine dss_one ?_
        · refine ds_ret ?_
          · exact de_none
      · exact dss_nil
    · refine dss_cons ?_ ?_
      · refine ds_set (i := 5) nd rfl (by first | exact Or.inl rfl | exact Or.inr rfl) ?_
        · refine de_callPG hgd (takes_of rfl rfl rfl rfl) (y_law_content_ok rfl hKw Tx) (hr.mono (by decide)) rfl Tx.M13 Tx.F13.kp Tx.B13 ?_
          · refine da_cons ?_ ?_
            · exact de_var (pv 0)
            · refine da_cons ?_ ?_
              · exact de_var (pv 2)
              · refine da_cons ?_ ?_
                · exact de_var (pv 3)
                · exact da_nil
      · refine dss_cons ?_ ?_
        · refine ds_set (i := 6) nd rfl (by first | exact Or.inl rfl | exact Or.inr rfl) ?_
          · refine de_callPG hgd (takes_of rfl rfl rfl rfl) (y_law_place_ok rfl hKw Tx) (hr.mono (by decide)) rfl Tx.M14 Tx.F14.kp Tx.B14 ?_
            · refine da_cons ?_ ?_
              · exact de_var (pv 0)
              · refine da_cons ?_ ?_
                · exact de_var (pv 2)
                · refine da_cons ?_ ?_
                  · exact de_var (pv 4)
                  · exact da_nil
        · refine dss_cons ?_ ?_
          · refine ds_for (is := [7, 8, 9, 10]) (passes_of rfl) rfl ?_ ?_ ?_
            · refine di_enu rfl Tx.z_enumerate ?_
              · refine da_cons ?_ ?_
                · exact de_var (pv 1)
                · exact da_nil
            · refine dgT rfl ?_
              · refine dgsC (is := [7]) (js := [8, 9, 10]) ?_ ?_
                · exact dg_name (pg_name (i := 7) nd rfl (by first | exact Or.inl rfl | exact Or.inr rfl))
                · refine dgsC (is := [8, 9, 10]) (js := []) ?_ ?_
                  · refine dgT rfl ?_
                    · refine dgsC (is := [8]) (js := [9, 10]) ?_ ?_
                      · exact dg_name (pg_name (i := 8) nd rfl (by first | exact Or.inl rfl | exact Or.inr rfl))
                      · refine dgsC (is := [9]) (js := [10]) ?_ ?_
                        · exact dg_name (pg_name (i := 9) nd rfl (by first | exact Or.inl rfl | exact Or.inr rfl))
                        · refine dgsC (is := [10]) (js := []) ?_ ?_
                          · exact dg_name (pg_name (i := 10) nd rfl (by first | exact Or.inl rfl | exact Or.inr rfl))
                          · exact dgs_nil
                  · exact dgs_nil
            · refine dss_one ?_
              · refine ds_if ?_ ?_ ?_
                · refine dt_w ?_
                  · refine dw_and ?_ ?_
                    · refine dt_cmp (dop_eq hr.units) ?_ ?_
                      · exact de_var (pv 8)
                      · refine de_ix dix ?_ ?_
                        · refine de_ix dix ?_ ?_
                          · exact de_var (pv 2)
                          · exact de_var (pv 3)
                        · exact de_int
                    · refine dw_and ?_ ?_
                      · refine dt_cmp (dop_in (units65 hr)) ?_ ?_
                        · exact de_var (pv 5)
                        · exact de_var (pv 9)
                      · refine dw_and1 ?_
                        · refine dt_cmp (dop_in (units65 hr)) ?_ ?_
                          · exact de_var (pv 6)
                          · exact de_var (pv 10)
                · refine dss_one ?_
                  · refine ds_ret ?_
                    · exact de_var (pv 7)
                · exact dss_nil
          · refine dss_one ?_
            · refine ds_ret ?_
              · exact de_none)
end
end K55
namespace K55
open PySem PySem.Spec PyProof.Rows L2 DL
section
variable [KFrag] {P : Program} {w : World} {K : PySem.W.Frag} {mg : Str → Option Value} {base : Heap} {a : Nat → Addr} {d : Nat → FuncData} {T : TX} {c ci : Nat → Addr}
theorem y_law_moved_ok (hKF : K = KFrag.K) (hKw : w = KFrag.w) (Tx : Txt K mg a d T c ci) : FnG P w K mg base 1 (a 16) (d 16) ["_law_tree", "_law_thing", "_law_target"] (spD T 3 y_law_moved_r) := by
  subst hKF
  exact fnG (g := y_law_moved_g) Tx.F16 y_law_moved_sc rfl rfl fun cdv A outer s H E hgd hr => (by
  have nd := y_law_moved_sc.nd
  refine dss_one ?_
  · refine ds_ret ?_
    · refine de_op dop_add ?_ ?_
      · refine de_op dop_add ?_ ?_
        · refine de_slice rfl ?_ ?_ ?_
          · exact de_var (pv 0)
          · exact do_none
          · refine do_some ?_
            · exact de_var (pv 1)
        · refine de_tup ?_
          · refine da_cons ?_ ?_
            · refine de_tup ?_
              · refine da_cons ?_ ?_
                · refine de_ix dix ?_ ?_
                  · refine de_ix dix ?_ ?_
                    · exact de_var (pv 0)
                    · exact de_var (pv 1)
                  · exact de_int
                · refine da_cons ?_ ?_
                  · exact de_var (pv 2)
                  · exact da_nil
            · exact da_nil
      · refine de_slice rfl ?_ ?_ ?_
        · exact de_var (pv 0)
        · refine do_some ?_
          · refine de_op dop_add ?_ ?_
            · exact de_var (pv 1)
            · exact de_int
        · exact do_none)
end
end K55
namespace K55
open PySem PySem.Spec PyProof.Rows L2 DL
section
variable [KFrag] {P : Program} {w : World} {K : PySem.W.Frag} {mg : Str → Option Value} {base : Heap} {a : Nat → Addr} {d : Nat → FuncData} {T : TX} {c ci : Nat → Addr}
theorem y_law_ground_ok (hKF : K = KFrag.K) (hKw : w = KFrag.w) (Tx : Txt K mg a d T c ci) : FnG P w K mg base 1 (a 17) (d 17) [] (spD T 0 y_law_ground_r) := by
  subst hKF
  exact fnG (g := y_law_ground_g) Tx.F17 y_law_ground_sc rfl rfl fun cdv A outer s H E hgd hr => (by
  have nd := y_law_ground_sc.nd
  refine dss_one ?_
  · refine ds_ret ?_
    · refine de_tup ?_
      · refine da_cons ?_ ?_
        · refine de_tup ?_
          · refine da_cons ?_ ?_
            · refine de_tup ?_
              · refine da_cons ?_ ?_
                · exact de_int
                · exact da_nil
            · refine da_cons ?_ ?_
              · refine de_tup ?_
                · refine da_cons ?_ ?_
                  · exact de_int
                  · exact da_nil
              · refine da_cons ?_ ?_
                · refine de_tup ?_
                  · refine da_cons ?_ ?_
                    · refine de_tup ?_
                      · exact da_nil
                    · exact da_nil
                · exact da_nil
        · refine da_cons ?_ ?_
          · refine de_tup ?_
            · refine da_cons ?_ ?_
              · refine de_tup ?_
                · refine da_cons ?_ ?_
                  · exact de_int
                  · refine da_cons ?_ ?_
                    · refine de_tup ?_
                      · refine da_cons ?_ ?_
                        · refine de_tup ?_
                          · refine da_cons ?_ ?_
                            · exact de_int
                            · exact da_nil
                        · exact da_nil
                    · refine da_cons ?_ ?_
                      · refine de_tup ?_
                        · refine da_cons ?_ ?_
                          · refine de_tup ?_
                            · refine da_cons ?_ ?_
                              · exact de_int
                              · exact da_nil
                          · exact da_nil
                      · exact da_nil
              · refine da_cons ?_ ?_
                · refine de_tup ?_
                  · refine da_cons ?_ ?_
                    · exact de_int
                    · refine da_cons ?_ ?_
                      · refine de_tup ?_
                        · refine da_cons ?_ ?_
                          · refine de_tup ?_
                            · refine da_cons ?_ ?_
                              · exact de_int
                              · exact da_nil
                          · exact da_nil
                      · refine da_cons ?_ ?_
                        · refine de_tup ?_
                          · refine da_cons ?_ ?_
                            · refine de_tup ?_
                              · refine da_cons ?_ ?_
                                · exact de_int
                                · exact da_nil
                            · exact da_nil
                        · exact da_nil
                · exact da_nil
          · exact da_nil)
end
end K55
namespace K55
open PySem PySem.Spec PyProof.Rows L2 DL
section
variable [KFrag] {P : Program} {w : World} {K : PySem.W.Frag} {mg : Str → Option Value} {base : Heap} {a : Nat → Addr} {d : Nat → FuncData} {T : TX} {c ci : Nat → Addr}
theorem y_law_counted_ok (hKF : K = KFrag.K) (hKw : w = KFrag.w) (Tx : Txt K mg a d T c ci) : FnG P w K mg base 6 (a 18) (d 18) ["_law_course"] (spD T 1 y_law_counted_r) := by
  subst hKF
  exact fnG (g := y_law_counted_g) Tx.F18 y_law_counted_sc rfl rfl fun cdv A outer s H E hgd hr => (by
  have nd := y_law_counted_sc.nd
  refine dss_cons ?_ ?_
  · refine ds_asg (is := [1, 2]) ?_ ?_
    · exact de_callPG0 hgd (takes_of rfl rfl rfl rfl) (y_law_ground_ok rfl hKw Tx) (hr.mono (by decide)) rfl Tx.M17 Tx.F17.kp Tx.B17
    · refine dgT rfl ?_
      · refine dgsC (is := [1]) (js := [2]) ?_ ?_
        · exact dg_name (pg_name (i := 1) nd rfl (by first | exact Or.inl rfl | exact Or.inr rfl))
        · refine dgsC (is := [2]) (js := []) ?_ ?_
          · exact dg_name (pg_name (i := 2) nd rfl (by first | exact Or.inl rfl | exact Or.inr rfl))
          · exact dgs_nil
  · refine dss_cons ?_ ?_
    · refine ds_try (cs := 0) (i := 6) Tx.T0 ?_ rfl rfl nd rfl rfl ?_ (takes_of rfl rfl rfl rfl) (fun Wt pnt xet tk po => ?_) (fun ad oe cls dx pnt hz hf => ?_)
      · exact Tx.K0.te
      · exact ⟨rfl, by decide, Or.inl Tx.K0.gC⟩
      · refine dss_one ?_
        · refine ds_asg (is := [3, 4, 5]) ?_ ?_
          · refine de_callXG hgd tk (xunfold_ok rfl hKw Tx) (hr.mono (by decide)) rfl Tx.M5 Tx.F5.kp Tx.B5 ?_
            · refine da_cons ?_ ?_
              · exact de_var (pv 1)
              · refine da_cons ?_ ?_
                · exact de_var (pv 2)
                · refine da_cons ?_ ?_
                  · exact de_int
                  · refine da_cons ?_ ?_
                    · exact de_var (pv 0)
                    · exact da_nil
          · refine dgT rfl ?_
            · refine dgsC (is := [3]) (js := [4, 5]) ?_ ?_
              · exact dg_name (pg_name (i := 3) nd rfl (by first | exact Or.inl rfl | exact Or.inr rfl))
              · refine dgsC (is := [4]) (js := [5]) ?_ ?_
                · exact dg_name (pg_name (i := 4) nd rfl (by first | exact Or.inl rfl | exact Or.inr rfl))
                · refine dgsC (is := [5]) (js := []) ?_ ?_
                  · exact dg_name (pg_name (i := 5) nd rfl (by first | exact Or.inl rfl | exact Or.inr rfl))
                  · exact dgs_nil
      · refine xs_ret ?_
        · exact xe_by Tx.T0 (L2.Er_LimitExceeded.pe_byLow Tx.K0 hz hf (pv 6))
    · refine dss_cons ?_ ?_
      · refine ds_for (is := [7, 8]) (passes_of rfl) rfl ?_ ?_ ?_
        · refine di_seq ?_
          · exact de_var (pv 5)
        · refine dgT rfl ?_
          · refine dgsC (is := [7]) (js := [8]) ?_ ?_
            · exact dg_name (pg_name (i := 7) nd rfl (by first | exact Or.inl rfl | exact Or.inr rfl))
            · refine dgsC (is := [8]) (js := []) ?_ ?_
              · exact dg_name (pg_name (i := 8) nd rfl (by first | exact Or.inl rfl | exact Or.inr rfl))
              · exact dgs_nil
        · refine dss_cons ?_ ?_
          · refine ds_if ?_ ?_ ?_
            · refine dt_isN ?_
              · refine de_callPG hgd (takes_of rfl rfl rfl rfl) (y_law_letting_ok rfl hKw Tx) (hr.mono (by decide)) rfl Tx.M15 Tx.F15.kp Tx.B15 ?_
                · refine da_cons ?_ ?_
                  · exact de_var (pv 1)
                  · refine da_cons ?_ ?_
                    · exact de_var (pv 2)
                    · refine da_cons ?_ ?_
                      · exact de_var (pv 3)
                      · refine da_cons ?_ ?_
                        · exact de_var (pv 7)
                        · refine da_cons ?_ ?_
                          · exact de_var (pv 8)
                          · exact da_nil
            · refine dss_one ?_
              · refine ds_ret ?_
                · exact de_none
            · exact dss_nil
          · refine dss_one ?_
            · refine ds_set (i := 3) nd rfl (by first | exact Or.inl rfl | exact Or.inr rfl) ?_
              · refine de_callPG hgd (takes_of rfl rfl rfl rfl) (y_law_moved_ok rfl hKw Tx) (hr.mono (by decide)) rfl Tx.M16 Tx.F16.kp Tx.B16 ?_
                · refine da_cons ?_ ?_
                  · exact de_var (pv 3)
                  · refine da_cons ?_ ?_
                    · exact de_var (pv 7)
                    · refine da_cons ?_ ?_
                      · exact de_var (pv 8)
                      · exact da_nil
      · refine dss_one ?_
        · refine ds_ret ?_
          · refine de_if ?_ ?_ ?_
            · refine dt_cmp (dop_eq hr.units) ?_ ?_
              · refine de_ix dix ?_ ?_
                · refine de_ix dix ?_ ?_
                  · exact de_var (pv 3)
                  · exact de_var (pv 4)
                · exact de_int
              · exact de_int
            · refine de_tup ?_
              · refine da_cons ?_ ?_
                · refine de_callB dc_len rfl Tx.z_len PySem.boot_len ?_
                  · refine da_cons ?_ ?_
                    · exact de_var (pv 3)
                    · exact da_nil
                · refine da_cons ?_ ?_
                  · refine de_callB dc_len rfl Tx.z_len PySem.boot_len ?_
                    · refine da_cons ?_ ?_
                      · exact de_var (pv 5)
                      · exact da_nil
                  · exact da_nil
            · exact de_none)
end
end K55
namespace K55
open PySem PySem.Spec PyProof.Rows L2 DL
section
variable [KFrag] {P : Program} {w : World} {K : PySem.W.Frag} {mg : Str → Option Value} {base : Heap} {a : Nat → Addr} {d : Nat → FuncData} {T : TX} {c ci : Nat → Addr}
theorem y_law_things_right_ok (hKF : K = KFrag.K) (hKw : w = KFrag.w) (Tx : Txt K mg a d T c ci) : FnG P w K mg base 7 (a 19) (d 19) ["_law_more"] (spD T 1 y_law_things_right_r) := by
  subst hKF
  exact fnG (g := y_law_things_right_g) Tx.F19 y_law_things_right_sc rfl rfl fun cdv A outer s H E hgd hr => (by
  have nd := y_law_things_right_sc.nd
  refine dss_cons ?_ ?_
  · refine ds_set (i := 1) nd rfl (by first | exact Or.inl rfl | exact Or.inr rfl) ?_
    · refine de_op dop_add ?_ ?_
      · refine de_tup ?_
        · refine da_cons ?_ ?_
          · refine de_tup ?_
            · refine da_cons ?_ ?_
              · exact de_str
              · exact da_nil
          · exact da_nil
      · refine de_callTy dc_tuple rfl Tx.z_tuple PyProof.Rows.boot_tuple ?_
        · refine da_cons ?_ ?_
          · refine de_lc (is := [3]) (own := [("_law_at", 3)]) rfl nd ?_ (blkOk_by (N := y_law_things_right_N) (sc := defScope y_law_things_right_s) (own := [("_law_at", 3)]) (by decide +kernel)) (by decide) ?_ ?_ ?_
            · refine di_rng1 rfl Tx.z_range ?_
              · exact de_int
            · refine fun _ _ _ _ _ => ?_
              · exact dg_name (pg_name (i := 3) nd rfl (by first | exact Or.inl rfl | exact Or.inr rfl))
            · refine fun _ _ _ _ _ => ?_
              · exact dts_nil
            · refine fun _ _ _ _ _ => ?_
              · refine de_tup ?_
                · refine da_cons ?_ ?_
                  · exact de_int
                  · refine da_cons ?_ ?_
                    · refine de_tup ?_
                      · refine da_cons ?_ ?_
                        · exact de_var (pv 3)
                        · exact da_nil
                    · exact da_nil
          · exact da_nil
  · refine dss_cons ?_ ?_
    · refine ds_setLc (i := 2) (is := [4]) (own := [("_law_last", 4)]) rfl nd rfl rfl (sw_true rfl rfl rfl (by decide +kernel)) ?_ (blkOk_by (N := y_law_things_right_N) (sc := defScope y_law_things_right_s) (own := [("_law_last", 4)]) (by decide +kernel)) (by decide) ?_ ?_ ?_
      · refine di_seq ?_
        · refine de_tup ?_
          · refine da_cons ?_ ?_
            · exact de_int
            · refine da_cons ?_ ?_
              · exact de_int
              · refine da_cons ?_ ?_
                · exact de_int
                · exact da_nil
      · refine fun _ _ _ _ _ => ?_
        · exact dg_name (pg_name (i := 4) nd rfl (by first | exact Or.inl rfl | exact Or.inr rfl))
      · refine fun _ _ _ _ _ => ?_
        · exact dts_nil
      · refine fun _ _ _ _ _ => ?_
        · refine de_callPG hgd takes0 (y_law_counted_ok rfl hKw Tx) (hr.mono (by decide)) rfl Tx.M18 Tx.F18.kp Tx.B18 ?_
          · refine da_cons ?_ ?_
            · refine de_tup ?_
              · refine da_cons ?_ ?_
                · exact de_var (pv 1)
                · refine da_cons ?_ ?_
                  · refine de_tup ?_
                    · refine da_cons ?_ ?_
                      · exact de_int
                      · refine da_cons ?_ ?_
                        · exact de_int
                        · refine da_cons ?_ ?_
                          · exact de_int
                          · refine da_cons ?_ ?_
                            · exact de_int
                            · refine da_cons ?_ ?_
                              · exact de_var (pv 4)
                              · exact da_nil
                  · exact da_nil
            · exact da_nil
    · refine dss_cons ?_ ?_
      · refine ds_if ?_ ?_ ?_
        · refine dt_w ?_
          · refine dw_or ?_ ?_
            · refine dt_cmp (dop_ne hr.units) ?_ ?_
              · exact de_var (pv 2)
              · refine de_lst ?_
                · refine da_cons ?_ ?_
                  · refine de_tup ?_
                    · refine da_cons ?_ ?_
                      · exact de_int
                      · refine da_cons ?_ ?_
                        · exact de_int
                        · exact da_nil
                  · refine da_cons ?_ ?_
                    · refine de_tup ?_
                      · refine da_cons ?_ ?_
                        · exact de_int
                        · refine da_cons ?_ ?_
                          · exact de_int
                          · exact da_nil
                    · refine da_cons ?_ ?_
                      · exact de_int
                      · exact da_nil
            · refine dw_or1 ?_
              · refine dt_cmp (dop_ne hr.units) ?_ ?_
                · refine de_callPG hgd (takes_of rfl rfl rfl rfl) (y_law_counted_ok rfl hKw Tx) (hr.mono (by decide)) rfl Tx.M18 Tx.F18.kp Tx.B18 ?_
                  · refine da_cons ?_ ?_
                    · refine de_tup ?_
                      · refine da_cons ?_ ?_
                        · exact de_var (pv 1)
                        · refine da_cons ?_ ?_
                          · refine de_tup ?_
                            · refine da_cons ?_ ?_
                              · refine de_op dop_sub ?_ ?_
                                · exact de_int
                                · exact de_var (pv 0)
                              · refine da_cons ?_ ?_
                                · exact de_int
                                · refine da_cons ?_ ?_
                                  · exact de_int
                                  · refine da_cons ?_ ?_
                                    · exact de_int
                                    · refine da_cons ?_ ?_
                                      · refine de_op dop_add ?_ ?_
                                        · exact de_int
                                        · exact de_var (pv 0)
                                      · exact da_nil
                          · exact da_nil
                    · exact da_nil
                · refine de_tup ?_
                  · refine da_cons ?_ ?_
                    · exact de_int
                    · refine da_cons ?_ ?_
                      · exact de_int
                      · exact da_nil
        · refine dss_one ?_
          · refine ds_ret ?_
            · exact de_bool
        · exact dss_nil
      · refine dss_one ?_
        · refine ds_ret ?_
          · refine de_and ?_ ?_
            · refine de_cmp (dop_eq hr.units) ?_ ?_
              · refine de_callPG hgd (takes_of rfl rfl rfl rfl) (y_law_counted_ok rfl hKw Tx) (hr.mono (by decide)) rfl Tx.M18 Tx.F18.kp Tx.B18 ?_
                · refine da_cons ?_ ?_
                  · refine de_tup ?_
                    · refine da_cons ?_ ?_
                      · exact de_var (pv 1)
                      · refine da_cons ?_ ?_
                        · refine de_tup ?_
                          · refine da_cons ?_ ?_
                            · refine de_op dop_sub ?_ ?_
                              · exact de_int
                              · exact de_var (pv 0)
                            · refine da_cons ?_ ?_
                              · exact de_int
                              · refine da_cons ?_ ?_
                                · exact de_int
                                · refine da_cons ?_ ?_
                                  · exact de_int
                                  · refine da_cons ?_ ?_
                                    · refine de_op dop_add ?_ ?_
                                      · exact de_int
                                      · exact de_var (pv 0)
                                    · exact da_nil
                        · exact da_nil
                  · exact da_nil
              · exact de_int
            · refine de_one ?_
              · refine de_cmp (dop_eq hr.units) ?_ ?_
                · refine de_callPG hgd (takes_of rfl rfl rfl rfl) (y_law_counted_ok rfl hKw Tx) (hr.mono (by decide)) rfl Tx.M18 Tx.F18.kp Tx.B18 ?_
                  · refine da_cons ?_ ?_
                    · refine de_tup ?_
                      · refine da_cons ?_ ?_
                        · exact de_var (pv 1)
                        · refine da_cons ?_ ?_
                          · refine de_tup ?_
                            · refine da_cons ?_ ?_
                              · exact de_int
                              · exact da_nil
                          · exact da_nil
                    · exact da_nil
                · refine de_tup ?_
                  · refine da_cons ?_ ?_
                    · exact de_int
                    · refine da_cons ?_ ?_
                      · exact de_int
                      · exact da_nil)
end
end K55
namespace K55
open PySem PySem.Spec PyProof.Rows L2 DL
section
variable [KFrag] {P : Program} {w : World} {K : PySem.W.Frag} {mg : Str → Option Value} {base : Heap} {a : Nat → Addr} {d : Nat → FuncData} {T : TX} {c ci : Nat → Addr}
theorem y_law_moves_right_ok (hKF : K = KFrag.K) (hKw : w = KFrag.w) (Tx : Txt K mg a d T c ci) : FnG P w K mg base 7 (a 20) (d 20) [] (spD T 0 y_law_moves_right_r) := by
  subst hKF
  exact fnG (g := y_law_moves_right_g) Tx.F20 y_law_moves_right_sc rfl rfl fun cdv A outer s H E hgd hr => (by
  have nd := y_law_moves_right_sc.nd
  refine dss_cons ?_ ?_
  · refine ds_set (i := 0) nd rfl (by first | exact Or.inl rfl | exact Or.inr rfl) ?_
    · refine de_tup ?_
      · refine da_cons ?_ ?_
        · refine de_tup ?_
          · refine da_cons ?_ ?_
            · exact de_str
            · exact da_nil
        · refine da_cons ?_ ?_
          · refine de_tup ?_
            · refine da_cons ?_ ?_
              · exact de_int
              · refine da_cons ?_ ?_
                · refine de_op dop_add ?_ ?_
                  · refine de_tup ?_
                    · refine da_cons ?_ ?_
                      · exact de_int
                      · exact da_nil
                  · refine de_op dop_mul ?_ ?_
                    · refine de_tup ?_
                      · refine da_cons ?_ ?_
                        · exact de_int
                        · refine da_cons ?_ ?_
                          · exact de_int
                          · exact da_nil
                    · exact de_int
                · exact da_nil
          · refine da_cons ?_ ?_
            · refine de_tup ?_
              · refine da_cons ?_ ?_
                · exact de_int
                · refine da_cons ?_ ?_
                  · refine de_op dop_add ?_ ?_
                    · refine de_tup ?_
                      · refine da_cons ?_ ?_
                        · exact de_int
                        · exact da_nil
                    · refine de_op dop_mul ?_ ?_
                      · refine de_tup ?_
                        · refine da_cons ?_ ?_
                          · exact de_int
                          · refine da_cons ?_ ?_
                            · exact de_int
                            · exact da_nil
                      · exact de_int
                  · exact da_nil
            · refine da_cons ?_ ?_
              · refine de_tup ?_
                · refine da_cons ?_ ?_
                  · exact de_int
                  · refine da_cons ?_ ?_
                    · refine de_tup ?_
                      · refine da_cons ?_ ?_
                        · exact de_int
                        · refine da_cons ?_ ?_
                          · exact de_int
                          · refine da_cons ?_ ?_
                            · exact de_int
                            · exact da_nil
                    · exact da_nil
              · exact da_nil
  · refine dss_cons ?_ ?_
    · refine ds_setLc (i := 1) (is := [2]) (own := [("_law_last", 2)]) rfl nd rfl rfl (sw_true rfl rfl rfl (by decide +kernel)) ?_ (blkOk_by (N := y_law_moves_right_N) (sc := defScope y_law_moves_right_s) (own := [("_law_last", 2)]) (by decide +kernel)) (by decide) ?_ ?_ ?_
      · refine di_seq ?_
        · refine de_tup ?_
          · refine da_cons ?_ ?_
            · exact de_int
            · refine da_cons ?_ ?_
              · exact de_int
              · exact da_nil
      · refine fun _ _ _ _ _ => ?_
        · exact dg_name (pg_name (i := 2) nd rfl (by first | exact Or.inl rfl | exact Or.inr rfl))
      · refine fun _ _ _ _ _ => ?_
        · exact dts_nil
      · refine fun _ _ _ _ _ => ?_
        · refine de_callPG hgd takes0 (y_law_counted_ok rfl hKw Tx) (hr.mono (by decide)) rfl Tx.M18 Tx.F18.kp Tx.B18 ?_
          · refine da_cons ?_ ?_
            · refine de_tup ?_
              · refine da_cons ?_ ?_
                · exact de_var (pv 0)
                · refine da_cons ?_ ?_
                  · refine de_op dop_add ?_ ?_
                    · refine de_op dop_add ?_ ?_
                      · refine de_op dop_add ?_ ?_
                        · refine de_tup ?_
                          · refine da_cons ?_ ?_
                            · exact de_int
                            · refine da_cons ?_ ?_
                              · exact de_int
                              · refine da_cons ?_ ?_
                                · exact de_int
                                · exact da_nil
                        · refine de_op dop_mul ?_ ?_
                          · refine de_tup ?_
                            · refine da_cons ?_ ?_
                              · exact de_int
                              · refine da_cons ?_ ?_
                                · exact de_int
                                · exact da_nil
                          · exact de_int
                      · refine de_op dop_mul ?_ ?_
                        · refine de_tup ?_
                          · refine da_cons ?_ ?_
                            · exact de_int
                            · refine da_cons ?_ ?_
                              · exact de_int
                              · exact da_nil
                        · exact de_int
                    · refine de_tup ?_
                      · refine da_cons ?_ ?_
                        · exact de_int
                        · refine da_cons ?_ ?_
                          · exact de_var (pv 2)
                          · exact da_nil
                  · exact da_nil
            · exact da_nil
    · refine dss_cons ?_ ?_
      · refine ds_if ?_ ?_ ?_
        · refine dt_cmp (dop_ne hr.units) ?_ ?_
          · exact de_var (pv 1)
          · refine de_lst ?_
            · refine da_cons ?_ ?_
              · refine de_tup ?_
                · refine da_cons ?_ ?_
                  · exact de_int
                  · refine da_cons ?_ ?_
                    · exact de_int
                    · exact da_nil
              · refine da_cons ?_ ?_
                · exact de_int
                · exact da_nil
        · refine dss_one ?_
          · refine ds_ret ?_
            · exact de_bool
        · exact dss_nil
      · refine dss_cons ?_ ?_
        · refine ds_setLc (i := 1) (is := [3]) (own := [("_law_many", 3)]) rfl nd rfl rfl (sw_true rfl rfl rfl (by decide +kernel)) ?_ (blkOk_by (N := y_law_moves_right_N) (sc := defScope y_law_moves_right_s) (own := [("_law_many", 3)]) (by decide +kernel)) (by decide) ?_ ?_ ?_
          · refine di_rng1 rfl Tx.z_range ?_
            · exact de_int
          · refine fun _ _ _ _ _ => ?_
            · exact dg_name (pg_name (i := 3) nd rfl (by first | exact Or.inl rfl | exact Or.inr rfl))
          · refine fun _ _ _ _ _ => ?_
            · exact dts_nil
          · refine fun _ _ _ _ _ => ?_
            · refine de_callPG hgd takes0 (y_law_counted_ok rfl hKw Tx) (hr.mono (by decide)) rfl Tx.M18 Tx.F18.kp Tx.B18 ?_
              · refine da_cons ?_ ?_
                · refine de_tup ?_
                  · refine da_cons ?_ ?_
                    · exact de_var (pv 0)
                    · refine da_cons ?_ ?_
                      · refine de_op dop_add ?_ ?_
                        · refine de_op dop_add ?_ ?_
                          · refine de_tup ?_
                            · refine da_cons ?_ ?_
                              · exact de_int
                              · refine da_cons ?_ ?_
                                · exact de_int
                                · refine da_cons ?_ ?_
                                  · exact de_int
                                  · exact da_nil
                          · refine de_op dop_mul ?_ ?_
                            · refine de_tup ?_
                              · refine da_cons ?_ ?_
                                · exact de_int
                                · refine da_cons ?_ ?_
                                  · exact de_int
                                  · exact da_nil
                            · exact de_int
                        · refine de_op dop_mul ?_ ?_
                          · refine de_tup ?_
                            · refine da_cons ?_ ?_
                              · exact de_int
                              · refine da_cons ?_ ?_
                                · exact de_int
                                · exact da_nil
                          · exact de_var (pv 3)
                      · exact da_nil
                · exact da_nil
        · refine dss_one ?_
          · refine ds_ret ?_
            · refine de_cmp (dop_eq hr.units) ?_ ?_
              · exact de_var (pv 1)
              · refine de_lst ?_
                · refine da_cons ?_ ?_
                  · refine de_tup ?_
                    · refine da_cons ?_ ?_
                      · exact de_int
                      · refine da_cons ?_ ?_
                        · exact de_int
                        · exact da_nil
                  · refine da_cons ?_ ?_
                    · refine de_tup ?_
                      · refine da_cons ?_ ?_
                        · exact de_int
                        · refine da_cons ?_ ?_
                          · exact de_int
                          · exact da_nil
                    · refine da_cons ?_ ?_
                      · refine de_tup ?_
                        · refine da_cons ?_ ?_
                          · exact de_int
                          · refine da_cons ?_ ?_
                            · exact de_int
                            · exact da_nil
                      · refine da_cons ?_ ?_
                        · refine de_tup ?_
                          · refine da_cons ?_ ?_
                            · exact de_int
                            · refine da_cons ?_ ?_
                              · exact de_int
                              · exact da_nil
                        · exact da_nil)
end
end K55
namespace K55
open PySem PySem.Spec PyProof.Rows L2 DL
section
variable [KFrag] {P : Program} {w : World} {K : PySem.W.Frag} {mg : Str → Option Value} {base : Heap} {a : Nat → Addr} {d : Nat → FuncData} {T : TX} {c ci : Nat → Addr}
theorem xlaw_ok (hKF : K = KFrag.K) (hKw : w = KFrag.w) (Tx : Txt K mg a d T c ci) : FnG P w K mg base 8 (a 21) (d 21) ["_law_script"] (spD T 1 xlaw_r) := by
  subst hKF
  exact fnG (g := xlaw_g) Tx.F21 xlaw_sc rfl rfl fun cdv A outer s H E hgd hr => (by
  have nd := xlaw_sc.nd
  refine dss_cons ?_ ?_
  · refine ds_set (i := 1) nd rfl (by first | exact Or.inl rfl | exact Or.inr rfl) ?_
    · refine de_op dop_add ?_ ?_
      · refine de_lc (is := [6]) (own := [("_law_cell", 6)]) rfl nd ?_ (blkOk_by (N := xlaw_N) (sc := defScope xlaw_s) (own := [("_law_cell", 6)]) (by decide +kernel)) (by decide) ?_ ?_ ?_
        · refine di_seq ?_
          · refine de_slice rfl ?_ ?_ ?_
            · exact de_var (pv 0)
            · exact do_none
            · refine do_some ?_
              · exact de_int
        · refine fun _ _ _ _ _ => ?_
          · exact dg_name (pg_name (i := 6) nd rfl (by first | exact Or.inl rfl | exact Or.inr rfl))
        · refine fun _ _ _ _ _ => ?_
          · exact dts_nil
        · refine fun _ _ _ _ _ => ?_
          · refine de_callB dc_abs rfl Tx.z_abs PyProof.Rows.boot_abs ?_
            · refine da_cons ?_ ?_
              · refine de_callTy dc_int rfl Tx.z_int PyProof.Rows.boot_int ?_
                · refine da_cons ?_ ?_
                  · exact de_var (pv 6)
                  · exact da_nil
              · exact da_nil
      · refine de_lst ?_
        · refine da_cons ?_ ?_
          · exact de_int
          · exact da_nil
  · refine dss_cons ?_ ?_
    · refine ds_set (i := 2) nd rfl (by first | exact Or.inl rfl | exact Or.inr rfl) ?_
      · refine de_op dop_add ?_ ?_
        · exact de_int
        · refine de_op dop_mod ?_ ?_
          · refine de_callTy dc_int rfl Tx.z_int PyProof.Rows.boot_int ?_
            · refine da_cons ?_ ?_
              · refine de_ix dix ?_ ?_
                · exact de_var (pv 1)
                · exact de_int
              · exact da_nil
          · exact de_int
    · refine dss_cons ?_ ?_
      · refine ds_set (i := 3) nd rfl (by first | exact Or.inl rfl | exact Or.inr rfl) ?_
        · refine de_op dop_add ?_ ?_
          · refine de_tup ?_
            · refine da_cons ?_ ?_
              · refine de_tup ?_
                · refine da_cons ?_ ?_
                  · exact de_str
                  · exact da_nil
              · exact da_nil
          · refine de_callTy dc_tuple rfl Tx.z_tuple PyProof.Rows.boot_tuple ?_
            · refine da_cons ?_ ?_
              · refine de_lc (is := [7]) (own := [("_law_at", 7)]) rfl nd ?_ (blkOk_by (N := xlaw_N) (sc := defScope xlaw_s) (own := [("_law_at", 7)]) (by decide +kernel)) (by decide) ?_ ?_ ?_
                · refine di_rng1 rfl Tx.z_range ?_
                  · exact de_var (pv 2)
                · refine fun _ _ _ _ _ => ?_
                  · exact dg_name (pg_name (i := 7) nd rfl (by first | exact Or.inl rfl | exact Or.inr rfl))
                · refine fun _ _ _ _ _ => ?_
                  · exact dts_nil
                · refine fun _ _ _ _ _ => ?_
                  · refine de_tup ?_
                    · refine da_cons ?_ ?_
                      · exact de_int
                      · refine da_cons ?_ ?_
                        · refine de_tup ?_
                          · refine da_cons ?_ ?_
                            · exact de_var (pv 7)
                            · refine da_cons ?_ ?_
                              · exact de_int
                              · refine da_cons ?_ ?_
                                · exact de_var (pv 7)
                                · exact da_nil
                        · exact da_nil
              · exact da_nil
      · refine dss_cons ?_ ?_
        · refine ds_setLc (i := 4) (is := [7]) (own := [("_law_at", 7)]) rfl nd rfl rfl (sw_true rfl rfl rfl (by decide +kernel)) ?_ (blkOk_by (N := xlaw_N) (sc := defScope xlaw_s) (own := [("_law_at", 7)]) (by decide +kernel)) (by decide) ?_ ?_ ?_
          · refine di_seq ?_
            · refine de_tup ?_
              · refine da_cons ?_ ?_
                · exact de_int
                · refine da_cons ?_ ?_
                  · exact de_int
                  · refine da_cons ?_ ?_
                    · exact de_int
                    · refine da_cons ?_ ?_
                      · exact de_int
                      · refine da_cons ?_ ?_
                        · exact de_var (pv 2)
                        · exact da_nil
          · refine fun _ _ _ _ _ => ?_
            · exact dg_name (pg_name (i := 7) nd rfl (by first | exact Or.inl rfl | exact Or.inr rfl))
          · refine fun _ _ _ _ _ => ?_
            · exact dts_nil
          · refine fun _ _ _ _ _ => ?_
            · refine de_callPG hgd takes0 (y_law_counted_ok rfl hKw Tx) (hr.mono (by decide)) rfl Tx.M18 Tx.F18.kp Tx.B18 ?_
              · refine da_cons ?_ ?_
                · refine de_tup ?_
                  · refine da_cons ?_ ?_
                    · exact de_var (pv 3)
                    · refine da_cons ?_ ?_
                      · refine de_tup ?_
                        · refine da_cons ?_ ?_
                          · exact de_var (pv 7)
                          · exact da_nil
                      · exact da_nil
                · exact da_nil
        · refine dss_cons ?_ ?_
          · refine ds_if ?_ ?_ ?_
            · refine dt_cmp (dop_ne hr.units) ?_ ?_
              · exact de_var (pv 4)
              · refine de_lst ?_
                · refine da_cons ?_ ?_
                  · refine de_tup ?_
                    · refine da_cons ?_ ?_
                      · exact de_int
                      · refine da_cons ?_ ?_
                        · exact de_int
                        · exact da_nil
                  · refine da_cons ?_ ?_
                    · refine de_tup ?_
                      · refine da_cons ?_ ?_
                        · exact de_int
                        · refine da_cons ?_ ?_
                          · exact de_int
                          · exact da_nil
                    · refine da_cons ?_ ?_
                      · refine de_tup ?_
                        · refine da_cons ?_ ?_
                          · exact de_int
                          · refine da_cons ?_ ?_
                            · exact de_int
                            · exact da_nil
                      · refine da_cons ?_ ?_
                        · exact de_int
                        · refine da_cons ?_ ?_
                          · exact de_int
                          · exact da_nil
            · refine dss_one ?_
              · refine ds_ret ?_
                · exact de_bool
            · exact dss_nil
          · refine dss_cons ?_ ?_
            · refine ds_set (i := 5) nd rfl (by first | exact Or.inl rfl | exact Or.inr rfl) ?_
              · refine de_op dop_add ?_ ?_
                · refine de_tup ?_
                  · refine da_cons ?_ ?_
                    · refine de_tup ?_
                      · refine da_cons ?_ ?_
                        · exact de_str
                        · exact da_nil
                    · exact da_nil
                · refine de_callTy dc_tuple rfl Tx.z_tuple PyProof.Rows.boot_tuple ?_
                  · refine da_cons ?_ ?_
                    · refine de_lc (is := [7]) (own := [("_law_at", 7)]) rfl nd ?_ (blkOk_by (N := xlaw_N) (sc := defScope xlaw_s) (own := [("_law_at", 7)]) (by decide +kernel)) (by decide) ?_ ?_ ?_
                      · refine di_rng1 rfl Tx.z_range ?_
                        · exact de_int
                      · refine fun _ _ _ _ _ => ?_
                        · exact dg_name (pg_name (i := 7) nd rfl (by first | exact Or.inl rfl | exact Or.inr rfl))
                      · refine fun _ _ _ _ _ => ?_
                        · exact dts_nil
                      · refine fun _ _ _ _ _ => ?_
                        · refine de_tup ?_
                          · refine da_cons ?_ ?_
                            · exact de_int
                            · refine da_cons ?_ ?_
                              · refine de_op dop_add ?_ ?_
                                · refine de_tup ?_
                                  · refine da_cons ?_ ?_
                                    · exact de_var (pv 7)
                                    · exact da_nil
                                · refine de_op dop_mul ?_ ?_
                                  · refine de_tup ?_
                                    · refine da_cons ?_ ?_
                                      · exact de_int
                                      · refine da_cons ?_ ?_
                                        · exact de_var (pv 7)
                                        · exact da_nil
                                  · exact de_int
                              · exact da_nil
                    · exact da_nil
            · refine dss_cons ?_ ?_
              · refine ds_if ?_ ?_ ?_
                · refine dt_cmp (dop_ne hr.units) ?_ ?_
                  · refine de_lc (is := [7]) (own := [("_law_at", 7)]) rfl nd ?_ (blkOk_by (N := xlaw_N) (sc := defScope xlaw_s) (own := [("_law_at", 7)]) (by decide +kernel)) (by decide) ?_ ?_ ?_
                    · refine di_seq ?_
                      · refine de_tup ?_
                        · refine da_cons ?_ ?_
                          · exact de_int
                          · refine da_cons ?_ ?_
                            · exact de_int
                            · exact da_nil
                    · refine fun _ _ _ _ _ => ?_
                      · exact dg_name (pg_name (i := 7) nd rfl (by first | exact Or.inl rfl | exact Or.inr rfl))
                    · refine fun _ _ _ _ _ => ?_
                      · exact dts_nil
                    · refine fun _ _ _ _ _ => ?_
                      · refine de_callPG hgd takes0 (y_law_counted_ok rfl hKw Tx) (hr.mono (by decide)) rfl Tx.M18 Tx.F18.kp Tx.B18 ?_
                        · refine da_cons ?_ ?_
                          · refine de_tup ?_
                            · refine da_cons ?_ ?_
                              · exact de_var (pv 5)
                              · refine da_cons ?_ ?_
                                · refine de_op dop_add ?_ ?_
                                  · refine de_tup ?_
                                    · refine da_cons ?_ ?_
                                      · exact de_var (pv 7)
                                      · exact da_nil
                                  · refine de_op dop_mul ?_ ?_
                                    · refine de_tup ?_
                                      · refine da_cons ?_ ?_
                                        · exact de_int
                                        · refine da_cons ?_ ?_
                                          · exact de_var (pv 7)
                                          · exact da_nil
                                    · exact de_int
                                · exact da_nil
                          · exact da_nil
                  · refine de_lst ?_
                    · refine da_cons ?_ ?_
                      · refine de_tup ?_
                        · refine da_cons ?_ ?_
                          · exact de_int
                          · refine da_cons ?_ ?_
                            · exact de_int
                            · exact da_nil
                      · refine da_cons ?_ ?_
                        · exact de_int
                        · exact da_nil
                · refine dss_one ?_
                  · refine ds_ret ?_
                    · exact de_bool
                · exact dss_nil
              · refine dss_one ?_
                · refine ds_ret ?_
                  · refine de_and ?_ ?_
                    · refine de_callPG hgd (takes_of rfl rfl rfl rfl) (y_law_things_right_ok rfl hKw Tx) (hr.mono (by decide)) rfl Tx.M19 Tx.F19.kp Tx.B19 ?_
                      · refine da_cons ?_ ?_
                        · refine de_op dop_mod ?_ ?_
                          · refine de_callTy dc_int rfl Tx.z_int PyProof.Rows.boot_int ?_
                            · refine da_cons ?_ ?_
                              · refine de_ix dix ?_ ?_
                                · exact de_var (pv 1)
                                · exact de_int
                              · exact da_nil
                          · exact de_int
                        · exact da_nil
                    · refine de_one ?_
                      · exact de_callPG0 hgd (takes_of rfl rfl rfl rfl) (y_law_moves_right_ok rfl hKw Tx) (hr.mono (by decide)) rfl Tx.M20 Tx.F20.kp Tx.B20)
end
end K55
namespace K55
open PySem PySem.Spec PyProof.Rows L2 DL
/-! ### what a row is when it is spread: things, the place it makes, moves -/
abbrev nD (n : Nat) : D := .int ((n : Nat) : Int)
structure Pt where
  th : List (Nat × Int)
  pl : Int
  mv : List (Nat × Int)
def pD (p : Nat × Int) : D := .tuple [.int ((p.1 : Nat) : Int), .int p.2]
def ptD (p : Pt) : D := .tuple [.tuple (p.th.map pD), .int p.pl, .tuple (p.mv.map pD)]
def shI (x : Int) (st : Nat) : Int := if x = -1 then -1 else x + (st : Int)
def shT (st : Nat) (p : Nat × Int) : Nat × Int := (p.1, shI p.2 st)
def shM (st : Nat) (p : Nat × Int) : Nat × Int := (p.1 + st, shI p.2 st)
abbrev Acc := List (Nat × Int) × List Int × List (Nat × Int)
def chStep (own : Nat) (a : Acc) (p : Pt) : Acc :=
  (a.1 ++ p.th.map (shT a.1.length), a.2.1 ++ [shI p.pl a.1.length], (a.2.2 ++ if a.2.1.isEmpty = true then [] else [(own, shI p.pl a.1.length)]) ++ p.mv.map (shM a.1.length))
def ownOf (ps : List Pt) : Nat := (ps.map fun p => p.th.length).sum
def accOf (ps : List Pt) : Acc := ps.foldl (chStep (ownOf ps)) ([], [], [])
def spCh (ps : List Pt) : Pt := ⟨(accOf ps).1, (accOf ps).2.1.headD 0, (accOf ps).2.2⟩
def rowPt (k : Nat) (p : Pt) : Pt := ⟨p.th ++ [(k, p.pl)], (p.th.length : Nat), p.mv⟩
def rootPt : Pt := ⟨[], -1, []⟩
theorem eqI (a b : Int) : eqD (.int a) (.int b) = some (.bool (a == b)) := by
  unfold eqD
  rw [if_pos ⟨rfl, rfl⟩]
  show some (PyData.bool (intEq a b)) = _
  rw [intEq_eq]
theorem shifted_is (x : Int) (st : Nat) (s : CS) : pureR (noX xshifted_r) [.d (.int x), .d (.int (st : Int))] s = .ok (.d (.int (shI x st))) s := by
  refine wp_pure rfl ?_ s
  show WP xshifted_g [some (.d (.int x)), some (.d (.int (st : Int)))] [] _ _ _
  unfold xshifted_g
  refine wp_ret (w := .d (.int (shI x st))) (s' := []) (ev_if (b := x == -1) (s1 := []) (ev_B (ev_2 (x := .int x) (y := .int (-1)) (s1 := []) (ev_v rfl) rfl (eqI x (-1)))) (fun hb => ?_) fun hb => ?_) rfl
  · have : x = -1 := by simpa using hb
    unfold shI
    rw [if_pos this]
    rfl
  · have : ¬ x = -1 := by simpa using hb
    unfold shI
    rw [if_neg this]
    rfl
theorem wp_extC {n : Nat} {ds es : List D} {f g : En → CS → R W} {ρ : En} {s s1 s' : CS} {N C : En → CS → Prop} {Z : W → CS → Prop} (e1 : f ρ s = .ok (.c n) s1) (hl : ∃ es, s1[n]? = some (.lst es)) (e2 : g ρ s1 = .ok (.d (.list es)) s') (h : s'[n]? = some (.lst ds)) (hz : ds.length + es.length ≤ 16777216) (q : N ρ (s'.set n (.lst (ds ++ es)))) : WP (gExtC f g) ρ s N C Z := by
  obtain ⟨es', hl⟩ := hl
  unfold WP gExtC
  rw [e1]
  simp only [R.toT, onC, hl, e2, extC, h]
  rw [if_pos (show ds.length + es.length ≤ line from hz)]
  exact q
theorem ev_trA {n : Nat} {ds : List D} {f : En → CS → R W} {ρ : En} {s s1 : CS} (e : f ρ s = .ok (.c n) s1) (h : s1[n]? = some (.lst ds)) : fTr f ρ s = .ok (!ds.isEmpty) s1 := by
  unfold fTr
  rw [e]
  simp only [R.bind, toTr, h]
theorem ints_all : ∀ ns : List Nat, intsD (ns.map fun n => PyData.int ((n : Nat) : Int)) = some (ns.map fun n => ((n : Nat) : Int))
  | [] => rfl
  | n :: r => by
    have ih := ints_all r
    rw [List.map_cons, List.map_cons]
    unfold intsD
    rw [ih]
theorem sum_ints : ∀ ns : List Nat, (ns.map fun n => ((n : Nat) : Int)).sum = ((ns.sum : Nat) : Int)
  | [] => rfl
  | n :: r => by
    have ih := sum_ints r
    rw [List.map_cons, List.sum_cons, List.sum_cons, ih]
    omega
theorem sum_is (ns : List Nat) : sumD [.list (ns.map fun n => PyData.int ((n : Nat) : Int))] = some (.int ((ns.sum : Nat) : Int)) := by
  show (intsD _).map _ = _
  rw [ints_all]
  show some (PyData.int _) = _
  rw [sum_ints]
def Small (p : Pt) : Prop := p.th.length ≤ 1000 ∧ p.mv.length ≤ 1000
theorem acc_len (own : Nat) : ∀ (ps : List Pt) (a : Acc), (∀ p ∈ ps, Small p) → (ps.foldl (chStep own) a).1.length ≤ a.1.length + 1000 * ps.length ∧ (ps.foldl (chStep own) a).2.1.length = a.2.1.length + ps.length ∧ (ps.foldl (chStep own) a).2.2.length ≤ a.2.2.length + 1001 * ps.length
  | [], a, _ => ⟨by simp, by simp, by simp⟩
  | p :: r, a, h => by
    obtain ⟨h1, h2⟩ := h p List.mem_cons_self
    obtain ⟨i1, i2, i3⟩ := acc_len own r (chStep own a p) fun q hq => h q (List.mem_cons_of_mem _ hq)
    rw [List.foldl_cons]
    have e1 : (chStep own a p).1.length = a.1.length + p.th.length := by
      unfold chStep
      simp
    have e2 : (chStep own a p).2.1.length = a.2.1.length + 1 := by
      unfold chStep
      simp
    have e3 : (chStep own a p).2.2.length ≤ a.2.2.length + 1 + p.mv.length := by
      unfold chStep
      cases a.2.1.isEmpty <;> simp <;> omega
    rw [List.length_cons]
    omega
theorem set3 (s0 : CS) (a b c x : Cell) : (s0 ++ [a, b, c]).set s0.length x = s0 ++ [x, b, c] ∧ (s0 ++ [a, b, c]).set (s0.length + 1) x = s0 ++ [a, x, c] ∧ (s0 ++ [a, b, c]).set (s0.length + 2) x = s0 ++ [a, b, x] := by
  refine ⟨?_, ?_, ?_⟩ <;> rw [List.set_append_right _ _ (by omega)] <;> simp
theorem get3 (s0 : CS) (a b c : Cell) : (s0 ++ [a, b, c])[s0.length]? = some a ∧ (s0 ++ [a, b, c])[s0.length + 1]? = some b ∧ (s0 ++ [a, b, c])[s0.length + 2]? = some c := by
  refine ⟨?_, ?_, ?_⟩ <;> rw [List.getElem?_append_right (by omega)] <;> simp
theorem get3_old {s0 : CS} {n : Nat} {x : Cell} (h : s0[n]? = some x) (a b c : Cell) : (s0 ++ [a, b, c])[n]? = some x := by
  rw [List.getElem?_append_left (List.getElem?_eq_some_iff.mp h).1]
  exact h
theorem chain_is {n : Nat} {es : List (D × D)} {s0 : CS} (hc : s0[n]? = some (.dct (mark :: es))) {ch : D} {rows : List Nat} (hst : slStD none none 2 ch = some (.tuple (rows.map nD))) {f : Nat → Pt} (hf : ∀ k ∈ rows, lookI es ((k : Nat) : Int) = some (ptD (f k))) (hsm : ∀ k ∈ rows, Small (f k)) (hne : rows ≠ []) (hrl : rows.length ≤ 1000) :
    ∃ t, noX y_spread_chain_r [.c n, .d ch] s0 = .ok (.d (ptD (spCh (rows.map f)))) (s0 ++ t) := by
  refine (?_ : ∃ w s', noX y_spread_chain_r [.c n, .d ch] s0 = .ok w s' ∧ (∃ t, s' = s0 ++ t) ∧ w = .d (ptD (spCh (rows.map f)))).elim fun w ⟨s', e, ⟨t, et⟩, ew⟩ => ⟨t, by rw [← ew, ← et]; exact e⟩
  refine wp_def (P := fun w s' => (∃ t, s' = s0 ++ t) ∧ w = .d (ptD (spCh (rows.map f)))) rfl ?_
  show WP y_spread_chain_g [some (.c n), some (.d ch), none, none, none, none, none, none, none, none, none, none, none, none, none] s0 _ _ _
  unfold y_spread_chain_g
  have est : ∀ (ρ : En) (s : CS), ρ[1]? = some (some (.d ch)) → fIt (fStep (fVar 1) fO0 fO0 (fO1 (fC (.int 2)))) ρ s = .ok (rows.map nD) s := fun ρ s e => ev_it (ds := rows.map nD) (.inl (ev_step (x := ch) (a := none) (b := none) (k := 2) (ev_v e) rfl rfl rfl hst))
  refine wp_seq ?_
  refine wp_asg0 (w := .d (.int ((ownOf (rows.map f) : Nat) : Int))) (ev_N1 (x := .list ((rows.map fun k => (f k).th.length).map fun n => PyData.int ((n : Nat) : Int))) (s1 := s0) ?_ ?_) ?_
  · rw [List.map_map]
    refine ev_lc (L := rows) (c := nD) (g := (fun n => PyData.int ((n : Nat) : Int)) ∘ fun k => (f k).th.length) (est _ _ rfl) (by omega) fun k hk => ⟨_, rfl, ev_N1 (x := .tuple ((f k).th.map pD)) (ev_2 (x := ptD (f k)) (y := .int 0) (s1 := s0) (ev_dgetI (n := n) (i := ((k : Nat) : Int)) (s1 := s0) (s2 := s0) (ev_v rfl) (ev_v (w := .d (nD k)) rfl) hc (hf k hk)) rfl rfl) ?_⟩
    show some (PyData.int ((((f k).th.map pD).length : Nat) : Int)) = _
    rw [List.length_map]
    rfl
  · rw [sum_is]
    unfold ownOf
    rw [List.map_map]
    rfl
  refine wp_seq ?_
  refine wp_par3 (a := .c s0.length) (b := .c (s0.length + 1)) (c := .c (s0.length + 2)) (s' := s0 ++ [.lst [], .lst [], .lst []]) ?_ ?_
  · refine (ev_args3 (s1 := s0 ++ [.lst []]) (s2 := (s0 ++ [.lst []]) ++ [.lst []]) (s3 := ((s0 ++ [.lst []]) ++ [.lst []]) ++ [.lst []]) rfl rfl rfl).trans ?_
    simp
  refine wp_seq ?_
  refine wp_for (fun items ρ s => ∃ (d r : List Nat) (x6 x7 x8 x9 x10 x11 x12 x13 x14 : Option W), d ++ r = rows ∧ items = r.map nD ∧ ρ = [some (.c n), some (.d ch), some (.d (.int ((ownOf (rows.map f) : Nat) : Int))), some (.c s0.length), some (.c (s0.length + 1)), some (.c (s0.length + 2)), x6, x7, x8, x9, x10, x11, x12, x13, x14] ∧ s = s0 ++ [.lst (((d.map f).foldl (chStep (ownOf (rows.map f))) ([], [], [])).1.map pD), .lst (((d.map f).foldl (chStep (ownOf (rows.map f))) ([], [], [])).2.1.map PyData.int), .lst (((d.map f).foldl (chStep (ownOf (rows.map f))) ([], [], [])).2.2.map pD)]) (est _ _ rfl) ⟨[], rows, none, none, none, none, none, none, none, none, none, rfl, rfl, rfl, rfl⟩ ?_ ?_
  · rintro x r ρ s ⟨d, q, x6, x7, x8, x9, x10, x11, x12, x13, x14, hdq, ei, rfl, rfl⟩
    cases q with
    | nil => cases ei
    | cons k q =>
      rw [List.map_cons] at ei
      injection ei with e1 e2
      subst e1 e2
      have hk : k ∈ rows := by rw [← hdq]; simp
      have hdl : d.length ≤ 1000 := by
        have := congrArg List.length hdq
        rw [List.length_append, List.length_cons] at this
        omega
      obtain ⟨l1, l2, l3⟩ := acc_len (ownOf (rows.map f)) (d.map f) ([], [], []) fun p hp => by
        obtain ⟨j, hj, rfl⟩ := List.mem_map.mp hp
        exact hsm j (by rw [← hdq]; exact List.mem_append_left _ hj)
      rw [List.length_map, List.length_nil, Nat.zero_add] at l1 l2 l3
      have efold : ((d ++ [k]).map f).foldl (chStep (ownOf (rows.map f))) ([], [], []) = chStep (ownOf (rows.map f)) ((d.map f).foldl (chStep (ownOf (rows.map f))) ([], [], [])) (f k) := by
        rw [List.map_append, List.foldl_append]
        rfl
      obtain ⟨hs1, hs2⟩ := hsm k hk
      generalize (d.map f).foldl (chStep (ownOf (rows.map f))) ([], [], []) = A at l1 l2 l3 efold ⊢
      obtain ⟨o, pl, mv⟩ := A
      simp only at l1 l2 l3
      generalize ownOf (rows.map f) = own at efold ⊢
      refine ⟨_, rfl, ?_⟩
      refine wp_seq ?_
      refine wp_asg0 (w := .d (.int (o.length : Nat))) ((ev_lenA (n := s0.length) (ds := o.map pD) rfl (get3 _ _ _ _).1).trans (by rw [List.length_map])) ?_
      refine wp_seq ?_
      refine wp_asgT (w := .d (ptD (f k))) (ρ' := [some (.c n), some (.d ch), some (.d (.int ((own : Nat) : Int))), some (.c s0.length), some (.c (s0.length + 1)), some (.c (s0.length + 2)), some (.d (nD k)), some (.d (.int (o.length : Nat))), some (.d (.tuple ((f k).th.map pD))), some (.d (.int (f k).pl)), some (.d (.tuple ((f k).mv.map pD))), x11, x12, x13, x14]) (ev_dgetI (n := n) (i := ((k : Nat) : Int)) (s1 := s0 ++ [.lst (o.map pD), .lst (pl.map PyData.int), .lst (mv.map pD)]) (s2 := s0 ++ [.lst (o.map pD), .lst (pl.map PyData.int), .lst (mv.map pD)]) (ev_v rfl) (ev_v (w := .d (nD k)) rfl) (get3_old hc _ _ _) (hf k hk)) rfl ?_
      refine wp_seq ?_
      refine wp_extC (n := s0.length) (ds := o.map pD) (es := ((f k).th.map (shT o.length)).map pD) (s1 := s0 ++ [.lst (o.map pD), .lst (pl.map PyData.int), .lst (mv.map pD)]) (s' := s0 ++ [.lst (o.map pD), .lst (pl.map PyData.int), .lst (mv.map pD)]) (ev_v rfl) ⟨_, (get3 _ _ _ _).1⟩ ?_ (get3 _ _ _ _).1 (by simp only [List.length_map]; omega) ?_
      · rw [List.map_map]
        refine ev_lc (L := (f k).th) (c := pD) (g := pD ∘ shT o.length) (ev_it (ds := (f k).th.map pD) (.inl (ev_v rfl))) (by omega) fun p hp => ⟨_, rfl, ev_N2 (x := .int ((p.1 : Nat) : Int)) (y := .int (shI p.2 o.length)) (ev_v rfl) (ev_P2 (a := .int p.2) (b := .int (o.length : Nat)) (ev_v rfl) (ev_v rfl) (shifted_is _ _ _)) rfl⟩
      rw [(set3 _ _ _ _ _).1, ← List.map_append]
      have eshp : ∀ (ρ : En) (s : CS), ρ[9]? = some (some (.d (.int (f k).pl))) → ρ[7]? = some (some (.d (.int (o.length : Nat)))) → fCallP 2 (noX xshifted_r) (fCons (fVar 9) (fCons (fVar 7) fNil)) ρ s = .ok (.d (.int (shI (f k).pl o.length))) s := fun ρ s h9 h7 => ev_P2 (a := .int (f k).pl) (b := .int (o.length : Nat)) (ev_v h9) (ev_v h7) (shifted_is _ _ _)
      have rest : ∀ mv' : List (Nat × Int), mv' = mv ++ (if pl.isEmpty = true then [] else [(own, shI (f k).pl o.length)]) → WP (gSeq (gAppC (fVar 4) (fCallP 2 (noX xshifted_r) (fCons (fVar 9) (fCons (fVar 7) fNil))))
    (gExtC (fVar 5) (fLc [13, 14] (fIt (fVar 10)) (DL.hT 2 (hsC (hN 13) (hsC (hN 14) hsN))) fYes (fN tupD (fCons (f2 addD (fVar 13) (fVar 7)) (fCons (fCallP 2 (noX xshifted_r) (fCons (fVar 14) (fCons (fVar 7) fNil))) fNil)))))) [some (.c n), some (.d ch), some (.d (.int ((own : Nat) : Int))), some (.c s0.length), some (.c (s0.length + 1)), some (.c (s0.length + 2)), some (.d (nD k)), some (.d (.int (o.length : Nat))), some (.d (.tuple ((f k).th.map pD))), some (.d (.int (f k).pl)), some (.d (.tuple ((f k).mv.map pD))), x11, x12, x13, x14] (s0 ++ [.lst ((o ++ (f k).th.map (shT o.length)).map pD), .lst (pl.map PyData.int), .lst (mv'.map pD)]) (fun ρ s => ∃ (d r : List Nat) (x6 x7 x8 x9 x10 x11 x12 x13 x14 : Option W), d ++ r = rows ∧ q.map nD = r.map nD ∧ ρ = [some (.c n), some (.d ch), some (.d (.int ((own : Nat) : Int))), some (.c s0.length), some (.c (s0.length + 1)), some (.c (s0.length + 2)), x6, x7, x8, x9, x10, x11, x12, x13, x14] ∧ s = s0 ++ [.lst (((d.map f).foldl (chStep own) ([], [], [])).1.map pD), .lst (((d.map f).foldl (chStep own) ([], [], [])).2.1.map PyData.int), .lst (((d.map f).foldl (chStep own) ([], [], [])).2.2.map pD)]) (fun ρ s => ∃ (d r : List Nat) (x6 x7 x8 x9 x10 x11 x12 x13 x14 : Option W), d ++ r = rows ∧ q.map nD = r.map nD ∧ ρ = [some (.c n), some (.d ch), some (.d (.int ((own : Nat) : Int))), some (.c s0.length), some (.c (s0.length + 1)), some (.c (s0.length + 2)), x6, x7, x8, x9, x10, x11, x12, x13, x14] ∧ s = s0 ++ [.lst (((d.map f).foldl (chStep own) ([], [], [])).1.map pD), .lst (((d.map f).foldl (chStep own) ([], [], [])).2.1.map PyData.int), .lst (((d.map f).foldl (chStep own) ([], [], [])).2.2.map pD)]) (fun w s' => (∃ t, s' = s0 ++ t) ∧ w = .d (ptD (spCh (rows.map f)))) := by
        intro mv' hmv
        have hml : mv'.length ≤ 1002000 := by
          rw [hmv]
          cases pl.isEmpty <;> simp <;> omega
        refine wp_seq ?_
        refine wp_app (n := s0.length + 1) (x := .int (shI (f k).pl o.length)) (ds := pl.map PyData.int) (s1 := s0 ++ [.lst ((o ++ (f k).th.map (shT o.length)).map pD), .lst (pl.map PyData.int), .lst (mv'.map pD)]) (s' := s0 ++ [.lst ((o ++ (f k).th.map (shT o.length)).map pD), .lst (pl.map PyData.int), .lst (mv'.map pD)]) (ev_v rfl) ⟨_, (get3 _ _ _ _).2.1⟩ (eshp _ _ rfl rfl) (get3 _ _ _ _).2.1 (by rw [List.length_map]; omega) ?_
        rw [(set3 _ _ _ _ _).2.1]
        refine wp_extC (n := s0.length + 2) (ds := mv'.map pD) (es := ((f k).mv.map (shM o.length)).map pD) (s1 := s0 ++ [.lst ((o ++ (f k).th.map (shT o.length)).map pD), .lst (pl.map PyData.int ++ [.int (shI (f k).pl o.length)]), .lst (mv'.map pD)]) (s' := s0 ++ [.lst ((o ++ (f k).th.map (shT o.length)).map pD), .lst (pl.map PyData.int ++ [.int (shI (f k).pl o.length)]), .lst (mv'.map pD)]) (ev_v rfl) ⟨_, (get3 _ _ _ _).2.2⟩ ?_ (get3 _ _ _ _).2.2 (by simp only [List.length_map]; omega) ?_
        · rw [List.map_map]
          refine ev_lc (L := (f k).mv) (c := pD) (g := pD ∘ shM o.length) (ev_it (ds := (f k).mv.map pD) (.inl (ev_v rfl))) (by omega) fun p hp => ⟨_, rfl, ev_N2 (x := .int (((p.1 + o.length : Nat)) : Int)) (y := .int (shI p.2 o.length)) (ev_2 (x := .int ((p.1 : Nat) : Int)) (y := .int (o.length : Nat)) (ev_v rfl) (ev_v rfl) rfl) (ev_P2 (a := .int p.2) (b := .int (o.length : Nat)) (ev_v rfl) (ev_v rfl) (shifted_is _ _ _)) rfl⟩
        · rw [(set3 _ _ _ _ _).2.2]
          refine ⟨d ++ [k], q, _, _, _, _, _, _, _, _, _, by rw [List.append_assoc]; exact hdq, rfl, rfl, ?_⟩
          rw [efold]
          unfold chStep
          simp only [hmv, List.map_append, List.map_cons, List.map_nil, List.append_assoc]
      refine wp_seq ?_
      refine wp_if (b := !pl.isEmpty) (s' := s0 ++ [.lst ((o ++ (f k).th.map (shT o.length)).map pD), .lst (pl.map PyData.int), .lst (mv.map pD)]) ((ev_trA (n := s0.length + 1) (ds := pl.map PyData.int) (ev_v rfl) (get3 _ _ _ _).2.1).trans (by rw [List.isEmpty_map])) (fun hb => ?_) fun hb => ?_
      · have hb' : pl.isEmpty = false := by simpa using hb
        refine wp_app (n := s0.length + 2) (x := pD (own, shI (f k).pl o.length)) (ds := mv.map pD) (s1 := s0 ++ [.lst ((o ++ (f k).th.map (shT o.length)).map pD), .lst (pl.map PyData.int), .lst (mv.map pD)]) (s' := s0 ++ [.lst ((o ++ (f k).th.map (shT o.length)).map pD), .lst (pl.map PyData.int), .lst (mv.map pD)]) (ev_v rfl) ⟨_, (get3 _ _ _ _).2.2⟩ (ev_N2 (x := .int ((own : Nat) : Int)) (y := .int (shI (f k).pl o.length)) (ev_v rfl) (eshp _ _ rfl rfl) rfl) (get3 _ _ _ _).2.2 (by rw [List.length_map]; omega) ?_
        rw [(set3 _ _ _ _ _).2.2]
        have := rest (mv ++ [(own, shI (f k).pl o.length)]) (by rw [hb', if_neg (by decide)])
        rw [show (mv ++ [(own, shI (f k).pl o.length)]).map pD = mv.map pD ++ [pD (own, shI (f k).pl o.length)] from List.map_append ..] at this
        exact this
      · have hb' : pl.isEmpty = true := by simpa using hb
        exact wp_nx (rest mv (by rw [hb', if_pos rfl, List.append_nil]))
  · rintro ρ s ⟨d, q, x6, x7, x8, x9, x10, x11, x12, x13, x14, hdq, ei, rfl, rfl⟩
    have hq0 : q = [] := List.map_eq_nil_iff.mp ei.symm
    subst hq0
    rw [List.append_nil] at hdq
    subst hdq
    have hl2 := (acc_len (ownOf (d.map f)) (d.map f) ([], [], []) fun p hp => by
        obtain ⟨j, hj, rfl⟩ := List.mem_map.mp hp
        exact hsm j hj).2.1
    show WP _ _ (s0 ++ [.lst ((accOf (d.map f)).1.map pD), .lst ((accOf (d.map f)).2.1.map PyData.int), .lst ((accOf (d.map f)).2.2.map pD)]) _ _ _
    have hl2 : (accOf (d.map f)).2.1.length = 0 + (d.map f).length := hl2
    unfold spCh
    generalize accOf (d.map f) = A at hl2 ⊢
    obtain ⟨o, pl, mv⟩ := A
    simp only at hl2 ⊢
    have hpl : ∃ a r, pl = a :: r := by
      cases pl with
      | nil =>
        rw [List.length_map] at hl2
        exact absurd (List.length_eq_zero_iff.mp (by simpa using hl2.symm)) hne
      | cons a r => exact ⟨a, r, rfl⟩
    obtain ⟨a, r, rfl⟩ := hpl
    refine wp_ret (w := .d (ptD ⟨o, a, mv⟩)) (s' := s0 ++ [.dead, .lst ((a :: r).map PyData.int), .dead]) (ev_N3 (x := .tuple (o.map pD)) (y := .int a) (u := .tuple (mv.map pD)) (s1 := s0 ++ [.dead, .lst ((a :: r).map PyData.int), .lst (mv.map pD)]) (s2 := s0 ++ [.dead, .lst ((a :: r).map PyData.int), .lst (mv.map pD)]) (ev_N1 (x := .list (o.map pD)) ((ev_frz (i := 3) (n := s0.length) rfl (get3 _ _ _ _).1).trans (by rw [(set3 _ _ _ _ _).1])) rfl) (ev_ixA (n := s0.length + 1) (c := 0) (ds := (a :: r).map PyData.int) (ev_v rfl) rfl (get3 _ _ _ _).2.1 (by simp [atI, ixN])) (ev_N1 (x := .list (mv.map pD)) ((ev_frz (i := 5) (n := s0.length + 2) rfl (get3 _ _ _ _).2.2).trans (by rw [(set3 _ _ _ _ _).2.2])) rfl) rfl) ⟨⟨_, rfl⟩, rfl⟩
/-! ### dicts with whole numbers as keys, by a function -/
def PEn (g : Int → D) (As : List Int) : List (D × D) := As.map fun a => (.int a, g a)
theorem lookI_P (g : Int → D) : ∀ (As : List Int) (a : Int), a ∈ As → lookI (PEn g As) a = some (g a)
  | [], _, h => by cases h
  | x :: As, a, h => by
    by_cases e : x = a
    · subst e
      simp [PEn, lookI, isI_int]
    · have : a ∈ As := (List.mem_cons.mp h).resolve_left fun z => e z.symm
      have ih := lookI_P g As a this
      unfold PEn at ih ⊢
      simp only [List.map_cons, lookI, isI_int, decide_eq_true_eq, e, if_false]
      exact ih
theorem anyI_P (g : Int → D) : ∀ (As : List Int) (a : Int), a ∉ As → anyI (PEn g As) a = false
  | [], _, _ => rfl
  | x :: As, a, h => by
    have e : ¬ x = a := fun z => h (by rw [z]; exact List.mem_cons_self)
    have ih := anyI_P g As a fun z => h (List.mem_cons_of_mem _ z)
    unfold PEn at ih ⊢
    simp only [List.map_cons, anyI, isI_int, decide_eq_true_eq, e, if_false]
    exact ih
theorem putI_P (g : Int → D) {As : List Int} {a : Int} (h : a ∉ As) : putI (PEn g As) a (g a) = PEn g (As ++ [a]) := by
  unfold putI
  rw [anyI_P g As a h, if_neg (by decide)]
  unfold PEn
  rw [List.map_append]
  rfl
/-! ### rows, and all of them -/
abbrev rootD : D := .tuple [.str "root"]
abbrev chD (c : List Nat) : D := .tuple (c.map nD)
abbrev rwD (c : List Nat) : D := .tuple [nD 0, chD c]
theorem lay_nD (n : Nat) : (nD n).canLay0 = true ∧ (nD n).depth ≤ 0 := ⟨rfl, Nat.le_refl _⟩
theorem lay_chD (c : List Nat) : (chD c).canLay0 = true ∧ (chD c).depth ≤ 1 := lay_tuple (n := 0) fun x hx => by
  obtain ⟨n, _, rfl⟩ := List.mem_map.mp hx
  exact lay_nD n
theorem lay_rwD (c : List Nat) : (rwD c).canLay0 = true ∧ (rwD c).depth ≤ 2 := lay_tuple (n := 1) fun x hx => by
  simp only [List.mem_cons, List.not_mem_nil, or_false] at hx
  rcases hx with rfl | rfl
  · exact ⟨(lay_nD 0).1, Nat.le_trans (lay_nD 0).2 (by omega)⟩
  · exact lay_chD c
theorem root_sh : SeqAt.shaped rootD = true := by decide +kernel
theorem rw_ne (c : List Nat) : eqD (rwD c) rootD = some (.bool false) := by
  unfold eqD
  rw [if_pos ⟨shaped_of (lay_rwD c) (by omega), root_sh⟩]
  rfl
theorem rw_neN (c : List Nat) : neD (rwD c) rootD = some (.bool true) := by
  unfold neD
  rw [if_pos ⟨shaped_of (lay_rwD c) (by omega), root_sh⟩]
  rfl
theorem root_eq : eqD rootD rootD = some (.bool true) := by
  unfold eqD
  rw [if_pos ⟨root_sh, root_sh⟩]
  rfl
theorem row_root (n : Nat) (s0 : CS) : noX y_spread_row_r [.c n, .d rootD] s0 = .ok (.d (ptD rootPt)) s0 := by
  refine (?_ : ∃ w s', noX y_spread_row_r [.c n, .d rootD] s0 = .ok w s' ∧ (s' = s0 ∧ w = .d (ptD rootPt))).elim fun w ⟨s', e, es, ew⟩ => by rw [← ew]; rw [es] at e; exact e
  refine wp_def (P := fun w s' => s' = s0 ∧ w = .d (ptD rootPt)) rfl ?_
  show WP y_spread_row_g [some (.c n), some (.d rootD), none, none, none, none, none] s0 _ _ _
  unfold y_spread_row_g
  refine wp_seq ?_
  refine wp_ifT (s' := s0) (ev_B (ev_2 (x := rootD) (y := rootD) (s1 := s0) (ev_v rfl) rfl root_eq)) ?_
  exact wp_ret (w := .d (ptD rootPt)) (s' := s0) rfl ⟨rfl, rfl⟩
theorem row_chain {n : Nat} {es : List (D × D)} {s0 : CS} (hc : s0[n]? = some (.dct (mark :: es))) {c rows : List Nat} (hst : slStD none none 2 (chD c) = some (.tuple (rows.map nD))) {f : Nat → Pt} (hf : ∀ k ∈ rows, lookI es ((k : Nat) : Int) = some (ptD (f k))) (hsm : ∀ k ∈ rows, Small (f k)) (hne : rows ≠ []) (hrl : rows.length ≤ 1000) :
    ∃ t, noX y_spread_row_r [.c n, .d (rwD c)] s0 = .ok (.d (ptD (rowPt 0 (spCh (rows.map f))))) (s0 ++ t) := by
  obtain ⟨t, e⟩ := chain_is hc hst hf hsm hne hrl
  have hsz : (spCh (rows.map f)).th.length ≤ 1000000 := by
    have h := (acc_len (ownOf (rows.map f)) (rows.map f) ([], [], []) fun p hp => by
      obtain ⟨j, hj, rfl⟩ := List.mem_map.mp hp
      exact hsm j hj).1
    rw [List.length_map] at h
    have h : (accOf (rows.map f)).1.length ≤ 0 + 1000 * rows.length := h
    show (accOf (rows.map f)).1.length ≤ _
    omega
  generalize spCh (rows.map f) = p at e hsz ⊢
  refine (?_ : ∃ w s', noX y_spread_row_r [.c n, .d (rwD c)] s0 = .ok w s' ∧ (s' = s0 ++ t ∧ w = .d (ptD (rowPt 0 p)))).elim fun w ⟨s', e, es, ew⟩ => ⟨t, by rw [← ew]; rw [es] at e; exact e⟩
  refine wp_def (P := fun w s' => s' = s0 ++ t ∧ w = .d (ptD (rowPt 0 p))) rfl ?_
  show WP y_spread_row_g [some (.c n), some (.d (rwD c)), none, none, none, none, none] s0 _ _ _
  unfold y_spread_row_g
  refine wp_seq ?_
  refine wp_ifF (s' := s0) (ev_B (ev_2 (x := rwD c) (y := rootD) (s1 := s0) (ev_v rfl) rfl (rw_ne c))) (wp_nx ?_)
  refine wp_seq ?_
  refine wp_asgT (w := .d (rwD c)) (ρ' := [some (.c n), some (.d (rwD c)), some (.d (nD 0)), some (.d (chD c)), none, none, none]) (ev_v rfl) rfl ?_
  refine wp_seq ?_
  refine wp_asgT (w := .d (ptD p)) (ρ' := [some (.c n), some (.d (rwD c)), some (.d (nD 0)), some (.d (chD c)), some (.d (.tuple (p.th.map pD))), some (.d (.int p.pl)), some (.d (.tuple (p.mv.map pD)))]) (ev_call2 (ev_v rfl) (ev_v rfl) e) rfl ?_
  refine wp_ret (w := .d (ptD (rowPt 0 p))) (s' := s0 ++ t) (ev_N3 (x := .tuple ((p.th ++ [(0, p.pl)]).map pD)) (y := .int ((p.th.length : Nat) : Int)) (u := .tuple (p.mv.map pD)) (s1 := s0 ++ t) (s2 := s0 ++ t) (ev_2 (x := .tuple (p.th.map pD)) (y := .tuple [pD (0, p.pl)]) (s1 := s0 ++ t) (ev_v rfl) (ev_N1 (x := pD (0, p.pl)) (ev_N2 (x := nD 0) (y := .int p.pl) (s1 := s0 ++ t) (ev_v rfl) (ev_v rfl) rfl) rfl) ?_) (ev_N1 (x := .tuple (p.th.map pD)) (ev_v rfl) ?_) (ev_v rfl) rfl) ⟨rfl, rfl⟩
  · refine (DL.add_tuples (by rw [List.length_map, List.length_singleton]; omega)).trans ?_
    rw [List.map_append]
    rfl
  · show some (PyData.int (((p.th.map pD).length : Nat) : Int)) = _
    rw [List.length_map]
/-- a ledger of which rows 0 .. top are used, and what they are -/
structure Ld (L : List D) (top : Nat) (f : Nat → Pt) (cs rw' : Nat → List Nat) : Prop where
  r0 : ixD (.tuple L) (nD 0) = some rootD
  f0 : f 0 = rootPt
  rk : ∀ k, k < top → ixD (.tuple L) (nD (k + 1)) = some (rwD (cs (k + 1)))
  st : ∀ k, k < top → slStD none none 2 (chD (cs (k + 1))) = some (.tuple ((rw' (k + 1)).map nD))
  lt : ∀ k, k < top → ∀ i ∈ rw' (k + 1), i < k + 1
  ne : ∀ k, k < top → rw' (k + 1) ≠ [] ∧ (rw' (k + 1)).length ≤ 1000
  fk : ∀ k, k < top → f (k + 1) = rowPt 0 (spCh ((rw' (k + 1)).map f))
  sm : ∀ k, k ≤ top → Small (f k)
abbrev keys (k : Nat) : List Int := (List.range k).map fun i => ((i : Nat) : Int)
abbrev prt (f : Nat → Pt) : Int → D := fun i => ptD (f i.toNat)
theorem spread_is {L : List D} {top : Nat} {f : Nat → Pt} {cs rw' : Nat → List Nat} (h : Ld L top f cs rw') {U : List D} {s' : CS} {c rows : List Nat} (hu : xused_rows_r [.d (.tuple L), .d (chD c)] [] = .ok (.d (.list U)) s') (hsrt : srtD U = some ((List.range (top + 1)).map nD)) (ht : top ≤ 1000)
    (hst : slStD none none 2 (chD c) = some (.tuple (rows.map nD))) (hlt : ∀ i ∈ rows, i ≤ top) (hne : rows ≠ []) (hrl : rows.length ≤ 1000) (s : CS) : pureR (noX xspread_r) [.d (.tuple [.tuple L, chD c])] s = .ok (.d (ptD (spCh (rows.map f)))) s := by
  refine wp_pure rfl ?_ s
  show WP xspread_g [some (.d (.tuple [.tuple L, chD c])), none, none, none, none] [] _ _ _
  unfold xspread_g
  refine wp_seq ?_
  refine wp_asgT (w := .d (.tuple [.tuple L, chD c])) (ρ' := [some (.d (.tuple [.tuple L, chD c])), some (.d (.tuple L)), some (.d (chD c)), none, none]) (ev_v rfl) rfl ?_
  refine wp_seq ?_
  refine wp_asg (w := .c 0) (s' := [.dct [mark]]) rfl ?_
  refine wp_seq ?_
  have hup : ∀ s : CS, pureR (noX xused_rows_r) [.d (.tuple L), .d (chD c)] s = .ok (.d (.list U)) s := fun s => by
    unfold pureR noX
    rw [hu]
  refine wp_forI (fun k ρ s => ∃ (t : CS) (x4 : Option W), ρ = [some (.d (.tuple [.tuple L, chD c])), some (.d (.tuple L)), some (.d (chD c)), some (.c 0), x4] ∧ s = .dct (mark :: PEn (prt f) (keys k)) :: t) (items := (List.range (top + 1)).map nD) (s' := [.dct [mark]]) (ev_it (ds := (List.range (top + 1)).map nD) (.inr ?_)) ⟨[], none, rfl, rfl⟩ ?_ ?_
  · unfold fSrt
    rw [ev_args1 (ev_P2 (a := .tuple L) (b := chD c) (ev_v rfl) (ev_v rfl) (hup _))]
    show srtW [.d (.list U)] _ = _
    unfold srtW
    simp only [hsrt]
  · rintro k x ρ s hx ⟨t, x4, rfl, rfl⟩
    have hk : k < top + 1 := by
      have := (List.getElem?_eq_some_iff.mp hx).1
      simpa using this
    have ex : x = nD k := by
      rw [List.getElem?_map, List.getElem?_range hk] at hx
      exact (Option.some.inj hx).symm
    subst ex
    refine ⟨_, rfl, ?_⟩
    have hc : (Cell.dct (mark :: PEn (prt f) (keys k)) :: t)[0]? = some (.dct (mark :: PEn (prt f) (keys k))) := rfl
    have hrow : ∃ rD t', ixD (.tuple L) (nD k) = some rD ∧ noX y_spread_row_r [.c 0, .d rD] (Cell.dct (mark :: PEn (prt f) (keys k)) :: t) = .ok (.d (ptD (f k))) (Cell.dct (mark :: PEn (prt f) (keys k)) :: t ++ t') := by
      cases k with
      | zero => exact ⟨rootD, [], h.r0, by rw [h.f0, row_root, List.append_nil]⟩
      | succ k =>
        have hk' : k < top := by omega
        obtain ⟨t', e⟩ := row_chain (n := 0) hc (h.st k hk') (f := f) (fun i hi => by
          have hin : ((i : Nat) : Int) ∈ keys (k + 1) := List.mem_map.mpr ⟨i, List.mem_range.mpr (h.lt k hk' i hi), rfl⟩
          exact lookI_P (prt f) _ _ hin) (fun i hi => h.sm i (by have := h.lt k hk' i hi; omega)) (h.ne k hk').1 (h.ne k hk').2
        exact ⟨_, t', h.rk k hk', by rw [h.fk k hk']; exact e⟩
    obtain ⟨rD, t', e1, e2⟩ := hrow
    refine wp_dputI (n := 0) (i := ((k : Nat) : Int)) (x := ptD (f k)) (ds := PEn (prt f) (keys k)) (s' := Cell.dct (mark :: PEn (prt f) (keys k)) :: t ++ t') (ev_call2 (ev_v rfl) (ev_2 (x := .tuple L) (y := nD k) (ev_v rfl) (ev_v rfl) e1) e2) (ev_v rfl) (ev_v rfl) rfl ?_ ?_
    · unfold PEn
      rw [List.length_map, List.length_map, List.length_range]
      omega
    · refine ⟨t ++ t', _, rfl, ?_⟩
      have hni : ((k : Nat) : Int) ∉ keys k := fun z => by
        obtain ⟨i, hi, e⟩ := List.mem_map.mp z
        have := List.mem_range.mp hi
        omega
      have := putI_P (prt f) hni
      have e3 : prt f ((k : Nat) : Int) = ptD (f k) := rfl
      rw [e3] at this
      rw [this]
      unfold keys
      rw [List.range_succ, List.map_append]
      rfl
  · rintro ρ s ⟨t, x4, rfl, rfl⟩
    rw [List.length_map, List.length_range]
    obtain ⟨t', e⟩ := chain_is (n := 0) (es := PEn (prt f) (keys (top + 1))) (s0 := Cell.dct (mark :: PEn (prt f) (keys (top + 1))) :: t) rfl hst (f := f) (fun i hi => lookI_P (prt f) _ _ (List.mem_map.mpr ⟨i, List.mem_range.mpr (by have := hlt i hi; omega), rfl⟩)) (fun i hi => h.sm i (hlt i hi)) hne hrl
    exact wp_ret (ev_call2 (ev_v rfl) (ev_v rfl) e) rfl
/-! ### what rows and chains cost -/
def cD (p : Int × Int) : D := .tuple [.int p.1, .int p.2]
theorem sum_of_is (p q : Int × Int) (s : CS) : pureR (noX xsum_of_r) [.d (cD p), .d (cD q)] s = .ok (.d (cD (p.1 + q.1, p.2 + q.2))) s := by
  refine wp_pure (m := 2) (n := 2) (g := xsum_of_g) (ws := [.d (cD p), .d (cD q)]) (v := cD (p.1 + q.1, p.2 + q.2)) rfl ?_ s
  show WP xsum_of_g [some (.d (cD p)), some (.d (cD q))] [] _ _ _
  unfold xsum_of_g
  exact wp_ret (ev_N2 (x := .int (p.1 + q.1)) (y := .int (p.2 + q.2)) (s1 := []) (ev_2 (x := .int p.1) (y := .int q.1) (s1 := []) (ev_2 (x := cD p) (y := .int 0) (s1 := []) (ev_v rfl) rfl rfl) (ev_2 (x := cD q) (y := .int 0) (s1 := []) (ev_v rfl) rfl rfl) rfl) (ev_2 (x := .int p.2) (y := .int q.2) (s1 := []) (ev_2 (x := cD p) (y := .int 1) (s1 := []) (ev_v rfl) rfl rfl) (ev_2 (x := cD q) (y := .int 1) (s1 := []) (ev_v rfl) rfl rfl) rfl) rfl) rfl
def addC (cst : Nat → Int × Int) (a : Int × Int) (r : Nat) : Int × Int := (a.1 + (cst r).1, a.2 + (cst r).2)
def chC (h : Int) (rows : List Nat) (cst : Nat → Int × Int) : Int × Int := rows.foldl (addC cst) (h, 0)
theorem chain_cost_is {w0 : W} {s0 : CS} {ch : D} {rows : List Nat} {n h : Int} (hst : slStD none none 2 ch = some (.tuple (rows.map nD))) (hn : lenD [ch] = some (.int n)) (hh : fdivD (.int n) (.int 2) = some (.int h)) {cst : Nat → Int × Int}
    (hix : ∀ (ρ : En) (k : Nat), k ∈ rows → ρ[0]? = some (some w0) → ρ[3]? = some (some (.d (nD k))) → fIxA (fVar 0) (fVar 3) ρ s0 = .ok (.d (cD (cst k))) s0) : noX xchain_cost_r [w0, .d ch] s0 = .ok (.d (cD (chC h rows cst))) s0 := by
  refine (?_ : ∃ w s', noX xchain_cost_r [w0, .d ch] s0 = .ok w s' ∧ (s' = s0 ∧ w = .d (cD (chC h rows cst)))).elim fun w ⟨s', e, es, ew⟩ => by rw [← ew]; rw [es] at e; exact e
  refine wp_def (P := fun w s' => s' = s0 ∧ w = .d (cD (chC h rows cst))) rfl ?_
  show WP xchain_cost_g [some w0, some (.d ch), none, none] s0 _ _ _
  unfold xchain_cost_g
  refine wp_seq ?_
  refine wp_asg0 (w := .d (cD (h, 0))) (ev_N2 (x := .int h) (y := .int 0) (s1 := s0) (ev_2 (x := .int n) (y := .int 2) (s1 := s0) (ev_N1 (x := ch) (ev_v rfl) hn) rfl hh) rfl rfl) ?_
  refine wp_seq ?_
  refine wp_for (fun items ρ s => ∃ (d r : List Nat) (x3 : Option W), d ++ r = rows ∧ items = r.map nD ∧ s = s0 ∧ ρ = [some w0, some (.d ch), some (.d (cD (d.foldl (addC cst) (h, 0)))), x3]) (items := rows.map nD) (s' := s0) (ev_it (ds := rows.map nD) (.inl (ev_step (x := ch) (a := none) (b := none) (k := 2) (ev_v rfl) rfl rfl rfl hst))) ⟨[], rows, none, rfl, rfl, rfl, rfl⟩ ?_ ?_
  · rintro x r ρ s ⟨d, q, x3, hdq, ei, rfl, rfl⟩
    cases q with
    | nil => cases ei
    | cons k q =>
      rw [List.map_cons] at ei
      injection ei with e1 e2
      subst e1 e2
      refine ⟨_, rfl, ?_⟩
      refine wp_asg0 (w := .d (cD (addC cst (d.foldl (addC cst) (h, 0)) k))) (ev_P2 (a := cD (d.foldl (addC cst) (h, 0))) (b := cD (cst k)) (s1 := s) (s2 := s) (ev_v rfl) (hix _ k (by rw [← hdq]; simp) rfl rfl) (sum_of_is _ _ _)) ⟨d ++ [k], q, some (.d (nD k)), by rw [List.append_assoc]; exact hdq, rfl, rfl, ?_⟩
      rw [List.foldl_append]
      rfl
  · rintro ρ s ⟨d, q, x3, hdq, ei, rfl, rfl⟩
    have hq0 : q = [] := List.map_eq_nil_iff.mp ei.symm
    subst hq0
    rw [List.append_nil] at hdq
    subst hdq
    exact wp_ret (w := .d (cD (chC h d cst))) (s' := s) (ev_v rfl) ⟨rfl, rfl⟩
/-- a ledger of N rows, and what they cost -/
structure Cl (L : List D) (N : Nat) (cst : Nat → Int × Int) (cs rw' : Nat → List Nat) (hf : Nat → Int) : Prop where
  ln : L.length = N
  sm : N ≤ 1000
  r0 : L[0]? = some rootD
  c0 : cst 0 = (0, 0)
  rk : ∀ k, k + 1 < N → L[k + 1]? = some (rwD (cs (k + 1)))
  st : ∀ k, k + 1 < N → slStD none none 2 (chD (cs (k + 1))) = some (.tuple ((rw' (k + 1)).map nD))
  hh : ∀ k, k + 1 < N → fdivD (.int (((cs (k + 1)).length : Nat) : Int)) (.int 2) = some (.int (hf (k + 1)))
  lt : ∀ k, k + 1 < N → ∀ i ∈ rw' (k + 1), i < k + 1
  ck : ∀ k, k + 1 < N → cst (k + 1) = ((chC (hf (k + 1)) (rw' (k + 1)) cst).1 + 0, (chC (hf (k + 1)) (rw' (k + 1)) cst).2 + 1)
theorem atI_nat' {α : Type} {xs : List α} {d : Nat} {x : α} (h : xs[d]? = some x) : atI xs (d : Int) = some x := by
  have hd := (List.getElem?_eq_some_iff.mp h).1
  have e : ixN xs.length (d : Int) = some d := by
    unfold ixN
    rw [if_pos (by omega), if_pos (by omega)]
    rfl
  unfold atI
  rw [e]
  exact h
abbrev cstL (cst : Nat → Int × Int) (k : Nat) : List D := (List.range k).map fun i => cD (cst i)
theorem cst_at {cst : Nat → Int × Int} {k i : Nat} (h : i < k) : atI (cstL cst k) ((i : Nat) : Int) = some (cD (cst i)) := atI_nat' (by
  rw [List.getElem?_map, List.getElem?_range h]
  rfl)
theorem row_costs_is {L : List D} {N : Nat} {cst : Nat → Int × Int} {cs rw' : Nat → List Nat} {hf : Nat → Int} (h : Cl L N cst cs rw' hf) (s : CS) : pureR (noX xrow_costs_r) [.d (.tuple L)] s = .ok (.d (.list (cstL cst N))) s := by
  have hN := h.sm
  refine wp_pure rfl ?_ s
  show WP xrow_costs_g [some (.d (.tuple L)), none, none] [] _ _ _
  unfold xrow_costs_g
  refine wp_seq ?_
  refine wp_asg (w := .c 0) (s' := [.lst []]) rfl ?_
  refine wp_seq ?_
  refine wp_forI (fun k ρ s => ∃ (x2 : Option W), ρ = [some (.d (.tuple L)), some (.c 0), x2] ∧ s = [.lst (cstL cst k)]) (items := L) (s' := [.lst []]) (ev_it (ds := L) (.inl (ev_v rfl))) ⟨none, rfl, rfl⟩ ?_ ?_
  · rintro k x ρ s hx ⟨x2, rfl, rfl⟩
    have hk : k < N := by
      have := (List.getElem?_eq_some_iff.mp hx).1
      rw [h.ln] at this
      exact this
    refine ⟨_, rfl, ?_⟩
    have eN : cstL cst k ++ [cD (cst k)] = cstL cst (k + 1) := by
      unfold cstL
      rw [List.range_succ, List.map_append]
      rfl
    cases k with
    | zero =>
      rw [h.r0] at hx
      cases hx
      refine wp_ifT (s' := [.lst (cstL cst 0)]) (ev_B (ev_2 (x := rootD) (y := rootD) (s1 := [.lst (cstL cst 0)]) (ev_v rfl) rfl root_eq)) ?_
      refine wp_app (n := 0) (x := cD (cst 0)) (ds := cstL cst 0) (s1 := [.lst (cstL cst 0)]) (s' := [.lst (cstL cst 0)]) (ev_v rfl) ⟨_, rfl⟩ ?_ rfl (by show 0 < 16777216; decide) ⟨_, rfl, ?_⟩
      · rw [h.c0]
        rfl
      · rw [eN]
        rfl
    | succ k =>
      rw [h.rk k hk] at hx
      cases hx
      refine wp_ifF (s' := [.lst (cstL cst (k + 1))]) (ev_B (ev_2 (x := rwD (cs (k + 1))) (y := rootD) (s1 := [.lst (cstL cst (k + 1))]) (ev_v rfl) rfl (rw_ne _))) ?_
      have ec := chain_cost_is (w0 := .c 0) (s0 := [.lst (cstL cst (k + 1))]) (ch := chD (cs (k + 1))) (h.st k hk) (n := (((cs (k + 1)).length : Nat) : Int)) (by show some (PyData.int ((((cs (k + 1)).map nD).length : Nat) : Int)) = _; rw [List.length_map]) (h.hh k hk) (cst := cst) fun ρ i hi e0 e3 => ev_ixA (n := 0) (c := ((i : Nat) : Int)) (ds := cstL cst (k + 1)) (ev_v e0) (ev_v e3) rfl (cst_at (h.lt k hk i hi))
      refine wp_app (n := 0) (x := cD (cst (k + 1))) (ds := cstL cst (k + 1)) (s1 := [.lst (cstL cst (k + 1))]) (s' := [.lst (cstL cst (k + 1))]) (ev_v rfl) ⟨_, rfl⟩ ?_ rfl (by unfold cstL; rw [List.length_map, List.length_range]; omega) ⟨_, rfl, ?_⟩
      · rw [h.ck k hk]
        exact ev_P2 (a := cD (chC (hf (k + 1)) (rw' (k + 1)) cst)) (b := cD (0, 1)) (s1 := [.lst (cstL cst (k + 1))]) (s2 := [.lst (cstL cst (k + 1))]) (ev_call2 (ev_v rfl) (ev_2 (x := rwD (cs (k + 1))) (y := .int 1) (s1 := [.lst (cstL cst (k + 1))]) (ev_v rfl) rfl rfl) ec) rfl (sum_of_is _ _ _)
      · rw [eN]
        rfl
  · rintro ρ s ⟨x2, rfl, rfl⟩
    rw [h.ln]
    exact wp_ret (ev_frz (i := 1) (n := 0) rfl rfl) rfl
theorem pure_of' {h : List W → CS → R W} {ws : List W} {v : D} {s1 : CS} (e : noX h ws [] = .ok (.d v) s1) {s : CS} : pureR (noX h) ws s = .ok (.d v) s := by
  unfold pureR
  rw [e]
theorem course_cost_is {L : List D} {N : Nat} {cst : Nat → Int × Int} {cs rw' : Nat → List Nat} {hf : Nat → Int} (h : Cl L N cst cs rw' hf) {c rows : List Nat} {hc : Int} (hst : slStD none none 2 (chD c) = some (.tuple (rows.map nD))) (hh : fdivD (.int ((c.length : Nat) : Int)) (.int 2) = some (.int hc)) (hlt : ∀ i ∈ rows, i < N) (x y z : D) (s : CS) :
    pureR (noX xcourse_cost_r) [.d x, .d y, .d z, .d (.tuple [.tuple L, chD c])] s = .ok (.d (cD (chC hc rows cst))) s := by
  refine wp_pure rfl ?_ s
  show WP xcourse_cost_g [some (.d x), some (.d y), some (.d z), some (.d (.tuple [.tuple L, chD c])), none, none] [] _ _ _
  unfold xcourse_cost_g
  refine wp_seq ?_
  refine wp_asgT (w := .d (.tuple [.tuple L, chD c])) (ρ' := [some (.d x), some (.d y), some (.d z), some (.d (.tuple [.tuple L, chD c])), some (.d (.tuple L)), some (.d (chD c))]) (ev_v rfl) rfl ?_
  refine wp_ret (ev_call2 (ev_P1 (a := .tuple L) (s1 := []) (ev_v rfl) (row_costs_is h [])) (s2 := []) (ev_v rfl) (chain_cost_is (w0 := .d (.list (cstL cst N))) (s0 := []) hst (n := ((c.length : Nat) : Int)) (by show some (PyData.int (((c.map nD).length : Nat) : Int)) = _; rw [List.length_map]) hh (cst := cst) fun ρ i hi e0 e3 => ?_)) rfl
  have e : ixD (.list (cstL cst N)) (nD i) = some (cD (cst i)) := cst_at (hlt i hi)
  unfold fIxA
  rw [ev_v e0]
  show (fVar 3 ρ []).bind _ = _
  rw [ev_v e3]
  show lift2 ixD (.d (.list (cstL cst N))) (.d (nD i)) [] = _
  unfold lift2
  simp only [e]
/-! ### unfolded, and counted -/
abbrev gh : D := .tuple [.tuple [.int 2], .tuple [.int 0], .tuple [.tuple []]]
abbrev gr : D := .tuple [.tuple [.int 0, .tuple [.tuple [.int 0]], .tuple [.tuple [.int 0]]], .tuple [.int 1, .tuple [.tuple [.int 0]], .tuple [.tuple [.int 0]]]]
theorem of_noX {h : List W → CS → R W} {ws : List W} {s s' : CS} {w : W} (e : noX h ws s = .ok w s') : h ws s = .ok w s' := by
  unfold noX at e
  cases z : h ws s with
  | ok x t => rw [z] at e; exact e
  | exc x t => rw [z] at e; cases e
  | bad => rw [z] at e; cases e
theorem gt_ints (a b : Int) : gtD (.int a) (.int b) = some (.bool (decide (b < a))) := rfl
theorem unfold_ok {course : D} {a b : Int} {p : Pt} (hc : ∀ s, pureR (noX xcourse_cost_r) [.d gh, .d gr, .d (.int 1), .d course] s = .ok (.d (cD (a, b))) s) (ha : a ≤ 200) (hb : b + 1 ≤ 200) (hs : ∀ s, pureR (noX xspread_r) [.d course] s = .ok (.d (ptD p)) s) (hl : p.th.length ≤ 1000) :
    ∃ s', xunfold_r [.d gh, .d gr, .d (.int 1), .d course] [] = .ok (.d (ptD (rowPt 1 p))) s' := by
  refine (?_ : ∃ w s', noX xunfold_r [.d gh, .d gr, .d (.int 1), .d course] [] = .ok w s' ∧ w = .d (ptD (rowPt 1 p))).elim fun w ⟨s', e, ew⟩ => ⟨s', by rw [← ew]; exact of_noX e⟩
  refine wp_def (P := fun w _ => w = .d (ptD (rowPt 1 p))) rfl ?_
  show WP xunfold_g [some (.d gh), some (.d gr), some (.d (.int 1)), some (.d course), none, none, none, none, none] [] _ _ _
  unfold xunfold_g
  refine wp_seq ?_
  refine wp_asgT (w := .d (cD (a, b))) (ρ' := [some (.d gh), some (.d gr), some (.d (.int 1)), some (.d course), some (.d (.int a)), some (.d (.int b)), none, none, none]) (ev_P4 (a := gh) (b := gr) (c := .int 1) (d := course) (s1 := []) (s2 := []) (s3 := []) (s4 := []) (ev_v rfl) (ev_v rfl) (ev_v rfl) (ev_v rfl) (hc _)) rfl ?_
  refine wp_seq ?_
  refine wp_ifF (s' := []) (ev_or (s1 := []) (ev_B ((ev_2 (x := .int a) (y := .int 200) (s1 := []) (ev_v rfl) rfl (gt_ints _ _)).trans (by rw [decide_eq_false (by omega)]))) (ev_B ((ev_2 (x := .int (b + 1)) (y := .int 200) (s1 := []) (ev_2 (x := .int b) (y := .int 1) (s1 := []) (ev_v rfl) rfl rfl) rfl (gt_ints _ _)).trans (by rw [decide_eq_false (by omega)])))) (wp_nx ?_)
  refine wp_seq ?_
  refine wp_asgT (w := .d (ptD p)) (ρ' := [some (.d gh), some (.d gr), some (.d (.int 1)), some (.d course), some (.d (.int a)), some (.d (.int b)), some (.d (.tuple (p.th.map pD))), some (.d (.int p.pl)), some (.d (.tuple (p.mv.map pD)))]) (ev_P1 (a := course) (ev_v rfl) (hs _)) rfl ?_
  refine wp_ret (w := .d (ptD (rowPt 1 p))) (s' := []) (ev_N3 (x := .tuple ((p.th ++ [(1, p.pl)]).map pD)) (y := .int ((p.th.length : Nat) : Int)) (u := .tuple (p.mv.map pD)) (s1 := []) (s2 := []) (ev_2 (x := .tuple (p.th.map pD)) (y := .tuple [pD (1, p.pl)]) (s1 := []) (ev_v rfl) (ev_N1 (x := pD (1, p.pl)) (ev_N2 (x := .int 1) (y := .int p.pl) (s1 := []) (ev_v rfl) (ev_v rfl) rfl) rfl) ?_) (ev_N1 (x := .tuple (p.th.map pD)) (ev_v rfl) ?_) (ev_v rfl) rfl) rfl
  · refine (DL.add_tuples (by rw [List.length_map, List.length_singleton]; omega)).trans ?_
    rw [List.map_append]
    rfl
  · show some (PyData.int (((p.th.map pD).length : Nat) : Int)) = _
    rw [List.length_map]
theorem unfold_exc {course : D} {a b : Int} (hc : ∀ s, pureR (noX xcourse_cost_r) [.d gh, .d gr, .d (.int 1), .d course] s = .ok (.d (cD (a, b))) s) (ha : 200 < a) :
    xunfold_r [.d gh, .d gr, .d (.int 1), .d course] [] = .exc ⟨0, .int 200⟩ [] := by
  have e : xunfold_g [some (.d gh), some (.d gr), some (.d (.int 1)), some (.d course), none, none, none, none, none] [] = .exc ⟨0, .int 200⟩ [some (.d gh), some (.d gr), some (.d (.int 1)), some (.d course), some (.d (.int a)), some (.d (.int b)), none, none, none] [] := by
    unfold xunfold_g
    refine (seq_at (asg_at (w := W.d (cD (a, b))) (s1 := []) (ρ' := [some (.d gh), some (.d gr), some (.d (.int 1)), some (.d course), some (.d (.int a)), some (.d (.int b)), none, none, none]) (ev_P4 (a := gh) (b := gr) (c := .int 1) (d := course) (s1 := []) (s2 := []) (s3 := []) (s4 := []) (ev_v rfl) (ev_v rfl) (ev_v rfl) (ev_v rfl) (hc _)) rfl)).trans ?_
    have et : fOr (fB (f2 gtD (fVar 4) (fC (.int 200)))) (fB (f2 gtD (f2 addD (fVar 5) (fC (.int 1))) (fC (.int 200)))) [some (.d gh), some (.d gr), some (.d (.int 1)), some (.d course), some (.d (.int a)), some (.d (.int b)), none, none, none] [] = .ok true [] := by
      unfold fOr
      rw [ev_B ((ev_2 (x := .int a) (y := .int 200) (s1 := []) (ev_v rfl) rfl (gt_ints _ _)).trans (by rw [decide_eq_true ha]))]
      rfl
    rw [gSeq, gIf, et]
    rfl
  show (match xunfold_g [some (.d gh), some (.d gr), some (.d (.int 1)), some (.d course), none, none, none, none, none] [] with
    | .nx _ s => R.ok (W.d .none) s
    | .rt w s => .ok w s
    | .exc e _ s => .exc e s
    | _ => .bad) = _
  rw [e]
theorem ground_eq (ρ : En) : fCallP 0 (noX y_law_ground_r) fNil ρ [] = .ok (.d (.tuple [gh, gr])) [] := rfl
theorem callX4 {x : D} (ρ : En) (h1 : ρ[1]? = some (some (.d gh))) (h2 : ρ[2]? = some (some (.d gr))) (h0 : ρ[0]? = some (some (.d x))) : fCallX 4 xunfold_r (fCons (fVar 1) (fCons (fVar 2) (fCons (fC (.int 1)) (fCons (fVar 0) fNil)))) ρ [] = pureX xunfold_r [.d gh, .d gr, .d (.int 1), .d x] [] := by
  have e : fCons (fVar 1) (fCons (fVar 2) (fCons (fC (.int 1)) (fCons (fVar 0) fNil))) ρ [] = .ok [.d gh, .d gr, .d (.int 1), .d x] [] := by
    unfold fCons fNil
    rw [ev_v h1]
    simp only [R.bind, ev_v h2, ev_v h0]
    rfl
  unfold fCallX
  rw [e]
  rfl
theorem fn1_of {g : En → CS → RT} {n : Nat} {x v : D} {s2 : CS} (e : g (startE n [.d x]) [] = .rt (.d v) s2) (s : CS) : pureR (noX (fnR 1 n g)) [.d x] s = .ok (.d v) s := by
  unfold pureR noX fnR
  rw [if_pos (show [W.d x].length = 1 from rfl), e]
theorem counted_ok {x v : D} {p : Pt} {s' s2 : CS} (hu : xunfold_r [.d gh, .d gr, .d (.int 1), .d x] [] = .ok (.d (ptD p)) s') (hl : y_law_counted_t2 [some (.d x), some (.d gh), some (.d gr), some (.d (.tuple (p.th.map pD))), some (.d (.int p.pl)), some (.d (.tuple (p.mv.map pD))), none, none, none] [] = .rt (.d v) s2) (s : CS) :
    pureR (noX y_law_counted_r) [.d x] s = .ok (.d v) s := by
  refine fn1_of (s2 := s2) ?_ s
  show y_law_counted_g [some (.d x), none, none, none, none, none, none, none, none] [] = _
  unfold y_law_counted_g
  refine (seq_at (asg_at (ρ' := [some (.d x), some (.d gh), some (.d gr), none, none, none, none, none, none]) (ground_eq _) rfl)).trans ?_
  unfold y_law_counted_t1
  have e : gTry 6 0 (gAsg (DL.hT 3 (hsC (hN 3) (hsC (hN 4) (hsC (hN 5) hsN)))) (fCallX 4 xunfold_r (fCons (fVar 1) (fCons (fVar 2) (fCons (fC (.int 1)) (fCons (fVar 0) fNil)))))) (fun q => gRet (fX q)) [some (.d x), some (.d gh), some (.d gr), none, none, none, none, none, none] [] = .nx [some (.d x), some (.d gh), some (.d gr), some (.d (.tuple (p.th.map pD))), some (.d (.int p.pl)), some (.d (.tuple (p.mv.map pD))), none, none, none] [] := by
    unfold gTry
    rw [asg_at (w := .d (ptD p)) (s1 := []) (ρ' := [some (.d x), some (.d gh), some (.d gr), some (.d (.tuple (p.th.map pD))), some (.d (.int p.pl)), some (.d (.tuple (p.mv.map pD))), none, none, none]) ((callX4 (x := x) _ rfl rfl rfl).trans (by unfold pureX; rw [hu])) rfl]
  exact (seq_at e).trans hl
theorem counted_exc {x : D} (hu : xunfold_r [.d gh, .d gr, .d (.int 1), .d x] [] = .exc ⟨0, .int 200⟩ []) (s : CS) : pureR (noX y_law_counted_r) [.d x] s = .ok (.d (.int 200)) s := by
  refine fn1_of (s2 := []) ?_ s
  show y_law_counted_g [some (.d x), none, none, none, none, none, none, none, none] [] = _
  unfold y_law_counted_g
  refine (seq_at (asg_at (ρ' := [some (.d x), some (.d gh), some (.d gr), none, none, none, none, none, none]) (ground_eq _) rfl)).trans ?_
  unfold y_law_counted_t1
  have e : gAsg (DL.hT 3 (hsC (hN 3) (hsC (hN 4) (hsC (hN 5) hsN)))) (fCallX 4 xunfold_r (fCons (fVar 1) (fCons (fVar 2) (fCons (fC (.int 1)) (fCons (fVar 0) fNil))))) [some (.d x), some (.d gh), some (.d gr), none, none, none, none, none, none] [] = .exc ⟨0, .int 200⟩ [some (.d x), some (.d gh), some (.d gr), none, none, none, none, none, none] [] := by
    unfold gAsg
    rw [(callX4 (x := x) _ rfl rfl rfl).trans (by unfold pureX; rw [hu])]
    rfl
  unfold gSeq gTry
  rw [e]
  rfl
/-! ### which rows are used -/
theorem any_look : ∀ (es : List (D × D)) (i : Int), anyI es i = (lookI es i).isSome
  | [], _ => rfl
  | p :: r, i => by
    have ih := any_look r i
    unfold anyI lookI
    by_cases h : isI p.1 i = true
    · rw [if_pos h, if_pos h]; rfl
    · rw [if_neg h, if_neg h]; exact ih
theorem look_set (y : D) (i j : Int) : ∀ es : List (D × D), (lookI (setI es i y) j).isSome = (lookI es j).isSome
  | [] => rfl
  | p :: r => by
    have ih := look_set y i j r
    unfold setI
    have e1 : ∀ q : D × D, (lookI (q :: setI r i y) j) = if isI q.1 j = true then some q.2 else lookI (setI r i y) j := fun _ => rfl
    have e2 : (lookI (p :: r) j) = if isI p.1 j = true then some p.2 else lookI r j := rfl
    rw [e1, e2]
    have ek : (if isI p.1 i = true then (p.1, y) else p).1 = p.1 := by split <;> rfl
    rw [ek]
    by_cases h : isI p.1 j = true
    · rw [if_pos h, if_pos h]; rfl
    · rw [if_neg h, if_neg h]; exact ih
theorem look_app (q : D × D) (j : Int) : ∀ es : List (D × D), (lookI (es ++ [q]) j).isSome = ((lookI es j).isSome || isI q.1 j)
  | [] => by
    show (lookI [q] j).isSome = (false || isI q.1 j)
    unfold lookI lookI
    cases isI q.1 j <;> rfl
  | p :: r => by
    have ih := look_app q j r
    have e1 : (lookI ((p :: r) ++ [q]) j) = if isI p.1 j = true then some p.2 else lookI (r ++ [q]) j := rfl
    have e2 : (lookI (p :: r) j) = if isI p.1 j = true then some p.2 else lookI r j := rfl
    rw [e1, e2]
    by_cases h : isI p.1 j = true
    · rw [if_pos h, if_pos h]; rfl
    · rw [if_neg h, if_neg h]; exact ih
theorem look_put (es : List (D × D)) (i j : Int) (y : D) : (lookI (putI es i y) j).isSome = ((lookI es j).isSome || decide (i = j)) := by
  unfold putI
  by_cases h : anyI es i = true
  · rw [if_pos h, look_set]
    by_cases e : i = j
    · subst e
      rw [← any_look, h]
      rfl
    · rw [decide_eq_false e, Bool.or_false]
  · rw [if_neg h, look_app, isI_int]
def IntK (es : List (D × D)) : Prop := ∀ p ∈ es, ∃ i : Int, p.1 = .int i
theorem set_keys (i : Int) (y : D) : ∀ es : List (D × D), IntK es → IntK (setI es i y)
  | [], h => h
  | p :: r, h => by
    have ih := set_keys i y r fun q hq => h q (List.mem_cons_of_mem _ hq)
    unfold setI
    intro q hq
    rcases List.mem_cons.mp hq with rfl | hq
    · obtain ⟨k, e⟩ := h p List.mem_cons_self
      refine ⟨k, ?_⟩
      split
      · exact e
      · exact e
    · exact ih q hq
theorem put_keys {es : List (D × D)} (h : IntK es) (i : Int) (y : D) : IntK (putI es i y) := by
  unfold putI
  split
  · exact set_keys i y es h
  · intro q hq
    rcases List.mem_append.mp hq with z | z
    · exact h q z
    · rw [List.mem_singleton.mp z]; exact ⟨i, rfl⟩
def putT (acc : List (D × D)) (k : Nat) : List (D × D) := putI acc ((k : Nat) : Int) (.bool true)
theorem mk_is (rows : List Nat) : mkX true (rows.map fun k => PyData.tuple [.int ((k : Nat) : Int), .bool true]) = rows.foldl putT [] := by
  unfold mkX
  rw [List.foldl_map]
  rfl
theorem putT_all : ∀ (rows : List Nat) (es : List (D × D)), IntK es → IntK (rows.foldl putT es) ∧ (rows.foldl putT es).length ≤ es.length + rows.length ∧ ∀ j : Nat, (lookI (rows.foldl putT es) ((j : Nat) : Int)).isSome = ((lookI es ((j : Nat) : Int)).isSome || decide (j ∈ rows))
  | [], es, h => ⟨h, by simp, fun j => by simp⟩
  | k :: r, es, h => by
    obtain ⟨h1, h2, h3⟩ := putT_all r (putT es k) (put_keys h _ _)
    rw [List.foldl_cons]
    refine ⟨h1, ?_, fun j => ?_⟩
    · have := putI_len (ds := es) (i := ((k : Nat) : Int)) (y := .bool true)
      unfold putT at h2
      unfold putT
      rw [List.length_cons]
      omega
    · rw [h3 j]
      unfold putT
      rw [look_put]
      by_cases e : k = j
      · subst e; simp
      · have e2 : ¬ ((k : Nat) : Int) = (j : Int) := by omega
        have e3 : ¬ j = k := fun z => e z.symm
        simp [e2, e3]
theorem merge_all : ∀ (es ds : List (D × D)), IntK es → IntK ds → IntK (mergeI ds es) ∧ (mergeI ds es).length ≤ ds.length + es.length ∧ ∀ j : Int, (lookI (mergeI ds es) j).isSome = ((lookI ds j).isSome || (lookI es j).isSome)
  | [], ds, _, h => ⟨h, by simp [mergeI], fun j => by simp [mergeI, lookI]⟩
  | p :: r, ds, h, hd => by
    obtain ⟨i, e⟩ := h p List.mem_cons_self
    have em : mergeI ds (p :: r) = mergeI (putI ds i p.2) r := by
      show List.foldl _ _ (p :: r) = _
      rw [List.foldl_cons]
      unfold mergeI
      simp only [e]
    obtain ⟨h1, h2, h3⟩ := merge_all r (putI ds i p.2) (fun q hq => h q (List.mem_cons_of_mem _ hq)) (put_keys hd _ _)
    rw [em]
    refine ⟨h1, ?_, fun j => ?_⟩
    · have := putI_len (ds := ds) (i := i) (y := p.2)
      rw [List.length_cons]
      omega
    · rw [h3 j, look_put]
      have e2 : (lookI (p :: r) j) = if isI p.1 j = true then some p.2 else lookI r j := rfl
      rw [e2, e, isI_int]
      by_cases z : i = j
      · simp [z]
      · simp [z]
theorem wp_updI {n : Nat} {ds es : List (D × D)} {f g : En → CS → R W} {ρ : En} {s : CS} {N C : En → CS → Prop} {Z : W → CS → Prop} (e1 : f ρ s = .ok (.c n) s) (h : s[n]? = some (.dct (mark :: ds))) (e2 : g ρ s = .ok (.fd (mark :: es)) s) (hz : ds.length + es.length ≤ 16777216) (q : N ρ (s.set n (.dct (mark :: mergeI ds es)))) : WP (gUpdI f g) ρ s N C Z := by
  have h1 : dctI (.c n) s = some ds := by
    unfold dctI
    simp only [h, mark, isMk]
    rfl
  have h2 : dctI (.fd (mark :: es)) s = some es := rfl
  unfold WP gUpdI
  rw [e1]
  simp only [R.toT, onI, h]
  rw [if_pos (show isMk mark = true from rfl)]
  simp only [e2, updI, h1, h2]
  rw [if_pos ⟨rfl, hz⟩]
  exact q
theorem dc_rows {out : Out} {fi : En → CS → R (List D)} {ρ : En} {s : CS} {rows : List Nat} (hi : fi ρ s = .ok (rows.map nD) s) (hl : rows.length ≤ 1000) (h6 : ρ.length = 6) : fDc out true [5] fi (hN 5) fYes (fVar 5) (fC (.bool true)) ρ s = out (mark :: rows.foldl putT []) s := by
  have e := comp_all (f := fPr true (fVar 5) (fC (.bool true))) (g := fun k : Nat => PyData.tuple [.int ((k : Nat) : Int), .bool true]) (s := s) (ρ := wipeE ρ [5]) (h := hN 5) (c := nD) rows fun k _ => by
    refine ⟨_, rfl, ?_⟩
    have hv : fVar 5 ((wipeE ρ [5]).set 5 (some (.d (nD k)))) s = .ok (.d (nD k)) s := ev_v (by
      rw [List.getElem?_set_self]
      have : (wipeE ρ [5]).length = ρ.length := by simp [wipeE]
      omega)
    unfold fPr
    rw [hv]
    rfl
  unfold fDc
  rw [hi]
  simp only [R.bind]
  rw [if_pos (show (rows.map nD).length ≤ line by rw [List.length_map]; exact Nat.le_trans hl (by show 1000 ≤ 16777216; decide)), e]
  show out (mark :: mkX true ([] ++ _)) s = _
  rw [List.nil_append, mk_is]
theorem root_neF : neD rootD rootD = some (.bool false) := by
  unfold neD
  rw [if_pos ⟨root_sh, root_sh⟩]
  rfl
theorem ev_iin {f g : En → CS → R W} {ρ : En} {s : CS} {i : Int} {n : Nat} {ds : List (D × D)} (e1 : f ρ s = .ok (.d (.int i)) s) (e2 : g ρ s = .ok (.c n) s) (h : s[n]? = some (.dct (mark :: ds))) : fIIn false f g ρ s = .ok (.d (.bool (lookI ds i).isSome)) s := by
  have hd : dctI (.c n) s = some ds := by
    unfold dctI
    simp only [h, mark, isMk]
    rfl
  unfold fIIn
  rw [e1]
  simp only [R.bind, e2]
  unfold dInI
  simp only [hd, Bool.false_xor]
theorem rev_at {N k : Nat} {x : D} (h : (((List.range N).map nD).reverse)[k]? = some x) : k < N ∧ x = nD (N - 1 - k) := by
  have hk := (List.getElem?_eq_some_iff.mp h).1
  rw [List.length_reverse, List.length_map, List.length_range] at hk
  refine ⟨hk, ?_⟩
  rw [List.getElem?_reverse (by rw [List.length_map, List.length_range]; exact hk), List.length_map, List.length_range, List.getElem?_map, List.getElem?_range (by omega)] at h
  exact (Option.some.inj h).symm
theorem revR_gen {f : En → CS → R W} {ρ : En} {s : CS} {i : Int} (e : f ρ s = .ok (.d (.int i)) s) (h : -(2 ^ 62) ≤ i ∧ i < 2 ^ 62) : fRevR f ρ s = .ok (rngD 0 i.toNat).reverse s := by
  unfold fRevR
  rw [e]
  simp only [R.bind]
  rw [if_pos h]
theorem rng0 (N : Nat) : rngD 0 N = (List.range N).map nD := by
  unfold rngD
  refine List.map_congr_left fun t _ => ?_
  show PyData.int (0 + (t : Int)) = nD t
  rw [Int.zero_add]
theorem revR_is {f : En → CS → R W} {ρ : En} {s : CS} {N : Nat} (e : f ρ s = .ok (.d (.int ((N : Nat) : Int))) s) (hN : N ≤ 1000) : fRevR f ρ s = .ok ((List.range N).map nD).reverse s := by
  have := revR_gen e (small62 (by omega) (by omega))
  rw [Int.toNat_natCast, rng0] at this
  exact this
abbrev foundL (top b : Nat) : List D := (List.range (top + 1 - b)).map fun t => nD (top - t)
theorem used_is {L : List D} {N top : Nat} {f : Nat → Pt} {cs rw' : Nat → List Nat} (h : Ld L top f cs rw') (hup : ∀ k, k < top → k ∈ rw' (k + 1)) (hLN : L.length = N) (hN : N ≤ 1000) (htN : top < N) {c rows : List Nat}
    (hst : slStD none none 2 (chD c) = some (.tuple (rows.map nD))) (hlt : ∀ i ∈ rows, i ≤ top) (htop : top ∈ rows) (hrl : rows.length ≤ 1000) : ∃ s', xused_rows_r [.d (.tuple L), .d (chD c)] [] = .ok (.d (.list (foundL top 0))) s' := by
  refine (?_ : ∃ w s', noX xused_rows_r [.d (.tuple L), .d (chD c)] [] = .ok w s' ∧ w = .d (.list (foundL top 0))).elim fun w ⟨s', e, ew⟩ => ⟨s', by rw [← ew]; exact of_noX e⟩
  refine wp_def (P := fun w _ => w = .d (.list (foundL top 0))) rfl ?_
  show WP xused_rows_g [some (.d (.tuple L)), some (.d (chD c)), none, none, none, none] [] _ _ _
  unfold xused_rows_g
  obtain ⟨p1, p2, p3⟩ := putT_all rows [] (fun p hp => by cases hp)
  refine wp_seq ?_
  refine wp_asg (w := .c 0) (s' := [.dct (mark :: rows.foldl putT [])]) (dc_rows (ev_it (ds := rows.map nD) (.inl (ev_step (x := chD c) (a := none) (b := none) (k := 2) (ev_v rfl) rfl rfl rfl hst))) hrl rfl) ?_
  refine wp_seq ?_
  refine wp_asg (w := .c 1) (s' := [.dct (mark :: rows.foldl putT []), .lst []]) rfl ?_
  refine wp_seq ?_
  refine wp_forI (fun k ρ s => ∃ (es : List (D × D)) (x4 : Option W), k ≤ N ∧ ρ = [some (.d (.tuple L)), some (.d (chD c)), some (.c 0), some (.c 1), x4, none] ∧ s = [.dct (mark :: es), .lst (foundL top (N - k))] ∧ IntK es ∧ es.length ≤ 1000 * (k + 1) ∧ (∀ i : Nat, top < i → (lookI es ((i : Nat) : Int)).isSome = false) ∧ (0 < N - k → (lookI es ((min top (N - k - 1) : Nat) : Int)).isSome = true)) (items := ((List.range N).map nD).reverse) (s' := [.dct (mark :: rows.foldl putT []), .lst []]) (revR_is (ev_N1 (x := .tuple L) (ev_v rfl) (by show some (PyData.int ((L.length : Nat) : Int)) = _; rw [hLN])) hN) ⟨rows.foldl putT [], none, Nat.zero_le _, rfl, ?_, p1, ?_, fun i hi => ?_, fun _ => ?_⟩ ?_ ?_
  · have : top + 1 - (N - 0) = 0 := by omega
    unfold foundL
    rw [this]
    rfl
  · rw [List.length_nil] at p2
    omega
  · rw [p3 i]
    have : i ∉ rows := fun z => by have := hlt i z; omega
    simp [this, lookI]
  · rw [p3, Nat.min_eq_left (by omega)]
    simp [htop]
  · rintro k x ρ s hx ⟨es, x4, _, rfl, rfl, hI, hl, hA, hC⟩
    obtain ⟨hk, rfl⟩ := rev_at hx
    have hC := hC (by omega)
    generalize hr : N - 1 - k = r
    have hr1 : N - k - 1 = r := by omega
    have hr2 : N - (k + 1) = r := by omega
    have hr3 : N - k = r + 1 := by omega
    rw [hr1] at hC
    rw [hr3, hr2]
    refine ⟨_, rfl, ?_⟩
    refine wp_if (b := decide (r ≤ top)) (s' := [.dct (mark :: es), .lst (foundL top (r + 1))]) (ev_B ((ev_iin (n := 0) (i := ((r : Nat) : Int)) (ds := es) (ev_v rfl) (ev_v rfl) rfl).trans ?_)) (fun hb => ?_) fun hb => ?_
    · by_cases hz : r ≤ top
      · rw [Nat.min_eq_right hz] at hC
        rw [hC, decide_eq_true hz]
      · rw [hA r (by omega), decide_eq_false hz]
    · have hz := of_decide_eq_true hb
      have efd : foundL top (r + 1) ++ [nD r] = foundL top r := by
        unfold foundL
        rw [show top + 1 - r = (top + 1 - (r + 1)) + 1 by omega, List.range_succ, List.map_append]
        congr 1
        show [nD r] = [nD (top - (top + 1 - (r + 1)))]
        rw [show top - (top + 1 - (r + 1)) = r by omega]
      have hfl : (foundL top (r + 1)).length < 16777216 := by
        unfold foundL
        rw [List.length_map, List.length_range]
        omega
      refine wp_seq ?_
      refine wp_app (n := 1) (x := nD r) (ds := foundL top (r + 1)) (s1 := [.dct (mark :: es), .lst (foundL top (r + 1))]) (s' := [.dct (mark :: es), .lst (foundL top (r + 1))]) (ev_v rfl) ⟨_, rfl⟩ (ev_v rfl) rfl hfl ?_
      show WP _ _ [.dct (mark :: es), .lst (foundL top (r + 1) ++ [nD r])] _ _ _
      rw [efd]
      cases r with
      | zero =>
        refine wp_ifF (s' := [.dct (mark :: es), .lst (foundL top 0)]) (ev_B (ev_2 (x := rootD) (y := rootD) (s1 := [.dct (mark :: es), .lst (foundL top 0)]) (ev_2 (x := .tuple L) (y := nD 0) (s1 := [.dct (mark :: es), .lst (foundL top 0)]) (ev_v rfl) (ev_v rfl) h.r0) rfl root_neF)) (wp_nx ?_)
        exact ⟨es, _, by omega, rfl, rfl, hI, by omega, hA, fun z => absurd z (by omega)⟩
      | succ r =>
        have hrt : r < top := by omega
        have hst2 := h.st r hrt
        obtain ⟨q1, q2, q3⟩ := putT_all (rw' (r + 1)) [] (fun p hp => by cases hp)
        have hrl2 := (h.ne r hrt).2
        obtain ⟨m1, m2, m3⟩ := merge_all ((rw' (r + 1)).foldl putT []) es q1 hI
        rw [List.length_nil] at q2
        refine wp_ifT (s' := [.dct (mark :: es), .lst (foundL top (r + 1))]) (ev_B (ev_2 (x := rwD (cs (r + 1))) (y := rootD) (s1 := [.dct (mark :: es), .lst (foundL top (r + 1))]) (ev_2 (x := .tuple L) (y := nD (r + 1)) (s1 := [.dct (mark :: es), .lst (foundL top (r + 1))]) (ev_v rfl) (ev_v rfl) (h.rk r hrt)) rfl (rw_neN _))) ?_
        refine wp_updI (n := 0) (ds := es) (es := (rw' (r + 1)).foldl putT []) (ev_v rfl) rfl (dc_rows (out := outF) (ev_it (ds := (rw' (r + 1)).map nD) (.inl (ev_step (x := chD (cs (r + 1))) (a := none) (b := none) (k := 2) (ev_2 (x := rwD (cs (r + 1))) (y := .int 1) (ev_2 (x := .tuple L) (y := nD (r + 1)) (ev_v rfl) (ev_v rfl) (h.rk r hrt)) rfl rfl) rfl rfl rfl hst2))) hrl2 rfl) (by omega) ?_
        refine ⟨mergeI es ((rw' (r + 1)).foldl putT []), _, by omega, rfl, rfl, m1, by omega, fun i hi => ?_, fun _ => ?_⟩
        · rw [m3, hA i hi, q3]
          have : i ∉ rw' (r + 1) := fun z => by have := h.lt r hrt i z; omega
          simp [this, lookI]
        · rw [m3, q3, show min top (r + 1 - 1) = r by omega]
          simp [hup r hrt]
    · have hz := of_decide_eq_false hb
      refine wp_nx ⟨es, _, by omega, rfl, ?_, hI, by omega, hA, fun hp => ?_⟩
      · unfold foundL
        rw [show top + 1 - (r + 1) = top + 1 - r by omega]
      · rw [show min top (r - 1) = min top r by omega]
        exact hC
  · rintro ρ s ⟨es, x4, _, rfl, rfl, hI, hl, hA, hC⟩
    refine wp_ret (w := .d (.list (foundL top 0))) (s' := [.dct (mark :: es), .dead]) ((ev_frz (i := 3) (n := 1) (ds := foundL top (N - ((List.range N).map nD).reverse.length)) rfl rfl).trans ?_) rfl
    rw [List.length_reverse, List.length_map, List.length_range, Nat.sub_self]
    rfl
/-! ### ladders and doublings -/
theorem sl1 (a : Nat) : slStD none none 2 (chD [a]) = some (.tuple ([a].map nD)) := by kernel_rfl
theorem sl3 (a b c : Nat) : slStD none none 2 (chD [a, b, c]) = some (.tuple ([a, c].map nD)) := by kernel_rfl
theorem sl5 (a b c d e : Nat) : slStD none none 2 (chD [a, b, c, d, e]) = some (.tuple ([a, c, e].map nD)) := by kernel_rfl
theorem fd1 : fdivD (.int 1) (.int 2) = some (.int 0) := by kernel_rfl
theorem fd3 : fdivD (.int 3) (.int 2) = some (.int 1) := by kernel_rfl
theorem fd5 : fdivD (.int 5) (.int 2) = some (.int 2) := by kernel_rfl
theorem ix_at {L : List D} {k : Nat} {x : D} (h : L[k]? = some x) : ixD (.tuple L) (nD k) = some x := atI_nat' h
theorem shI0 (x : Int) : shI x 0 = x := by
  unfold shI
  split <;> omega
theorem spCh_one (p : Pt) : spCh [p] = p := by
  obtain ⟨th, pl, mv⟩ := p
  have e1 : th.map (shT 0) = th := by
    refine (List.map_congr_left fun q _ => ?_).trans (List.map_id _)
    unfold shT
    rw [shI0]
    rfl
  have e2 : mv.map (shM 0) = mv := by
    refine (List.map_congr_left fun q _ => ?_).trans (List.map_id _)
    unfold shM
    rw [shI0]
    rfl
  show Pt.mk ([] ++ th.map (shT 0)) (shI pl 0) (([] ++ []) ++ mv.map (shM 0)) = _
  rw [e1, e2, shI0]
  rfl
def flad (k : Nat) : Pt := ⟨(List.range k).map fun i => (0, ((i : Nat) : Int) - 1), ((k : Nat) : Int) - 1, []⟩
def ftw : Nat → Pt
  | 0 => rootPt
  | k + 1 => rowPt 0 (spCh [ftw k, ftw k])
abbrev rowsL (g : Nat → List Nat) (n : Nat) : List D := rootD :: (List.range n).map fun i => rwD (g i)
theorem rowsL_at {g : Nat → List Nat} {n k : Nat} (h : k < n) : (rowsL g n)[k + 1]? = some (rwD (g k)) := by
  show ((List.range n).map fun i => rwD (g i))[k]? = _
  rw [List.getElem?_map, List.getElem?_range h]
  rfl
theorem rowsL_len (g : Nat → List Nat) (n : Nat) : (rowsL g n).length = n + 1 := by
  show ((List.range n).map _).length + 1 = _
  rw [List.length_map, List.length_range]
abbrev one1 (i : Nat) : List Nat := [i]
abbrev two2 (i : Nat) : List Nat := [i, 0, i]
theorem lad_ld : Ld (rowsL one1 99) 99 flad (fun k => [k - 1]) (fun k => [k - 1]) where
  r0 := ix_at (k := 0) rfl
  f0 := rfl
  rk := fun k hk => ix_at (rowsL_at hk)
  st := fun k hk => sl1 _
  lt := fun k hk i hi => by rw [List.mem_singleton] at hi; omega
  ne := fun k hk => ⟨by simp, by simp⟩
  fk := fun k hk => by
    show _ = rowPt 0 (spCh [flad k])
    rw [spCh_one]
    unfold flad rowPt
    rw [List.range_succ, List.map_append, List.length_map, List.length_range]
    congr 1
    show ((k + 1 : Nat) : Int) - 1 = _
    omega
  sm := fun k hk => ⟨by unfold flad; rw [List.length_map, List.length_range]; omega, by simp [flad]⟩
theorem tw_sm : ∀ k, k < 8 → (ftw k).th.length ≤ 1000 ∧ (ftw k).mv.length ≤ 1000 := by decide +kernel
theorem tw_ld {n top : Nat} (ht : top ≤ 7) (hn : top ≤ n) : Ld (rowsL two2 n) top ftw (fun k => [k - 1, 0, k - 1]) (fun k => [k - 1, k - 1]) where
  r0 := ix_at (k := 0) rfl
  f0 := rfl
  rk := fun k hk => ix_at (rowsL_at (by omega))
  st := fun k hk => sl3 _ _ _
  lt := fun k hk i hi => by simp at hi; omega
  ne := fun k hk => ⟨by simp, by simp⟩
  fk := fun k hk => rfl
  sm := fun k hk => tw_sm k (by omega)
def clad (k : Nat) : Int × Int := (0, ((k : Nat) : Int))
def ctw (k : Nat) : Int × Int := ((2 : Int) ^ k - 1, (2 : Int) ^ k - 1)
theorem lad_cl : Cl (rowsL one1 99) 100 clad (fun k => [k - 1]) (fun k => [k - 1]) (fun _ => 0) where
  ln := rowsL_len _ _
  sm := by omega
  r0 := rfl
  c0 := rfl
  rk := fun k hk => rowsL_at (by omega)
  st := fun k hk => sl1 _
  hh := fun k hk => fd1
  lt := fun k hk i hi => by rw [List.mem_singleton] at hi; omega
  ck := fun k hk => by
    show ((0 : Int), (((k + 1 : Nat)) : Int)) = ((0 : Int) + 0 + 0, (0 : Int) + ((k + 1 - 1 : Nat) : Int) + 1)
    refine Prod.ext ?_ ?_
    · rfl
    · show (((k + 1 : Nat)) : Int) = (0 : Int) + ((k + 1 - 1 : Nat) : Int) + 1
      omega
theorem tw_cl {n : Nat} (hn : n < 1000) : Cl (rowsL two2 n) (n + 1) ctw (fun k => [k - 1, 0, k - 1]) (fun k => [k - 1, k - 1]) (fun _ => 1) where
  ln := rowsL_len _ _
  sm := by omega
  r0 := rfl
  c0 := rfl
  rk := fun k hk => rowsL_at (by omega)
  st := fun k hk => sl3 _ _ _
  hh := fun k hk => fd3
  lt := fun k hk i hi => by simp at hi; omega
  ck := fun k hk => by
    show ((2 : Int) ^ (k + 1) - 1, (2 : Int) ^ (k + 1) - 1) = ((1 : Int) + ((2 : Int) ^ k - 1) + ((2 : Int) ^ k - 1) + 0, (0 : Int) + ((2 : Int) ^ k - 1) + ((2 : Int) ^ k - 1) + 1)
    rw [Int.pow_succ]
    refine Prod.ext ?_ ?_
    · show (2 : Int) ^ k * 2 - 1 = (1 : Int) + ((2 : Int) ^ k - 1) + ((2 : Int) ^ k - 1) + 0
      omega
    · show (2 : Int) ^ k * 2 - 1 = (0 : Int) + ((2 : Int) ^ k - 1) + ((2 : Int) ^ k - 1) + 1
      omega
theorem srt_99 : srtD (foundL 99 0) = some ((List.range 100).map nD) := by kernel_rfl
theorem srt_small : srtD (foundL 0 0) = some ((List.range 1).map nD) ∧ srtD (foundL 1 0) = some ((List.range 2).map nD) ∧ srtD (foundL 4 0) = some ((List.range 5).map nD) ∧ srtD (foundL 7 0) = some ((List.range 8).map nD) := ⟨by kernel_rfl, by kernel_rfl, by kernel_rfl, by kernel_rfl⟩
/-- what is left of a count: the moves are let one by one -/
abbrev lpT (x : Option W) (p : Pt) : RT := y_law_counted_t2 [x, some (.d gh), some (.d gr), some (.d (.tuple (p.th.map pD))), some (.d (.int p.pl)), some (.d (.tuple (p.mv.map pD))), none, none, none] []
theorem lp_tw1 (x : Option W) : lpT x (rowPt 1 (ftw 1)) = .rt (.d (.tuple [.int 2, .int 1])) [] := by kernel_rfl
theorem lp_tw4 (x : Option W) : lpT x (rowPt 1 (ftw 4)) = .rt (.d (.tuple [.int 16, .int 15])) [] := by kernel_rfl
theorem lp_root (x : Option W) : lpT x (rowPt 1 (flad 0)) = .rt (.d (.tuple [.int 1, .int 0])) [] := by kernel_rfl
abbrev crs (L : List D) (c : List Nat) : D := .tuple [.tuple L, chD c]
theorem cnt_lad {a b : Nat} (ha : a ≤ 99) (hb : b ≤ 99) (hab : a + b ≤ 100) {v : D} (hl : ∀ x, lpT x (rowPt 1 (spCh [flad a, flad 99, flad b])) = .rt (.d v) []) (s : CS) : pureR (noX y_law_counted_r) [.d (crs (rowsL one1 99) [a, 1, 99, 1, b])] s = .ok (.d v) s := by
  have hlt : ∀ i ∈ [a, 99, b], i ≤ 99 := fun i hi => by simp at hi; omega
  have hc := fun s => course_cost_is lad_cl (c := [a, 1, 99, 1, b]) (hc := 2) (sl5 a 1 99 1 b) fd5 (fun i hi => Nat.lt_succ_of_le (hlt i hi)) gh gr (.int 1) s
  obtain ⟨s', hu⟩ := used_is lad_ld (fun k hk => by simp) (rowsL_len one1 99) (by omega) (by omega) (c := [a, 1, 99, 1, b]) (sl5 a 1 99 1 b) hlt (by simp) (by simp)
  have hs := fun s => spread_is lad_ld hu srt_99 (by omega) (c := [a, 1, 99, 1, b]) (sl5 a 1 99 1 b) hlt (by simp) (by simp) s
  have hsz : (spCh [flad a, flad 99, flad b]).th.length ≤ 1000 := by
    have e : (spCh [flad a, flad 99, flad b]).th.length = a + 99 + b := by
      show (((([] ++ (flad a).th.map (shT 0)) ++ (flad 99).th.map (shT _)) ++ (flad b).th.map (shT _))).length = _
      simp [flad]
      omega
    omega
  obtain ⟨s2, hu2⟩ := unfold_ok (course := crs (rowsL one1 99) [a, 1, 99, 1, b]) (a := 2 + 0 + 0 + 0) (b := 0 + ((a : Nat) : Int) + ((99 : Nat) : Int) + ((b : Nat) : Int)) hc (by omega) (by omega) hs hsz
  exact counted_ok hu2 (hl _) s
theorem unfold_exc' {course : D} {a b : Int} (hc : ∀ s, pureR (noX xcourse_cost_r) [.d gh, .d gr, .d (.int 1), .d course] s = .ok (.d (cD (a, b))) s) (hb : 200 < b + 1) :
    xunfold_r [.d gh, .d gr, .d (.int 1), .d course] [] = .exc ⟨0, .int 200⟩ [] := by
  by_cases ha : 200 < a
  · exact unfold_exc hc ha
  have e : xunfold_g [some (.d gh), some (.d gr), some (.d (.int 1)), some (.d course), none, none, none, none, none] [] = .exc ⟨0, .int 200⟩ [some (.d gh), some (.d gr), some (.d (.int 1)), some (.d course), some (.d (.int a)), some (.d (.int b)), none, none, none] [] := by
    unfold xunfold_g
    refine (seq_at (asg_at (w := W.d (cD (a, b))) (s1 := []) (ρ' := [some (.d gh), some (.d gr), some (.d (.int 1)), some (.d course), some (.d (.int a)), some (.d (.int b)), none, none, none]) (ev_P4 (a := gh) (b := gr) (c := .int 1) (d := course) (s1 := []) (s2 := []) (s3 := []) (s4 := []) (ev_v rfl) (ev_v rfl) (ev_v rfl) (ev_v rfl) (hc _)) rfl)).trans ?_
    have et : fOr (fB (f2 gtD (fVar 4) (fC (.int 200)))) (fB (f2 gtD (f2 addD (fVar 5) (fC (.int 1))) (fC (.int 200)))) [some (.d gh), some (.d gr), some (.d (.int 1)), some (.d course), some (.d (.int a)), some (.d (.int b)), none, none, none] [] = .ok true [] := by
      unfold fOr
      rw [ev_B ((ev_2 (x := .int a) (y := .int 200) (s1 := []) (ev_v rfl) rfl (gt_ints _ _)).trans (by rw [decide_eq_false ha]))]
      simp only [R.bind]
      rw [if_neg (by decide)]
      exact ev_B ((ev_2 (x := .int (b + 1)) (y := .int 200) (s1 := []) (ev_2 (x := .int b) (y := .int 1) (s1 := []) (ev_v rfl) rfl rfl) rfl (gt_ints _ _)).trans (by rw [decide_eq_true hb]))
    rw [gSeq, gIf, et]
    rfl
  show (match xunfold_g [some (.d gh), some (.d gr), some (.d (.int 1)), some (.d course), none, none, none, none, none] [] with
    | .nx _ s => R.ok (W.d .none) s
    | .rt w s => .ok w s
    | .exc e _ s => .exc e s
    | _ => .bad) = _
  rw [e]
theorem cnt_ladE {a b : Nat} (ha : a ≤ 99) (hb : b ≤ 99) (hab : 100 < a + b) (s : CS) : pureR (noX y_law_counted_r) [.d (crs (rowsL one1 99) [a, 1, 99, 1, b])] s = .ok (.d (.int 200)) s := by
  have hlt : ∀ i ∈ [a, 99, b], i ≤ 99 := fun i hi => by simp at hi; omega
  have hc := fun s => course_cost_is lad_cl (c := [a, 1, 99, 1, b]) (hc := 2) (sl5 a 1 99 1 b) fd5 (fun i hi => Nat.lt_succ_of_le (hlt i hi)) gh gr (.int 1) s
  exact counted_exc (unfold_exc' (course := crs (rowsL one1 99) [a, 1, 99, 1, b]) (a := 2 + 0 + 0 + 0) (b := 0 + ((a : Nat) : Int) + ((99 : Nat) : Int) + ((b : Nat) : Int)) hc (by omega)) s
theorem cnt_tw {n j : Nat} (hj : j ≤ 7) (hjn : j ≤ n) (hn : n < 1000) {v : D} (hsrt : srtD (foundL j 0) = some ((List.range (j + 1)).map nD)) (hp : (2 : Int) ^ j ≤ 128) (hl : ∀ x, lpT x (rowPt 1 (ftw j)) = .rt (.d v) []) (s : CS) : pureR (noX y_law_counted_r) [.d (crs (rowsL two2 n) [j])] s = .ok (.d v) s := by
  have hlt : ∀ i ∈ [j], i ≤ j := fun i hi => by simp at hi; omega
  have hc := fun s => course_cost_is (tw_cl hn) (c := [j]) (hc := 0) (sl1 j) fd1 (fun i hi => by have := hlt i hi; omega) gh gr (.int 1) s
  obtain ⟨s', hu⟩ := used_is (tw_ld hj hjn) (fun k hk => by simp) (rowsL_len two2 n) (by omega) (by omega) (c := [j]) (sl1 j) hlt (by simp) (by simp)
  have hs := fun s => spread_is (tw_ld hj hjn) hu hsrt (by omega) (c := [j]) (sl1 j) hlt (by simp) (by simp) s
  have es : spCh ([j].map ftw) = ftw j := spCh_one (ftw j)
  rw [es] at hs
  obtain ⟨s2, hu2⟩ := unfold_ok (course := crs (rowsL two2 n) [j]) (a := 0 + ((2 : Int) ^ j - 1)) (b := 0 + ((2 : Int) ^ j - 1)) hc (by omega) (by omega) hs (tw_sm j (by omega)).1
  exact counted_ok hu2 (hl _) s
theorem cnt_twE {n j : Nat} (hjn : j ≤ n) (hn : n < 1000) (hp : 256 ≤ (2 : Int) ^ j) (s : CS) : pureR (noX y_law_counted_r) [.d (crs (rowsL two2 n) [j])] s = .ok (.d (.int 200)) s := by
  have hc := fun s => course_cost_is (tw_cl hn) (c := [j]) (hc := 0) (sl1 j) fd1 (fun i hi => by simp at hi; omega) gh gr (.int 1) s
  exact counted_exc (unfold_exc (course := crs (rowsL two2 n) [j]) (a := 0 + ((2 : Int) ^ j - 1)) (b := 0 + ((2 : Int) ^ j - 1)) hc (by omega)) s
theorem lp_tw7 (x : Option W) : lpT x (rowPt 1 (ftw 7)) = .rt (.d (.tuple [.int 128, .int 127])) [] := by kernel_rfl
theorem lp_l0 (x : Option W) : lpT x (rowPt 1 (spCh [flad 99, flad 99, flad 0])) = .rt (.d (.tuple [.int 199, .int 2])) [] := by kernel_rfl
theorem lp_0 (x : Option W) : lpT x (rowPt 1 (spCh [flad 99, flad 99, flad 1])) = .rt (.d (.tuple [.int 200, .int 2])) [] := by kernel_rfl
theorem lp_1 (x : Option W) : lpT x (rowPt 1 (spCh [flad 98, flad 99, flad 2])) = .rt (.d (.tuple [.int 200, .int 2])) [] := by kernel_rfl
theorem lp_2 (x : Option W) : lpT x (rowPt 1 (spCh [flad 97, flad 99, flad 3])) = .rt (.d (.tuple [.int 200, .int 2])) [] := by kernel_rfl
theorem lp_3 (x : Option W) : lpT x (rowPt 1 (spCh [flad 96, flad 99, flad 4])) = .rt (.d (.tuple [.int 200, .int 2])) [] := by kernel_rfl
theorem lp_4 (x : Option W) : lpT x (rowPt 1 (spCh [flad 95, flad 99, flad 5])) = .rt (.d (.tuple [.int 200, .int 2])) [] := by kernel_rfl
theorem lp_5 (x : Option W) : lpT x (rowPt 1 (spCh [flad 94, flad 99, flad 6])) = .rt (.d (.tuple [.int 200, .int 2])) [] := by kernel_rfl
theorem lp_6 (x : Option W) : lpT x (rowPt 1 (spCh [flad 93, flad 99, flad 7])) = .rt (.d (.tuple [.int 200, .int 2])) [] := by kernel_rfl
theorem lp_7 (x : Option W) : lpT x (rowPt 1 (spCh [flad 92, flad 99, flad 8])) = .rt (.d (.tuple [.int 200, .int 2])) [] := by kernel_rfl
theorem lp_8 (x : Option W) : lpT x (rowPt 1 (spCh [flad 91, flad 99, flad 9])) = .rt (.d (.tuple [.int 200, .int 2])) [] := by kernel_rfl
theorem lp_9 (x : Option W) : lpT x (rowPt 1 (spCh [flad 90, flad 99, flad 10])) = .rt (.d (.tuple [.int 200, .int 2])) [] := by kernel_rfl
theorem lp_10 (x : Option W) : lpT x (rowPt 1 (spCh [flad 89, flad 99, flad 11])) = .rt (.d (.tuple [.int 200, .int 2])) [] := by kernel_rfl
theorem lp_11 (x : Option W) : lpT x (rowPt 1 (spCh [flad 88, flad 99, flad 12])) = .rt (.d (.tuple [.int 200, .int 2])) [] := by kernel_rfl
theorem lp_12 (x : Option W) : lpT x (rowPt 1 (spCh [flad 87, flad 99, flad 13])) = .rt (.d (.tuple [.int 200, .int 2])) [] := by kernel_rfl
theorem lp_13 (x : Option W) : lpT x (rowPt 1 (spCh [flad 86, flad 99, flad 14])) = .rt (.d (.tuple [.int 200, .int 2])) [] := by kernel_rfl
theorem lp_14 (x : Option W) : lpT x (rowPt 1 (spCh [flad 85, flad 99, flad 15])) = .rt (.d (.tuple [.int 200, .int 2])) [] := by kernel_rfl
theorem lp_15 (x : Option W) : lpT x (rowPt 1 (spCh [flad 84, flad 99, flad 16])) = .rt (.d (.tuple [.int 200, .int 2])) [] := by kernel_rfl
theorem lp_16 (x : Option W) : lpT x (rowPt 1 (spCh [flad 83, flad 99, flad 17])) = .rt (.d (.tuple [.int 200, .int 2])) [] := by kernel_rfl
theorem lp_17 (x : Option W) : lpT x (rowPt 1 (spCh [flad 82, flad 99, flad 18])) = .rt (.d (.tuple [.int 200, .int 2])) [] := by kernel_rfl
theorem lp_18 (x : Option W) : lpT x (rowPt 1 (spCh [flad 81, flad 99, flad 19])) = .rt (.d (.tuple [.int 200, .int 2])) [] := by kernel_rfl
theorem lp_19 (x : Option W) : lpT x (rowPt 1 (spCh [flad 80, flad 99, flad 20])) = .rt (.d (.tuple [.int 200, .int 2])) [] := by kernel_rfl
theorem lp_20 (x : Option W) : lpT x (rowPt 1 (spCh [flad 79, flad 99, flad 21])) = .rt (.d (.tuple [.int 200, .int 2])) [] := by kernel_rfl
theorem lp_21 (x : Option W) : lpT x (rowPt 1 (spCh [flad 78, flad 99, flad 22])) = .rt (.d (.tuple [.int 200, .int 2])) [] := by kernel_rfl
theorem lp_22 (x : Option W) : lpT x (rowPt 1 (spCh [flad 77, flad 99, flad 23])) = .rt (.d (.tuple [.int 200, .int 2])) [] := by kernel_rfl
theorem lp_23 (x : Option W) : lpT x (rowPt 1 (spCh [flad 76, flad 99, flad 24])) = .rt (.d (.tuple [.int 200, .int 2])) [] := by kernel_rfl
theorem lp_24 (x : Option W) : lpT x (rowPt 1 (spCh [flad 75, flad 99, flad 25])) = .rt (.d (.tuple [.int 200, .int 2])) [] := by kernel_rfl
theorem lp_25 (x : Option W) : lpT x (rowPt 1 (spCh [flad 74, flad 99, flad 26])) = .rt (.d (.tuple [.int 200, .int 2])) [] := by kernel_rfl
theorem lp_26 (x : Option W) : lpT x (rowPt 1 (spCh [flad 73, flad 99, flad 27])) = .rt (.d (.tuple [.int 200, .int 2])) [] := by kernel_rfl
theorem lp_27 (x : Option W) : lpT x (rowPt 1 (spCh [flad 72, flad 99, flad 28])) = .rt (.d (.tuple [.int 200, .int 2])) [] := by kernel_rfl
theorem lp_28 (x : Option W) : lpT x (rowPt 1 (spCh [flad 71, flad 99, flad 29])) = .rt (.d (.tuple [.int 200, .int 2])) [] := by kernel_rfl
theorem lp_29 (x : Option W) : lpT x (rowPt 1 (spCh [flad 70, flad 99, flad 30])) = .rt (.d (.tuple [.int 200, .int 2])) [] := by kernel_rfl
theorem lp_30 (x : Option W) : lpT x (rowPt 1 (spCh [flad 69, flad 99, flad 31])) = .rt (.d (.tuple [.int 200, .int 2])) [] := by kernel_rfl
theorem lp_31 (x : Option W) : lpT x (rowPt 1 (spCh [flad 68, flad 99, flad 32])) = .rt (.d (.tuple [.int 200, .int 2])) [] := by kernel_rfl
theorem lp_32 (x : Option W) : lpT x (rowPt 1 (spCh [flad 67, flad 99, flad 33])) = .rt (.d (.tuple [.int 200, .int 2])) [] := by kernel_rfl
theorem lp_33 (x : Option W) : lpT x (rowPt 1 (spCh [flad 66, flad 99, flad 34])) = .rt (.d (.tuple [.int 200, .int 2])) [] := by kernel_rfl
theorem lp_34 (x : Option W) : lpT x (rowPt 1 (spCh [flad 65, flad 99, flad 35])) = .rt (.d (.tuple [.int 200, .int 2])) [] := by kernel_rfl
theorem lp_35 (x : Option W) : lpT x (rowPt 1 (spCh [flad 64, flad 99, flad 36])) = .rt (.d (.tuple [.int 200, .int 2])) [] := by kernel_rfl
theorem lp_36 (x : Option W) : lpT x (rowPt 1 (spCh [flad 63, flad 99, flad 37])) = .rt (.d (.tuple [.int 200, .int 2])) [] := by kernel_rfl
theorem lp_37 (x : Option W) : lpT x (rowPt 1 (spCh [flad 62, flad 99, flad 38])) = .rt (.d (.tuple [.int 200, .int 2])) [] := by kernel_rfl
theorem lp_38 (x : Option W) : lpT x (rowPt 1 (spCh [flad 61, flad 99, flad 39])) = .rt (.d (.tuple [.int 200, .int 2])) [] := by kernel_rfl
theorem lp_39 (x : Option W) : lpT x (rowPt 1 (spCh [flad 60, flad 99, flad 40])) = .rt (.d (.tuple [.int 200, .int 2])) [] := by kernel_rfl
theorem lp_40 (x : Option W) : lpT x (rowPt 1 (spCh [flad 59, flad 99, flad 41])) = .rt (.d (.tuple [.int 200, .int 2])) [] := by kernel_rfl
theorem lp_41 (x : Option W) : lpT x (rowPt 1 (spCh [flad 58, flad 99, flad 42])) = .rt (.d (.tuple [.int 200, .int 2])) [] := by kernel_rfl
theorem lp_42 (x : Option W) : lpT x (rowPt 1 (spCh [flad 57, flad 99, flad 43])) = .rt (.d (.tuple [.int 200, .int 2])) [] := by kernel_rfl
theorem lp_43 (x : Option W) : lpT x (rowPt 1 (spCh [flad 56, flad 99, flad 44])) = .rt (.d (.tuple [.int 200, .int 2])) [] := by kernel_rfl
theorem lp_44 (x : Option W) : lpT x (rowPt 1 (spCh [flad 55, flad 99, flad 45])) = .rt (.d (.tuple [.int 200, .int 2])) [] := by kernel_rfl
theorem lp_45 (x : Option W) : lpT x (rowPt 1 (spCh [flad 54, flad 99, flad 46])) = .rt (.d (.tuple [.int 200, .int 2])) [] := by kernel_rfl
theorem lp_46 (x : Option W) : lpT x (rowPt 1 (spCh [flad 53, flad 99, flad 47])) = .rt (.d (.tuple [.int 200, .int 2])) [] := by kernel_rfl
theorem lp_47 (x : Option W) : lpT x (rowPt 1 (spCh [flad 52, flad 99, flad 48])) = .rt (.d (.tuple [.int 200, .int 2])) [] := by kernel_rfl
theorem lp_48 (x : Option W) : lpT x (rowPt 1 (spCh [flad 51, flad 99, flad 49])) = .rt (.d (.tuple [.int 200, .int 2])) [] := by kernel_rfl
theorem lp_49 (x : Option W) : lpT x (rowPt 1 (spCh [flad 50, flad 99, flad 50])) = .rt (.d (.tuple [.int 200, .int 2])) [] := by kernel_rfl
theorem lp_50 (x : Option W) : lpT x (rowPt 1 (spCh [flad 49, flad 99, flad 51])) = .rt (.d (.tuple [.int 200, .int 2])) [] := by kernel_rfl
theorem lp_51 (x : Option W) : lpT x (rowPt 1 (spCh [flad 48, flad 99, flad 52])) = .rt (.d (.tuple [.int 200, .int 2])) [] := by kernel_rfl
theorem lp_52 (x : Option W) : lpT x (rowPt 1 (spCh [flad 47, flad 99, flad 53])) = .rt (.d (.tuple [.int 200, .int 2])) [] := by kernel_rfl
theorem lp_53 (x : Option W) : lpT x (rowPt 1 (spCh [flad 46, flad 99, flad 54])) = .rt (.d (.tuple [.int 200, .int 2])) [] := by kernel_rfl
theorem lp_54 (x : Option W) : lpT x (rowPt 1 (spCh [flad 45, flad 99, flad 55])) = .rt (.d (.tuple [.int 200, .int 2])) [] := by kernel_rfl
theorem lp_55 (x : Option W) : lpT x (rowPt 1 (spCh [flad 44, flad 99, flad 56])) = .rt (.d (.tuple [.int 200, .int 2])) [] := by kernel_rfl
theorem lp_56 (x : Option W) : lpT x (rowPt 1 (spCh [flad 43, flad 99, flad 57])) = .rt (.d (.tuple [.int 200, .int 2])) [] := by kernel_rfl
theorem lp_57 (x : Option W) : lpT x (rowPt 1 (spCh [flad 42, flad 99, flad 58])) = .rt (.d (.tuple [.int 200, .int 2])) [] := by kernel_rfl
theorem lp_58 (x : Option W) : lpT x (rowPt 1 (spCh [flad 41, flad 99, flad 59])) = .rt (.d (.tuple [.int 200, .int 2])) [] := by kernel_rfl
theorem lp_59 (x : Option W) : lpT x (rowPt 1 (spCh [flad 40, flad 99, flad 60])) = .rt (.d (.tuple [.int 200, .int 2])) [] := by kernel_rfl
theorem lp_60 (x : Option W) : lpT x (rowPt 1 (spCh [flad 39, flad 99, flad 61])) = .rt (.d (.tuple [.int 200, .int 2])) [] := by kernel_rfl
theorem lp_61 (x : Option W) : lpT x (rowPt 1 (spCh [flad 38, flad 99, flad 62])) = .rt (.d (.tuple [.int 200, .int 2])) [] := by kernel_rfl
theorem lp_62 (x : Option W) : lpT x (rowPt 1 (spCh [flad 37, flad 99, flad 63])) = .rt (.d (.tuple [.int 200, .int 2])) [] := by kernel_rfl
theorem lp_63 (x : Option W) : lpT x (rowPt 1 (spCh [flad 36, flad 99, flad 64])) = .rt (.d (.tuple [.int 200, .int 2])) [] := by kernel_rfl
theorem lp_64 (x : Option W) : lpT x (rowPt 1 (spCh [flad 35, flad 99, flad 65])) = .rt (.d (.tuple [.int 200, .int 2])) [] := by kernel_rfl
theorem lp_65 (x : Option W) : lpT x (rowPt 1 (spCh [flad 34, flad 99, flad 66])) = .rt (.d (.tuple [.int 200, .int 2])) [] := by kernel_rfl
theorem lp_66 (x : Option W) : lpT x (rowPt 1 (spCh [flad 33, flad 99, flad 67])) = .rt (.d (.tuple [.int 200, .int 2])) [] := by kernel_rfl
theorem lp_67 (x : Option W) : lpT x (rowPt 1 (spCh [flad 32, flad 99, flad 68])) = .rt (.d (.tuple [.int 200, .int 2])) [] := by kernel_rfl
theorem lp_68 (x : Option W) : lpT x (rowPt 1 (spCh [flad 31, flad 99, flad 69])) = .rt (.d (.tuple [.int 200, .int 2])) [] := by kernel_rfl
theorem lp_69 (x : Option W) : lpT x (rowPt 1 (spCh [flad 30, flad 99, flad 70])) = .rt (.d (.tuple [.int 200, .int 2])) [] := by kernel_rfl
theorem lp_70 (x : Option W) : lpT x (rowPt 1 (spCh [flad 29, flad 99, flad 71])) = .rt (.d (.tuple [.int 200, .int 2])) [] := by kernel_rfl
theorem lp_71 (x : Option W) : lpT x (rowPt 1 (spCh [flad 28, flad 99, flad 72])) = .rt (.d (.tuple [.int 200, .int 2])) [] := by kernel_rfl
theorem lp_72 (x : Option W) : lpT x (rowPt 1 (spCh [flad 27, flad 99, flad 73])) = .rt (.d (.tuple [.int 200, .int 2])) [] := by kernel_rfl
theorem lp_73 (x : Option W) : lpT x (rowPt 1 (spCh [flad 26, flad 99, flad 74])) = .rt (.d (.tuple [.int 200, .int 2])) [] := by kernel_rfl
theorem lp_74 (x : Option W) : lpT x (rowPt 1 (spCh [flad 25, flad 99, flad 75])) = .rt (.d (.tuple [.int 200, .int 2])) [] := by kernel_rfl
theorem lp_75 (x : Option W) : lpT x (rowPt 1 (spCh [flad 24, flad 99, flad 76])) = .rt (.d (.tuple [.int 200, .int 2])) [] := by kernel_rfl
theorem lp_76 (x : Option W) : lpT x (rowPt 1 (spCh [flad 23, flad 99, flad 77])) = .rt (.d (.tuple [.int 200, .int 2])) [] := by kernel_rfl
theorem lp_77 (x : Option W) : lpT x (rowPt 1 (spCh [flad 22, flad 99, flad 78])) = .rt (.d (.tuple [.int 200, .int 2])) [] := by kernel_rfl
theorem lp_78 (x : Option W) : lpT x (rowPt 1 (spCh [flad 21, flad 99, flad 79])) = .rt (.d (.tuple [.int 200, .int 2])) [] := by kernel_rfl
theorem lp_79 (x : Option W) : lpT x (rowPt 1 (spCh [flad 20, flad 99, flad 80])) = .rt (.d (.tuple [.int 200, .int 2])) [] := by kernel_rfl
theorem lp_80 (x : Option W) : lpT x (rowPt 1 (spCh [flad 19, flad 99, flad 81])) = .rt (.d (.tuple [.int 200, .int 2])) [] := by kernel_rfl
theorem lp_81 (x : Option W) : lpT x (rowPt 1 (spCh [flad 18, flad 99, flad 82])) = .rt (.d (.tuple [.int 200, .int 2])) [] := by kernel_rfl
theorem lp_82 (x : Option W) : lpT x (rowPt 1 (spCh [flad 17, flad 99, flad 83])) = .rt (.d (.tuple [.int 200, .int 2])) [] := by kernel_rfl
theorem lp_83 (x : Option W) : lpT x (rowPt 1 (spCh [flad 16, flad 99, flad 84])) = .rt (.d (.tuple [.int 200, .int 2])) [] := by kernel_rfl
theorem lp_84 (x : Option W) : lpT x (rowPt 1 (spCh [flad 15, flad 99, flad 85])) = .rt (.d (.tuple [.int 200, .int 2])) [] := by kernel_rfl
theorem lp_85 (x : Option W) : lpT x (rowPt 1 (spCh [flad 14, flad 99, flad 86])) = .rt (.d (.tuple [.int 200, .int 2])) [] := by kernel_rfl
theorem lp_86 (x : Option W) : lpT x (rowPt 1 (spCh [flad 13, flad 99, flad 87])) = .rt (.d (.tuple [.int 200, .int 2])) [] := by kernel_rfl
theorem lp_87 (x : Option W) : lpT x (rowPt 1 (spCh [flad 12, flad 99, flad 88])) = .rt (.d (.tuple [.int 200, .int 2])) [] := by kernel_rfl
theorem lp_88 (x : Option W) : lpT x (rowPt 1 (spCh [flad 11, flad 99, flad 89])) = .rt (.d (.tuple [.int 200, .int 2])) [] := by kernel_rfl
theorem lp_89 (x : Option W) : lpT x (rowPt 1 (spCh [flad 10, flad 99, flad 90])) = .rt (.d (.tuple [.int 200, .int 2])) [] := by kernel_rfl
theorem lp_lad (x : Option W) : ∀ k : Nat, k < 90 → lpT x (rowPt 1 (spCh [flad (99 - k), flad 99, flad (1 + k)])) = .rt (.d (.tuple [.int 200, .int 2])) []
  | 0, _ => lp_0 x
  | 1, _ => lp_1 x
  | 2, _ => lp_2 x
  | 3, _ => lp_3 x
  | 4, _ => lp_4 x
  | 5, _ => lp_5 x
  | 6, _ => lp_6 x
  | 7, _ => lp_7 x
  | 8, _ => lp_8 x
  | 9, _ => lp_9 x
  | 10, _ => lp_10 x
  | 11, _ => lp_11 x
  | 12, _ => lp_12 x
  | 13, _ => lp_13 x
  | 14, _ => lp_14 x
  | 15, _ => lp_15 x
  | 16, _ => lp_16 x
  | 17, _ => lp_17 x
  | 18, _ => lp_18 x
  | 19, _ => lp_19 x
  | 20, _ => lp_20 x
  | 21, _ => lp_21 x
  | 22, _ => lp_22 x
  | 23, _ => lp_23 x
  | 24, _ => lp_24 x
  | 25, _ => lp_25 x
  | 26, _ => lp_26 x
  | 27, _ => lp_27 x
  | 28, _ => lp_28 x
  | 29, _ => lp_29 x
  | 30, _ => lp_30 x
  | 31, _ => lp_31 x
  | 32, _ => lp_32 x
  | 33, _ => lp_33 x
  | 34, _ => lp_34 x
  | 35, _ => lp_35 x
  | 36, _ => lp_36 x
  | 37, _ => lp_37 x
  | 38, _ => lp_38 x
  | 39, _ => lp_39 x
  | 40, _ => lp_40 x
  | 41, _ => lp_41 x
  | 42, _ => lp_42 x
  | 43, _ => lp_43 x
  | 44, _ => lp_44 x
  | 45, _ => lp_45 x
  | 46, _ => lp_46 x
  | 47, _ => lp_47 x
  | 48, _ => lp_48 x
  | 49, _ => lp_49 x
  | 50, _ => lp_50 x
  | 51, _ => lp_51 x
  | 52, _ => lp_52 x
  | 53, _ => lp_53 x
  | 54, _ => lp_54 x
  | 55, _ => lp_55 x
  | 56, _ => lp_56 x
  | 57, _ => lp_57 x
  | 58, _ => lp_58 x
  | 59, _ => lp_59 x
  | 60, _ => lp_60 x
  | 61, _ => lp_61 x
  | 62, _ => lp_62 x
  | 63, _ => lp_63 x
  | 64, _ => lp_64 x
  | 65, _ => lp_65 x
  | 66, _ => lp_66 x
  | 67, _ => lp_67 x
  | 68, _ => lp_68 x
  | 69, _ => lp_69 x
  | 70, _ => lp_70 x
  | 71, _ => lp_71 x
  | 72, _ => lp_72 x
  | 73, _ => lp_73 x
  | 74, _ => lp_74 x
  | 75, _ => lp_75 x
  | 76, _ => lp_76 x
  | 77, _ => lp_77 x
  | 78, _ => lp_78 x
  | 79, _ => lp_79 x
  | 80, _ => lp_80 x
  | 81, _ => lp_81 x
  | 82, _ => lp_82 x
  | 83, _ => lp_83 x
  | 84, _ => lp_84 x
  | 85, _ => lp_85 x
  | 86, _ => lp_86 x
  | 87, _ => lp_87 x
  | 88, _ => lp_88 x
  | 89, _ => lp_89 x
  | k + 90, h => absurd h (by omega)
theorem moves_k : pureR (noX y_law_moves_right_r) [] [] = .ok (.d (.bool true)) [] := by kernel_rfl
abbrev nineL : List D := rootD :: (List.range 99).map fun i => .tuple [nD 0, .tuple (nD i :: (List.replicate 8 [nD 0, nD i]).flatten)]
abbrev nineC (j : Nat) : D := .tuple (nD j :: (List.replicate 8 [nD 1, nD j]).flatten)
theorem nine_1 : pureR (noX y_law_counted_r) [.d (.tuple [.tuple nineL, nineC 1])] [] = .ok (.d (.tuple [.int 10, .int 80])) [] := by kernel_rfl
theorem nine_99 : pureR (noX y_law_counted_r) [.d (.tuple [.tuple nineL, nineC 99])] [] = .ok (.d (.int 200)) [] := by kernel_rfl
theorem ev_andV' {f g : En → CS → R W} {ρ : En} {s : CS} {a b : Bool} (e : f ρ s = .ok (.d (.bool a)) s) (e2 : g ρ s = .ok (.d (.bool b)) s) : fAndV f g ρ s = .ok (.d (.bool (a && b))) s := by
  unfold fAndV
  rw [ev_B e]
  simp only [R.bind]
  cases a with
  | true => exact e2
  | false => rfl
theorem lad_ld0 : Ld (rowsL one1 99) 0 flad (fun k => [k - 1]) (fun k => [k - 1]) where
  r0 := ix_at (k := 0) rfl
  f0 := rfl
  rk := fun k hk => absurd hk (by omega)
  st := fun k hk => absurd hk (by omega)
  lt := fun k hk => absurd hk (by omega)
  ne := fun k hk => absurd hk (by omega)
  fk := fun k hk => absurd hk (by omega)
  sm := fun k hk => lad_ld.sm k (by omega)
theorem lad0 (s : CS) : pureR (noX y_law_counted_r) [.d (crs (rowsL one1 99) [0])] s = .ok (.d (.tuple [.int 1, .int 0])) s := by
  have hlt : ∀ i ∈ [0], i ≤ 0 := fun i hi => by simp at hi; omega
  have hc := fun s => course_cost_is lad_cl (c := [0]) (hc := 0) (sl1 0) fd1 (fun i hi => by have := hlt i hi; omega) gh gr (.int 1) s
  obtain ⟨s', hu⟩ := used_is lad_ld0 (fun k hk => absurd hk (by omega)) (rowsL_len one1 99) (by omega) (by omega) (c := [0]) (sl1 0) hlt (by simp) (by simp)
  have hs := fun s => spread_is lad_ld0 hu srt_small.1 (by omega) (c := [0]) (sl1 0) hlt (by simp) (by simp) s
  have es : spCh ([0].map flad) = flad 0 := spCh_one (flad 0)
  rw [es] at hs
  obtain ⟨s2, hu2⟩ := unfold_ok (course := crs (rowsL one1 99) [0]) (a := 0 + 0) (b := 0 + 0) hc (by omega) (by omega) hs (by simp [flad])
  exact counted_ok hu2 (lp_root _) s
/-! ### the parts of the law -/
def lt3 : Nat → D
  | 0 => .tuple [.int 199, .int 2]
  | 1 => .tuple [.int 200, .int 2]
  | _ => .int 200
theorem ev_ne {f g : En → CS → R W} {ρ : En} {s : CS} {x : D} (e1 : f ρ s = .ok (.d x) s) (e2 : g ρ s = .ok (.d x) s) (h : neD x x = some (.bool false)) : fB (f2 neD f g) ρ s = .ok false s := ev_B (ev_2 e1 e2 h)
theorem ne_l3 : neD (.list [lt3 0, lt3 1, lt3 2]) (.list [lt3 0, lt3 1, lt3 2]) = some (.bool false) := by kernel_rfl
theorem ne_200 : neD (.tuple [.int 200, .int 2]) (.tuple [.int 200, .int 2]) = some (.bool false) := by kernel_rfl
theorem eq_200 : eqD (.int 200) (.int 200) = some (.bool true) := by kernel_rfl
theorem eq_10 : eqD (.tuple [.int 1, .int 0]) (.tuple [.int 1, .int 0]) = some (.bool true) := by kernel_rfl
theorem lad_is (x : Option W) : f2 addD (fN tupD (fCons (fN tupD (fCons (fC (.str "root")) fNil)) fNil)) (fN tupleD (fCons (fLc [3] (fRng1 (fC (.int 99))) (hN 3) fYes (fN tupD (fCons (fC (.int 0)) (fCons (fN tupD (fCons (fVar 3) fNil)) fNil)))) fNil)) [x, none, none, none, none] [] = .ok (.d (.tuple (rowsL one1 99))) [] := by kernel_rfl
theorem nat_sub {k : Nat} (h : k ≤ 99) : (99 : Int) - (k : Int) = ((99 - k : Nat) : Int) := by omega
theorem tc5 {ρ : En} {s : CS} {fa fb : En → CS → R W} {a b : Nat} (e1 : fa ρ s = .ok (.d (nD a)) s) (e2 : fb ρ s = .ok (.d (nD b)) s) (hL : ρ[1]? = some (some (.d (.tuple (rowsL one1 99))))) : fN tupD (fCons (fVar 1) (fCons (fN tupD (fCons fa (fCons (fC (.int 1)) (fCons (fC (.int 99)) (fCons (fC (.int 1)) (fCons fb fNil)))))) fNil)) ρ s = .ok (.d (crs (rowsL one1 99) [a, 1, 99, 1, b])) s := by
  refine ev_N2 (x := .tuple (rowsL one1 99)) (y := chD [a, 1, 99, 1, b]) (s1 := s) (ev_v hL) ?_ rfl
  simp only [fN, fCons, fNil, e1, e2, R.bind, liftN, allD, Option.map, fC]
  rfl
theorem things_k {k : Nat} (hk : k < 90) : pureR (noX y_law_things_right_r) [.d (nD k)] [] = .ok (.d (.bool true)) [] := by
  refine wp_pure rfl ?_ []
  show WP y_law_things_right_g [some (.d (nD k)), none, none, none, none] [] _ _ _
  unfold y_law_things_right_g
  refine wp_seq ?_
  refine wp_asg0 (lad_is _) ?_
  unfold y_law_things_right_t1
  refine wp_seq ?_
  refine wp_asg0 (w := .d (.list ([0, 1, 2].map lt3))) (ev_lc (L := [0, 1, 2]) (c := nD) (g := lt3) (s1 := []) rfl (by decide) fun t ht => ⟨_, rfl, ?_⟩) ?_
  · refine ev_P1 (a := crs (rowsL one1 99) [99, 1, 99, 1, t]) (tc5 (a := 99) (b := t) rfl (ev_v rfl) rfl) ?_
    simp only [List.mem_cons, List.not_mem_nil, or_false] at ht
    rcases ht with rfl | rfl | rfl
    · exact cnt_lad (by omega) (by omega) (by omega) lp_l0 _
    · exact cnt_lad (by omega) (by omega) (by omega) lp_0 _
    · exact cnt_ladE (by omega) (by omega) (by omega) _
  have es : ∀ (ρ : En) (s : CS), ρ[0]? = some (some (.d (nD k))) → f2 subD (fC (.int 99)) (fVar 0) ρ s = .ok (.d (nD (99 - k))) s := fun ρ s h => ev_2 (x := .int 99) (y := nD k) (s1 := s) rfl (ev_v h) (by show some (PyData.int ((99 : Int) - (k : Int))) = _; rw [nat_sub (by omega)])
  have ea : ∀ (j : Nat) (ρ : En) (s : CS), ρ[0]? = some (some (.d (nD k))) → f2 addD (fC (.int ((j : Nat) : Int))) (fVar 0) ρ s = .ok (.d (nD (j + k))) s := fun j ρ s h => ev_2 (x := nD j) (y := nD k) (s1 := s) rfl (ev_v h) rfl
  unfold y_law_things_right_t2
  refine wp_seq ?_
  refine wp_ifF (s' := []) (ev_or (s1 := []) (ev_ne (x := .list ([0, 1, 2].map lt3)) (ev_v rfl) rfl ne_l3) (ev_ne (x := .tuple [.int 200, .int 2]) (ev_P1 (a := crs (rowsL one1 99) [99 - k, 1, 99, 1, 1 + k]) (tc5 (es _ _ rfl) (ea 1 _ _ rfl) rfl) (cnt_lad (by omega) (by omega) (by omega) (fun x => lp_lad x k hk) _)) rfl ne_200)) (wp_nx ?_)
  unfold y_law_things_right_t3
  refine wp_ret (ev_andV' (ev_2 (x := .int 200) (y := .int 200) (s1 := []) (ev_P1 (a := crs (rowsL one1 99) [99 - k, 1, 99, 1, 2 + k]) (tc5 (es _ _ rfl) (ea 2 _ _ rfl) rfl) (cnt_ladE (by omega) (by omega) (by omega) _)) rfl eq_200) (ev_2 (x := .tuple [.int 1, .int 0]) (y := .tuple [.int 1, .int 0]) (s1 := []) (ev_P1 (a := crs (rowsL one1 99) [0]) (ev_N2 (x := .tuple (rowsL one1 99)) (y := chD [0]) (s1 := []) (ev_v rfl) rfl rfl) (lad0 _)) rfl eq_10)) rfl
theorem pow_big {j : Nat} (h : 8 ≤ j) : 256 ≤ (2 : Int) ^ j := by
  have h1 : (2 ^ 8 : Nat) ≤ 2 ^ j := Nat.pow_le_pow_right (by omega) h
  have h2 : ((2 ^ j : Nat) : Int) = (2 : Int) ^ j := by simp
  omega
def g5 (j : Nat) : D := if j = 1 then .tuple [.int 2, .int 1] else if j = 4 then .tuple [.int 16, .int 15] else if j = 7 then .tuple [.int 128, .int 127] else .int 200
abbrev res5 : D := .list [.tuple [.int 2, .int 1], .tuple [.int 16, .int 15], .tuple [.int 128, .int 127], .int 200, .int 200]
theorem g5_list {n : Nat} (h : 8 ≤ n) : PyData.list ([1, 4, 7, 8, n].map g5) = res5 := by
  have e : g5 n = .int 200 := by
    unfold g5
    rw [if_neg (by omega), if_neg (by omega), if_neg (by omega)]
  show PyData.list [g5 1, g5 4, g5 7, g5 8, g5 n] = _
  rw [e]
  rfl
theorem ne_5 : neD res5 res5 = some (.bool false) := by kernel_rfl
def g9 (j : Nat) : D := if j = 1 then .tuple [.int 10, .int 80] else .int 200
theorem ne_9 : neD (.list ([1, 99].map g9)) (.list ([1, 99].map g9)) = some (.bool false) := by kernel_rfl
theorem nine_is (x0 x1 x2 x3 x4 : Option W) : f2 addD (fN tupD (fCons (fN tupD (fCons (fC (.str "root")) fNil)) fNil)) (fN tupleD (fCons (fLc [7] (fRng1 (fC (.int 99))) (hN 7) fYes (fN tupD (fCons (fC (.int 0)) (fCons (f2 addD (fN tupD (fCons (fVar 7) fNil)) (f2 mulD (fN tupD (fCons (fC (.int 0)) (fCons (fVar 7) fNil))) (fC (.int 8)))) fNil)))) fNil)) [x0, x1, x2, x3, x4, none, none, none] [] = .ok (.d (.tuple nineL)) [] := by kernel_rfl
theorem nineC_1 (x0 x1 x2 x3 x4 x5 : Option W) : f2 addD (fN tupD (fCons (fVar 7) fNil)) (f2 mulD (fN tupD (fCons (fC (.int 1)) (fCons (fVar 7) fNil))) (fC (.int 8))) [x0, x1, x2, x3, x4, x5, none, some (.d (nD 1))] [] = .ok (.d (nineC 1)) [] := by kernel_rfl
theorem nineC_99 (x0 x1 x2 x3 x4 x5 : Option W) : f2 addD (fN tupD (fCons (fVar 7) fNil)) (f2 mulD (fN tupD (fCons (fC (.int 1)) (fCons (fVar 7) fNil))) (fC (.int 8))) [x0, x1, x2, x3, x4, x5, none, some (.d (nD 99))] [] = .ok (.d (nineC 99)) [] := by kernel_rfl
theorem two_rows {n : Nat} (hn : n < 1000) {ρ : En} (h2 : ρ[2]? = some (some (.d (nD n)))) (hl : ρ.length = 8) : f2 addD (fN tupD (fCons (fN tupD (fCons (fC (.str "root")) fNil)) fNil)) (fN tupleD (fCons (fLc [7] (fRng1 (fVar 2)) (hN 7) fYes (fN tupD (fCons (fC (.int 0)) (fCons (fN tupD (fCons (fVar 7) (fCons (fC (.int 0)) (fCons (fVar 7) fNil)))) fNil)))) fNil)) ρ [] = .ok (.d (.tuple (rowsL two2 n))) [] := by
  refine ev_2 (x := .tuple [rootD]) (y := .tuple ((List.range n).map fun i => rwD (two2 i))) (s1 := []) rfl (ev_N1 (x := .list ((List.range n).map fun i => rwD (two2 i))) (ev_lc (L := List.range n) (c := nD) (g := fun i => rwD (two2 i)) (s1 := []) (ev_rng (n := n) (ev_v h2) (by omega)) (by rw [List.length_range]; omega) fun i _ => ⟨_, rfl, ?_⟩) rfl) (DL.add_tuples (by rw [List.length_map, List.length_range, List.length_singleton]; omega))
  have hv : ((wipeE ρ [7]).set 7 (some (.d (nD i))))[7]? = some (some (.d (nD i))) := by
    rw [List.getElem?_set_self]
    have : (wipeE ρ [7]).length = ρ.length := by simp [wipeE]
    omega
  exact ev_N2 (x := nD 0) (y := chD [i, 0, i]) (s1 := []) rfl (ev_N3 (x := nD i) (y := nD 0) (u := nD i) (s1 := []) (s2 := []) (ev_v hv) rfl (ev_v hv) rfl) rfl
theorem HLAW : LawTrue xlaw_r := by
  intro ns hl
  refine wp_law ?_
  show WP xlaw_g [some (.sc ns), none, none, none, none, none, none, none] [] _ _ _
  obtain ⟨i, r, h1⟩ := cells_is ns 6 4 [some (.sc ns), none, none, none, none, none, none, none] [] rfl (by simp)
  have ei : ∀ (ρ : En), ρ[1]? = some (some (.d (.list (.int i :: r)))) → fN DL.intD (fCons (f2 ixD (fVar 1) (fC (.int 0))) fNil) ρ [] = .ok (.d (.int i)) [] := fun ρ h => ev_N1 (x := .int i) (ev_2 (x := .list (.int i :: r)) (y := .int 0) (s1 := []) (ev_v h) rfl (by simp [ixD, atI, ixN])) rfl
  unfold xlaw_g
  refine wp_seq ?_
  refine wp_asg0 h1 ?_
  unfold xlaw_t1
  obtain ⟨n, en⟩ : ∃ n : Nat, 8 + i % 92 = (n : Int) := ⟨(8 + i % 92).toNat, by omega⟩
  have hn8 : 8 ≤ n := by omega
  have hn99 : n ≤ 99 := by omega
  refine wp_seq ?_
  refine wp_asg0 (w := .d (nD n)) (ev_2 (x := .int 8) (y := .int (i % 92)) (s1 := []) rfl (ev_2 (x := .int i) (y := .int 92) (s1 := []) (ei _ rfl) rfl rfl) (by show some (PyData.int (8 + i % 92)) = _; rw [en])) ?_
  unfold xlaw_t2
  refine wp_seq ?_
  refine wp_asg0 (two_rows (by omega) rfl rfl) ?_
  unfold xlaw_t3
  refine wp_seq ?_
  refine wp_asg0 (w := .d (.list ([1, 4, 7, 8, n].map g5))) (ev_lc (L := [1, 4, 7, 8, n]) (c := nD) (g := g5) (s1 := []) rfl (by show 5 ≤ 16777216; decide) fun j hj => ⟨_, rfl, ?_⟩) ?_
  · refine ev_P1 (a := crs (rowsL two2 n) [j]) (ev_N2 (x := .tuple (rowsL two2 n)) (y := chD [j]) (s1 := []) (ev_v rfl) (ev_N1 (x := nD j) (ev_v rfl) rfl) rfl) ?_
    simp only [List.mem_cons, List.not_mem_nil, or_false] at hj
    rcases hj with rfl | rfl | rfl | rfl | rfl
    · exact cnt_tw (by omega) (by omega) (by omega) srt_small.2.1 (by decide) lp_tw1 _
    · exact cnt_tw (by omega) (by omega) (by omega) srt_small.2.2.1 (by decide) lp_tw4 _
    · exact cnt_tw (by omega) (by omega) (by omega) srt_small.2.2.2 (by decide) lp_tw7 _
    · exact cnt_twE (by omega) (by omega) (pow_big (by omega)) _
    · have e : g5 j = .int 200 := by
        unfold g5
        rw [if_neg (by omega), if_neg (by omega), if_neg (by omega)]
      rw [e]
      exact cnt_twE (by omega) (by omega) (pow_big hn8) _
  rw [g5_list hn8]
  unfold xlaw_t4
  refine wp_seq ?_
  refine wp_ifF (s' := []) (ev_ne (x := res5) (ev_v rfl) rfl ne_5) (wp_nx ?_)
  unfold xlaw_t5
  refine wp_seq ?_
  refine wp_asg0 (nine_is _ _ _ _ _) ?_
  unfold xlaw_t6
  refine wp_seq ?_
  refine wp_ifF (s' := []) (ev_ne (x := .list ([1, 99].map g9)) (ev_lc (L := [1, 99]) (c := nD) (g := g9) (s1 := []) rfl (by show 2 ≤ 16777216; decide) fun j hj => ⟨_, rfl, ?_⟩) rfl ne_9) (wp_nx ?_)
  · simp only [List.mem_cons, List.not_mem_nil, or_false] at hj
    rcases hj with rfl | rfl
    · exact ev_P1 (a := .tuple [.tuple nineL, nineC 1]) (ev_N2 (x := .tuple nineL) (y := nineC 1) (s1 := []) (ev_v rfl) (nineC_1 _ _ _ _ _ _) rfl) nine_1
    · exact ev_P1 (a := .tuple [.tuple nineL, nineC 99]) (ev_N2 (x := .tuple nineL) (y := nineC 99) (s1 := []) (ev_v rfl) (nineC_99 _ _ _ _ _ _) rfl) nine_99
  unfold xlaw_t7
  obtain ⟨k, ek⟩ : ∃ k : Nat, i % 90 = (k : Int) := ⟨(i % 90).toNat, by omega⟩
  have hk : k < 90 := by omega
  refine wp_ret (s' := []) (ev_andV' (a := true) (b := true) (ev_P1 (a := nD k) (ev_2 (x := .int i) (y := .int 90) (s1 := []) (ei _ rfl) rfl (by show some (PyData.int (i % 90)) = _; rw [ek])) (things_k hk)) (show fCallP 0 (noX y_law_moves_right_r) _ _ _ = _ from by
    unfold fCallP fNil
    exact moves_k)) rfl
/-! what the top has written; the law -/
theorem all_mk {l : PySem.W.OpenLaw} {w : World} {K : PySem.W.Frag} {h : Heap} {mg : Str → Option Value} {fa f0 f1 f2 f3 f4 f5 f6 f7 f8 f9 f10 f11 f12 f13 f14 f15 f16 f17 f18 f19 f20 f21 : Addr} (X : K.In h) (G : h.Ns mainGlobals mg) (hfa : mg "law" = some (.ref fa)) (HL : LawTrue xlaw_r)
    {od0 an0 od1 an1 od2 an2 od3 an3 od4 an4 od5 an5 od6 an6 od7 an7 od8 an8 od9 an9 od10 an10 od11 an11 od12 an12 od13 an13 od14 an14 od15 an15 od16 an16 od17 an17 od18 an18 od19 an19 od20 an20 od21 an21 : Option Addr} {sl0 sl1 sl2 sl3 sl4 sl5 sl6 sl7 sl8 sl9 sl10 sl11 sl12 sl13 sl14 sl15 sl16 sl17 sl18 sl19 sl20 sl21 : Array (Option Value)} {oc0 kV0 dc0 pm0 cd0 ct0 oc1 kV1 dc1 pm1 cd1 ct1 oc2 kV2 dc2 pm2 cd2 ct2 oc3 kV3 dc3 pm3 cd3 ct3 oc4 kV4 dc4 pm4 cd4 ct4 oc5 kV5 dc5 pm5 cd5 ct5 oc6 kV6 dc6 pm6 cd6 ct6 oc7 kV7 dc7 pm7 cd7 ct7 oc8 kV8 dc8 pm8 cd8 ct8 oc9 kV9 dc9 pm9 cd9 ct9 oc10 kV10 dc10 pm10 cd10 ct10 oc11 kV11 dc11 pm11 cd11 ct11 oc12 kV12 dc12 pm12 cd12 ct12 oc13 kV13 dc13 pm13 cd13 ct13 oc14 kV14 dc14 pm14 cd14 ct14 oc15 kV15 dc15 pm15 cd15 ct15 oc16 kV16 dc16 pm16 cd16 ct16 oc17 kV17 dc17 pm17 cd17 ct17 oc18 kV18 dc18 pm18 cd18 ct18 oc19 kV19 dc19 pm19 cd19 ct19 oc20 kV20 dc20 pm20 cd20 ct20 oc21 kV21 dc21 pm21 cd21 ct21 : Value}
    (a0 : PySem.W.nsIn K mainGlobals "sum_of" = some (some (.ref f0))) (l0 : K.lookup f0 = some ⟨oc0, od0, .func (PySem.W.fnOf "sum_of" "sum_of" (defArgs xsum_of_s) (defBody xsum_of_s) (defScope xsum_of_s) .none kV0 dc0 pm0 an0 cd0 ct0), sl0⟩) (c0 : PySem.W.codeIn K cd0 "sum_of" = true) (k0 : PySem.W.keepIn K (.ref f0) = true)
    (a1 : PySem.W.nsIn K mainGlobals "row_costs" = some (some (.ref f1))) (l1 : K.lookup f1 = some ⟨oc1, od1, .func (PySem.W.fnOf "row_costs" "row_costs" (defArgs xrow_costs_s) (defBody xrow_costs_s) (defScope xrow_costs_s) .none kV1 dc1 pm1 an1 cd1 ct1), sl1⟩) (c1 : PySem.W.codeIn K cd1 "row_costs" = true) (k1 : PySem.W.keepIn K (.ref f1) = true)
    (a2 : PySem.W.nsIn K mainGlobals "chain_cost" = some (some (.ref f2))) (l2 : K.lookup f2 = some ⟨oc2, od2, .func (PySem.W.fnOf "chain_cost" "chain_cost" (defArgs xchain_cost_s) (defBody xchain_cost_s) (defScope xchain_cost_s) .none kV2 dc2 pm2 an2 cd2 ct2), sl2⟩) (c2 : PySem.W.codeIn K cd2 "chain_cost" = true) (k2 : PySem.W.keepIn K (.ref f2) = true)
    (a3 : PySem.W.nsIn K mainGlobals "used_rows" = some (some (.ref f3))) (l3 : K.lookup f3 = some ⟨oc3, od3, .func (PySem.W.fnOf "used_rows" "used_rows" (defArgs xused_rows_s) (defBody xused_rows_s) (defScope xused_rows_s) .none kV3 dc3 pm3 an3 cd3 ct3), sl3⟩) (c3 : PySem.W.codeIn K cd3 "used_rows" = true) (k3 : PySem.W.keepIn K (.ref f3) = true)
    (a4 : PySem.W.nsIn K mainGlobals "course_cost" = some (some (.ref f4))) (l4 : K.lookup f4 = some ⟨oc4, od4, .func (PySem.W.fnOf "course_cost" "course_cost" (defArgs xcourse_cost_s) (defBody xcourse_cost_s) (defScope xcourse_cost_s) .none kV4 dc4 pm4 an4 cd4 ct4), sl4⟩) (c4 : PySem.W.codeIn K cd4 "course_cost" = true) (k4 : PySem.W.keepIn K (.ref f4) = true)
    (a5 : PySem.W.nsIn K mainGlobals "unfold" = some (some (.ref f5))) (l5 : K.lookup f5 = some ⟨oc5, od5, .func (PySem.W.fnOf "unfold" "unfold" (defArgs xunfold_s) (defBody xunfold_s) (defScope xunfold_s) .none kV5 dc5 pm5 an5 cd5 ct5), sl5⟩) (c5 : PySem.W.codeIn K cd5 "unfold" = true) (k5 : PySem.W.keepIn K (.ref f5) = true)
    (a6 : PySem.W.nsIn K mainGlobals "spread" = some (some (.ref f6))) (l6 : K.lookup f6 = some ⟨oc6, od6, .func (PySem.W.fnOf "spread" "spread" (defArgs xspread_s) (defBody xspread_s) (defScope xspread_s) .none kV6 dc6 pm6 an6 cd6 ct6), sl6⟩) (c6 : PySem.W.codeIn K cd6 "spread" = true) (k6 : PySem.W.keepIn K (.ref f6) = true)
    (a7 : PySem.W.nsIn K mainGlobals "shifted" = some (some (.ref f7))) (l7 : K.lookup f7 = some ⟨oc7, od7, .func (PySem.W.fnOf "shifted" "shifted" (defArgs xshifted_s) (defBody xshifted_s) (defScope xshifted_s) .none kV7 dc7 pm7 an7 cd7 ct7), sl7⟩) (c7 : PySem.W.codeIn K cd7 "shifted" = true) (k7 : PySem.W.keepIn K (.ref f7) = true)
    (a8 : PySem.W.nsIn K mainGlobals "_spread_row" = some (some (.ref f8))) (l8 : K.lookup f8 = some ⟨oc8, od8, .func (PySem.W.fnOf "_spread_row" "_spread_row" (defArgs y_spread_row_s) (defBody y_spread_row_s) (defScope y_spread_row_s) .none kV8 dc8 pm8 an8 cd8 ct8), sl8⟩) (c8 : PySem.W.codeIn K cd8 "_spread_row" = true) (k8 : PySem.W.keepIn K (.ref f8) = true)
    (a9 : PySem.W.nsIn K mainGlobals "_spread_chain" = some (some (.ref f9))) (l9 : K.lookup f9 = some ⟨oc9, od9, .func (PySem.W.fnOf "_spread_chain" "_spread_chain" (defArgs y_spread_chain_s) (defBody y_spread_chain_s) (defScope y_spread_chain_s) .none kV9 dc9 pm9 an9 cd9 ct9), sl9⟩) (c9 : PySem.W.codeIn K cd9 "_spread_chain" = true) (k9 : PySem.W.keepIn K (.ref f9) = true)
    (a10 : PySem.W.nsIn K mainGlobals "_law_stepped" = some (some (.ref f10))) (l10 : K.lookup f10 = some ⟨oc10, od10, .func (PySem.W.fnOf "_law_stepped" "_law_stepped" (defArgs y_law_stepped_s) (defBody y_law_stepped_s) (defScope y_law_stepped_s) .none kV10 dc10 pm10 an10 cd10 ct10), sl10⟩) (c10 : PySem.W.codeIn K cd10 "_law_stepped" = true) (k10 : PySem.W.keepIn K (.ref f10) = true)
    (a11 : PySem.W.nsIn K mainGlobals "_law_made" = some (some (.ref f11))) (l11 : K.lookup f11 = some ⟨oc11, od11, .func (PySem.W.fnOf "_law_made" "_law_made" (defArgs y_law_made_s) (defBody y_law_made_s) (defScope y_law_made_s) .none kV11 dc11 pm11 an11 cd11 ct11), sl11⟩) (c11 : PySem.W.codeIn K cd11 "_law_made" = true) (k11 : PySem.W.keepIn K (.ref f11) = true)
    (a12 : PySem.W.nsIn K mainGlobals "_law_path" = some (some (.ref f12))) (l12 : K.lookup f12 = some ⟨oc12, od12, .func (PySem.W.fnOf "_law_path" "_law_path" (defArgs y_law_path_s) (defBody y_law_path_s) (defScope y_law_path_s) .none kV12 dc12 pm12 an12 cd12 ct12), sl12⟩) (c12 : PySem.W.codeIn K cd12 "_law_path" = true) (k12 : PySem.W.keepIn K (.ref f12) = true)
    (a13 : PySem.W.nsIn K mainGlobals "_law_content" = some (some (.ref f13))) (l13 : K.lookup f13 = some ⟨oc13, od13, .func (PySem.W.fnOf "_law_content" "_law_content" (defArgs y_law_content_s) (defBody y_law_content_s) (defScope y_law_content_s) .none kV13 dc13 pm13 an13 cd13 ct13), sl13⟩) (c13 : PySem.W.codeIn K cd13 "_law_content" = true) (k13 : PySem.W.keepIn K (.ref f13) = true)
    (a14 : PySem.W.nsIn K mainGlobals "_law_place" = some (some (.ref f14))) (l14 : K.lookup f14 = some ⟨oc14, od14, .func (PySem.W.fnOf "_law_place" "_law_place" (defArgs y_law_place_s) (defBody y_law_place_s) (defScope y_law_place_s) .none kV14 dc14 pm14 an14 cd14 ct14), sl14⟩) (c14 : PySem.W.codeIn K cd14 "_law_place" = true) (k14 : PySem.W.keepIn K (.ref f14) = true)
    (a15 : PySem.W.nsIn K mainGlobals "_law_letting" = some (some (.ref f15))) (l15 : K.lookup f15 = some ⟨oc15, od15, .func (PySem.W.fnOf "_law_letting" "_law_letting" (defArgs y_law_letting_s) (defBody y_law_letting_s) (defScope y_law_letting_s) .none kV15 dc15 pm15 an15 cd15 ct15), sl15⟩) (c15 : PySem.W.codeIn K cd15 "_law_letting" = true) (k15 : PySem.W.keepIn K (.ref f15) = true)
    (a16 : PySem.W.nsIn K mainGlobals "_law_moved" = some (some (.ref f16))) (l16 : K.lookup f16 = some ⟨oc16, od16, .func (PySem.W.fnOf "_law_moved" "_law_moved" (defArgs y_law_moved_s) (defBody y_law_moved_s) (defScope y_law_moved_s) .none kV16 dc16 pm16 an16 cd16 ct16), sl16⟩) (c16 : PySem.W.codeIn K cd16 "_law_moved" = true) (k16 : PySem.W.keepIn K (.ref f16) = true)
    (a17 : PySem.W.nsIn K mainGlobals "_law_ground" = some (some (.ref f17))) (l17 : K.lookup f17 = some ⟨oc17, od17, .func (PySem.W.fnOf "_law_ground" "_law_ground" (defArgs y_law_ground_s) (defBody y_law_ground_s) (defScope y_law_ground_s) .none kV17 dc17 pm17 an17 cd17 ct17), sl17⟩) (c17 : PySem.W.codeIn K cd17 "_law_ground" = true) (k17 : PySem.W.keepIn K (.ref f17) = true)
    (a18 : PySem.W.nsIn K mainGlobals "_law_counted" = some (some (.ref f18))) (l18 : K.lookup f18 = some ⟨oc18, od18, .func (PySem.W.fnOf "_law_counted" "_law_counted" (defArgs y_law_counted_s) (defBody y_law_counted_s) (defScope y_law_counted_s) .none kV18 dc18 pm18 an18 cd18 ct18), sl18⟩) (c18 : PySem.W.codeIn K cd18 "_law_counted" = true) (k18 : PySem.W.keepIn K (.ref f18) = true)
    (a19 : PySem.W.nsIn K mainGlobals "_law_things_right" = some (some (.ref f19))) (l19 : K.lookup f19 = some ⟨oc19, od19, .func (PySem.W.fnOf "_law_things_right" "_law_things_right" (defArgs y_law_things_right_s) (defBody y_law_things_right_s) (defScope y_law_things_right_s) .none kV19 dc19 pm19 an19 cd19 ct19), sl19⟩) (c19 : PySem.W.codeIn K cd19 "_law_things_right" = true) (k19 : PySem.W.keepIn K (.ref f19) = true)
    (a20 : PySem.W.nsIn K mainGlobals "_law_moves_right" = some (some (.ref f20))) (l20 : K.lookup f20 = some ⟨oc20, od20, .func (PySem.W.fnOf "_law_moves_right" "_law_moves_right" (defArgs y_law_moves_right_s) (defBody y_law_moves_right_s) (defScope y_law_moves_right_s) .none kV20 dc20 pm20 an20 cd20 ct20), sl20⟩) (c20 : PySem.W.codeIn K cd20 "_law_moves_right" = true) (k20 : PySem.W.keepIn K (.ref f20) = true)
    (a21 : PySem.W.nsIn K mainGlobals "law" = some (some (.ref f21))) (l21 : K.lookup f21 = some ⟨oc21, od21, .func (PySem.W.fnOf "law" "law" (defArgs xlaw_s) (defBody xlaw_s) (defScope xlaw_s) .none kV21 dc21 pm21 an21 cd21 ct21), sl21⟩) (c21 : PySem.W.codeIn K cd21 "law" = true) (k21 : PySem.W.keepIn K (.ref f21) = true)
    {C0 fi0 : Addr} {nm0 q0 : Str} {N0 : Addr} {bs0 : List Value} {sn0 : List Str} {sub0 : List Value} {ab0 : Bool} {col0 : Option Bool} {dd0 : Option Addr} {u0a u0b u0c u0d u0e : Option Value} {ic0 idc0 ipm0 icd0 ict0 : Value} {iod0 ian0 : Option Addr} {isl0 : Array (Option Value)} {p0a p0b p0c p0d p0e p0f : Pos}
    (aC0 : PySem.W.nsIn K mainGlobals "LimitExceeded" = some (some (.ref C0))) (xL0 : K.lookup C0 = some (excClassObj nm0 q0 C0 N0 bs0 [.type "OverflowError", .type "ArithmeticError", .type "Exception", .type "BaseException", .type "object"] true sn0 sub0 ab0 col0 dd0 u0a u0b u0c u0d u0e "OverflowError.__new__"))
    (sa0 : PySem.W.findIn K (.ref C0) "__setattr__" = some (some (.builtin "object.__setattr__"))) (ga0 : PySem.W.findIn K (.ref C0) "__getattribute__" = some (some (.builtin "BaseException.__getattribute__"))) (gg0 : PySem.W.findIn K (.ref C0) "__getattr__" = some none) (nb0 : PySem.W.findIn K (.ref C0) "limit" = some none)
    (ia0 : PySem.W.findIn K (.ref C0) "__init__" = some (some (.ref fi0))) (it0 : PySem.W.typeIn K (.ref fi0) = some (.type "function"))
    (il0 : K.lookup fi0 = some ⟨ic0, iod0, .func (PySem.W.fnOf "__init__" "LimitExceeded.__init__" (PySem.Er_LimitExceeded.iA p0a p0b) (PySem.Er_LimitExceeded.iB p0c p0d p0e p0f) PySem.Er_LimitExceeded.iS .none .none idc0 ipm0 ian0 icd0 ict0), isl0⟩) (icc0 : PySem.W.codeIn K icd0 "LimitExceeded.__init__" = true)
    (kC0 : PySem.W.keepIn K (.ref C0) = true) (eC0 : PySem.W.subIn K (.ref C0) (.type "BaseException") = some true) (tC0 : PySem.W.typeIn K (.ref C0) = some (.type "type")) (hC0 : PySem.W.hasDictIn K C0 = true) (iC0 : PySem.W.isClsIn K C0 = true) (sC0 : PySem.W.subIn K (.ref C0) (.ref C0) = some true)
    (z0 : PySem.W.nsIn K mainGlobals "abs" = some none)
    (z1 : PySem.W.nsIn K mainGlobals "enumerate" = some none)
    (z2 : PySem.W.nsIn K mainGlobals "int" = some none)
    (z3 : PySem.W.nsIn K mainGlobals "len" = some none)
    (z4 : PySem.W.nsIn K mainGlobals "list" = some none)
    (z5 : PySem.W.nsIn K mainGlobals "max" = some none)
    (z6 : PySem.W.nsIn K mainGlobals "min" = some none)
    (z7 : PySem.W.nsIn K mainGlobals "range" = some none)
    (z8 : PySem.W.nsIn K mainGlobals "reversed" = some none)
    (z9 : PySem.W.nsIn K mainGlobals "sorted" = some none)
    (z10 : PySem.W.nsIn K mainGlobals "sum" = some none)
    (z11 : PySem.W.nsIn K mainGlobals "tuple" = some none)
    {t0 : Tok} (gcs0 : PySem.W.nsIn K mainGlobals "MOST_MOVES" = some (some (.int 200 t0)))
    {t1 : Tok} (gcs1 : PySem.W.nsIn K mainGlobals "MOST_THINGS" = some (some (.int 200 t1)))
    {t2 : Tok} (gcs2 : PySem.W.nsIn K mainGlobals "ROOT" = some (some (.int (-1) t2)))
    {tb0 : Addr} {g0_0 : Tok} {tn0 : Nat} {td0 : Option Addr} {tl0 : Array (Option Value)} (gt0 : PySem.W.nsIn K mainGlobals "ROOT_ROW" = some (some (.ref tb0))) (lt0 : K.lookup tb0 = some ⟨.type "tuple", td0, .seq #[.str "root" g0_0] tn0, tl0⟩)
    : ∃ fd : FuncData, (∀ (s : Shared) (v : Value), BindsTo s fd ⟨[v], []⟩ [("_law_script", v)]) ∧ ∀ base : Heap, K.In base → base.Ns mainGlobals mg → FnG l.prog w K mg base 8 fa fd ["_law_script"] (spLaw K) := by
  have e := hfa.symm.trans (PySem.W.mg_of X G a21)
  cases e
  have F0 := fun_mk (st := xsum_of_s) l0 c0 k0
  have b0 := F0.binds (ps := ["cost", "other"]) fun _ _ _ _ _ _ us hl => match us, hl with | [_, _], _ => rfl
  have F1 := fun_mk (st := xrow_costs_s) l1 c1 k1
  have b1 := F1.binds (ps := ["ledger"]) fun _ _ _ _ _ _ us hl => match us, hl with | [_], _ => rfl
  have F2 := fun_mk (st := xchain_cost_s) l2 c2 k2
  have b2 := F2.binds (ps := ["costs", "chain"]) fun _ _ _ _ _ _ us hl => match us, hl with | [_, _], _ => rfl
  have F3 := fun_mk (st := xused_rows_s) l3 c3 k3
  have b3 := F3.binds (ps := ["ledger", "chain"]) fun _ _ _ _ _ _ us hl => match us, hl with | [_, _], _ => rfl
  have F4 := fun_mk (st := xcourse_cost_s) l4 c4 k4
  have b4 := F4.binds (ps := ["house", "rules", "item", "course"]) fun _ _ _ _ _ _ us hl => match us, hl with | [_, _, _, _], _ => rfl
  have F5 := fun_mk (st := xunfold_s) l5 c5 k5
  have b5 := F5.binds (ps := ["house", "rules", "item", "course"]) fun _ _ _ _ _ _ us hl => match us, hl with | [_, _, _, _], _ => rfl
  have F6 := fun_mk (st := xspread_s) l6 c6 k6
  have b6 := F6.binds (ps := ["course"]) fun _ _ _ _ _ _ us hl => match us, hl with | [_], _ => rfl
  have F7 := fun_mk (st := xshifted_s) l7 c7 k7
  have b7 := F7.binds (ps := ["place", "start"]) fun _ _ _ _ _ _ us hl => match us, hl with | [_, _], _ => rfl
  have F8 := fun_mk (st := y_spread_row_s) l8 c8 k8
  have b8 := F8.binds (ps := ["parts", "row"]) fun _ _ _ _ _ _ us hl => match us, hl with | [_, _], _ => rfl
  have F9 := fun_mk (st := y_spread_chain_s) l9 c9 k9
  have b9 := F9.binds (ps := ["parts", "chain"]) fun _ _ _ _ _ _ us hl => match us, hl with | [_, _], _ => rfl
  have F10 := fun_mk (st := y_law_stepped_s) l10 c10 k10
  have b10 := F10.binds (ps := ["_law_sizes", "_law_cells", "_law_step"]) fun _ _ _ _ _ _ us hl => match us, hl with | [_, _, _], _ => rfl
  have F11 := fun_mk (st := y_law_made_s) l11 c11 k11
  have b11 := F11.binds (ps := ["_law_house", "_law_content_here", "_law_kind"]) fun _ _ _ _ _ _ us hl => match us, hl with | [_, _, _], _ => rfl
  have F12 := fun_mk (st := y_law_path_s) l12 c12 k12
  have b12 := F12.binds (ps := ["_law_tree", "_law_thing"]) fun _ _ _ _ _ _ us hl => match us, hl with | [_, _], _ => rfl
  have F13 := fun_mk (st := y_law_content_s) l13 c13 k13
  have b13 := F13.binds (ps := ["_law_house", "_law_tree", "_law_thing"]) fun _ _ _ _ _ _ us hl => match us, hl with | [_, _, _], _ => rfl
  have F14 := fun_mk (st := y_law_place_s) l14 c14 k14
  have b14 := F14.binds (ps := ["_law_house", "_law_tree", "_law_target"]) fun _ _ _ _ _ _ us hl => match us, hl with | [_, _, _], _ => rfl
  have F15 := fun_mk (st := y_law_letting_s) l15 c15 k15
  have b15 := F15.binds (ps := ["_law_house", "_law_rules", "_law_tree", "_law_thing", "_law_target"]) fun _ _ _ _ _ _ us hl => match us, hl with | [_, _, _, _, _], _ => rfl
  have F16 := fun_mk (st := y_law_moved_s) l16 c16 k16
  have b16 := F16.binds (ps := ["_law_tree", "_law_thing", "_law_target"]) fun _ _ _ _ _ _ us hl => match us, hl with | [_, _, _], _ => rfl
  have F17 := fun_mk (st := y_law_ground_s) l17 c17 k17
  have b17 := F17.binds (ps := []) fun _ _ _ _ _ _ us hl => match us, hl with | [], _ => rfl
  have F18 := fun_mk (st := y_law_counted_s) l18 c18 k18
  have b18 := F18.binds (ps := ["_law_course"]) fun _ _ _ _ _ _ us hl => match us, hl with | [_], _ => rfl
  have F19 := fun_mk (st := y_law_things_right_s) l19 c19 k19
  have b19 := F19.binds (ps := ["_law_more"]) fun _ _ _ _ _ _ us hl => match us, hl with | [_], _ => rfl
  have F20 := fun_mk (st := y_law_moves_right_s) l20 c20 k20
  have b20 := F20.binds (ps := []) fun _ _ _ _ _ _ us hl => match us, hl with | [], _ => rfl
  have F21 := fun_mk (st := xlaw_s) l21 c21 k21
  have b21 := F21.binds (ps := ["_law_script"]) fun _ _ _ _ _ _ us hl => match us, hl with | [_], _ => rfl
  have low0 : PySem.Er_LimitExceeded.LowTxt K mg C0 fi0 := { gC := PySem.W.mg_of X G aC0, cls := ⟨nm0, q0, N0, bs0, _, sn0, sub0, ab0, col0, dd0, u0a, u0b, u0c, u0d, u0e, xL0, by decide +kernel⟩, sa := sa0, ga := ga0, gg := gg0, noN := nb0, iC := ia0, tC := it0, kC := kC0, exC := eC0, tyC := tC0, hdC := hC0, te := L2.Er_LimitExceeded.exm_self eC0 iC0 tC0 sC0, fn := ⟨_, _, _, _, _, _, _, _, _, _, _, _, _, _, il0, icc0⟩ }
  letI : KFrag := ⟨K, w⟩
  have Tx : Txt K mg (fun i => [f0, f1, f2, f3, f4, f5, f6, f7, f8, f9, f10, f11, f12, f13, f14, f15, f16, f17, f18, f19, f20, fa].getD i 0) (fun i => [PySem.W.fnOf "sum_of" "sum_of" (defArgs xsum_of_s) (defBody xsum_of_s) (defScope xsum_of_s) .none kV0 dc0 pm0 an0 cd0 ct0, PySem.W.fnOf "row_costs" "row_costs" (defArgs xrow_costs_s) (defBody xrow_costs_s) (defScope xrow_costs_s) .none kV1 dc1 pm1 an1 cd1 ct1, PySem.W.fnOf "chain_cost" "chain_cost" (defArgs xchain_cost_s) (defBody xchain_cost_s) (defScope xchain_cost_s) .none kV2 dc2 pm2 an2 cd2 ct2, PySem.W.fnOf "used_rows" "used_rows" (defArgs xused_rows_s) (defBody xused_rows_s) (defScope xused_rows_s) .none kV3 dc3 pm3 an3 cd3 ct3, PySem.W.fnOf "course_cost" "course_cost" (defArgs xcourse_cost_s) (defBody xcourse_cost_s) (defScope xcourse_cost_s) .none kV4 dc4 pm4 an4 cd4 ct4, PySem.W.fnOf "unfold" "unfold" (defArgs xunfold_s) (defBody xunfold_s) (defScope xunfold_s) .none kV5 dc5 pm5 an5 cd5 ct5, PySem.W.fnOf "spread" "spread" (defArgs xspread_s) (defBody xspread_s) (defScope xspread_s) .none kV6 dc6 pm6 an6 cd6 ct6, PySem.W.fnOf "shifted" "shifted" (defArgs xshifted_s) (defBody xshifted_s) (defScope xshifted_s) .none kV7 dc7 pm7 an7 cd7 ct7, PySem.W.fnOf "_spread_row" "_spread_row" (defArgs y_spread_row_s) (defBody y_spread_row_s) (defScope y_spread_row_s) .none kV8 dc8 pm8 an8 cd8 ct8, PySem.W.fnOf "_spread_chain" "_spread_chain" (defArgs y_spread_chain_s) (defBody y_spread_chain_s) (defScope y_spread_chain_s) .none kV9 dc9 pm9 an9 cd9 ct9, PySem.W.fnOf "_law_stepped" "_law_stepped" (defArgs y_law_stepped_s) (defBody y_law_stepped_s) (defScope y_law_stepped_s) .none kV10 dc10 pm10 an10 cd10 ct10, PySem.W.fnOf "_law_made" "_law_made" (defArgs y_law_made_s) (defBody y_law_made_s) (defScope y_law_made_s) .none kV11 dc11 pm11 an11 cd11 ct11, PySem.W.fnOf "_law_path" "_law_path" (defArgs y_law_path_s) (defBody y_law_path_s) (defScope y_law_path_s) .none kV12 dc12 pm12 an12 cd12 ct12, PySem.W.fnOf "_law_content" "_law_content" (defArgs y_law_content_s) (defBody y_law_content_s) (defScope y_law_content_s) .none kV13 dc13 pm13 an13 cd13 ct13, PySem.W.fnOf "_law_place" "_law_place" (defArgs y_law_place_s) (defBody y_law_place_s) (defScope y_law_place_s) .none kV14 dc14 pm14 an14 cd14 ct14, PySem.W.fnOf "_law_letting" "_law_letting" (defArgs y_law_letting_s) (defBody y_law_letting_s) (defScope y_law_letting_s) .none kV15 dc15 pm15 an15 cd15 ct15, PySem.W.fnOf "_law_moved" "_law_moved" (defArgs y_law_moved_s) (defBody y_law_moved_s) (defScope y_law_moved_s) .none kV16 dc16 pm16 an16 cd16 ct16, PySem.W.fnOf "_law_ground" "_law_ground" (defArgs y_law_ground_s) (defBody y_law_ground_s) (defScope y_law_ground_s) .none kV17 dc17 pm17 an17 cd17 ct17, PySem.W.fnOf "_law_counted" "_law_counted" (defArgs y_law_counted_s) (defBody y_law_counted_s) (defScope y_law_counted_s) .none kV18 dc18 pm18 an18 cd18 ct18, PySem.W.fnOf "_law_things_right" "_law_things_right" (defArgs y_law_things_right_s) (defBody y_law_things_right_s) (defScope y_law_things_right_s) .none kV19 dc19 pm19 an19 cd19 ct19, PySem.W.fnOf "_law_moves_right" "_law_moves_right" (defArgs y_law_moves_right_s) (defBody y_law_moves_right_s) (defScope y_law_moves_right_s) .none kV20 dc20 pm20 an20 cd20 ct20, PySem.W.fnOf "law" "law" (defArgs xlaw_s) (defBody xlaw_s) (defScope xlaw_s) .none kV21 dc21 pm21 an21 cd21 ct21].getD i (PySem.W.fnOf "sum_of" "sum_of" (defArgs xsum_of_s) (defBody xsum_of_s) (defScope xsum_of_s) .none kV0 dc0 pm0 an0 cd0 ct0)) (fun i => [(C0, ("limit" : Str))].getD i (0, "")) (fun i => [C0].getD i 0) (fun i => [fi0].getD i 0) := {
    K0 := low0,
    T0 := rfl,
    F0 := F0,
    M0 := PySem.W.mg_of X G a0,
    B0 := b0,
    F1 := F1,
    M1 := PySem.W.mg_of X G a1,
    B1 := b1,
    F2 := F2,
    M2 := PySem.W.mg_of X G a2,
    B2 := b2,
    F3 := F3,
    M3 := PySem.W.mg_of X G a3,
    B3 := b3,
    F4 := F4,
    M4 := PySem.W.mg_of X G a4,
    B4 := b4,
    F5 := F5,
    M5 := PySem.W.mg_of X G a5,
    B5 := b5,
    F6 := F6,
    M6 := PySem.W.mg_of X G a6,
    B6 := b6,
    F7 := F7,
    M7 := PySem.W.mg_of X G a7,
    B7 := b7,
    F8 := F8,
    M8 := PySem.W.mg_of X G a8,
    B8 := b8,
    F9 := F9,
    M9 := PySem.W.mg_of X G a9,
    B9 := b9,
    F10 := F10,
    M10 := PySem.W.mg_of X G a10,
    B10 := b10,
    F11 := F11,
    M11 := PySem.W.mg_of X G a11,
    B11 := b11,
    F12 := F12,
    M12 := PySem.W.mg_of X G a12,
    B12 := b12,
    F13 := F13,
    M13 := PySem.W.mg_of X G a13,
    B13 := b13,
    F14 := F14,
    M14 := PySem.W.mg_of X G a14,
    B14 := b14,
    F15 := F15,
    M15 := PySem.W.mg_of X G a15,
    B15 := b15,
    F16 := F16,
    M16 := PySem.W.mg_of X G a16,
    B16 := b16,
    F17 := F17,
    M17 := PySem.W.mg_of X G a17,
    B17 := b17,
    F18 := F18,
    M18 := PySem.W.mg_of X G a18,
    B18 := b18,
    F19 := F19,
    M19 := PySem.W.mg_of X G a19,
    B19 := b19,
    F20 := F20,
    M20 := PySem.W.mg_of X G a20,
    B20 := b20,
    F21 := F21,
    M21 := PySem.W.mg_of X G a21,
    B21 := b21,
    z_abs := PySem.W.mg_none_of X G z0,
    z_enumerate := PySem.W.mg_none_of X G z1,
    z_int := PySem.W.mg_none_of X G z2,
    z_len := PySem.W.mg_none_of X G z3,
    z_list := PySem.W.mg_none_of X G z4,
    z_max := PySem.W.mg_none_of X G z5,
    z_min := PySem.W.mg_none_of X G z6,
    z_range := PySem.W.mg_none_of X G z7,
    z_reversed := PySem.W.mg_none_of X G z8,
    z_sorted := PySem.W.mg_none_of X G z9,
    z_sum := PySem.W.mg_none_of X G z10,
    z_tuple := PySem.W.mg_none_of X G z11,
    u_ROOT_ROW := ⟨_, PySem.W.mg_of X G gt0, _, _, _, lt0, rfl, rfl, (by first | decide +kernel | (rw [sizeLine_eq]; simp)), .cons ⟨_, rfl⟩ (.nil)⟩,
    g_MOST_MOVES := ⟨_, PySem.W.mg_of X G gcs0⟩,
    g_MOST_THINGS := ⟨_, PySem.W.mg_of X G gcs1⟩,
    g_ROOT := ⟨_, PySem.W.mg_of X G gcs2⟩ }
  exact ⟨PySem.W.fnOf "law" "law" (defArgs xlaw_s) (defBody xlaw_s) (defScope xlaw_s) .none kV21 dc21 pm21 an21 cd21 ct21, fun s v => .of_eq rfl, fun base _ _ => (xlaw_ok (T := (fun i => [(C0, ("limit" : Str))].getD i (0, ""))) rfl rfl Tx).imp (law_spG rfl HL)⟩
end K55
open PySem PySem.W PyProof.Rows
set_option maxHeartbeats 0 in
theorem PySem.Challenge.cw_movedfolders_k55_unfolded_at_the_bound_holds : PySem.Challenge.rw_movedfolders_k55_unfolded_at_the_bound.Holds := by
  w_on; o_law; k_head; (case hw => w_witness2)
  k_fill
  refine DL.walkG (l := PySem.Challenge.rw_movedfolders_k55_unfolded_at_the_bound) (n := 63) (k := 8) (x := "_law_script") (sp := DL.spLaw) rfl (by decide) rfl ⟨rfl, by decide, by decide⟩ (fun w h Y => PySem.W.kIn_of Y) ?F (fun K H a ns hl hO hS => ⟨a, ns, rfl, hO, hS, hl, fun _ => rfl⟩)
  case F =>
    intro w mg fa h KX G hmg
    refine' K55.all_mk KX G hmg K55.HLAW ?a0 ?l0 ?c0 ?k0 ?a1 ?l1 ?c1 ?k1 ?a2 ?l2 ?c2 ?k2 ?a3 ?l3 ?c3 ?k3 ?a4 ?l4 ?c4 ?k4 ?a5 ?l5 ?c5 ?k5 ?a6 ?l6 ?c6 ?k6 ?a7 ?l7 ?c7 ?k7 ?a8 ?l8 ?c8 ?k8 ?a9 ?l9 ?c9 ?k9 ?a10 ?l10 ?c10 ?k10 ?a11 ?l11 ?c11 ?k11 ?a12 ?l12 ?c12 ?k12 ?a13 ?l13 ?c13 ?k13 ?a14 ?l14 ?c14 ?k14 ?a15 ?l15 ?c15 ?k15 ?a16 ?l16 ?c16 ?k16 ?a17 ?l17 ?c17 ?k17 ?a18 ?l18 ?c18 ?k18 ?a19 ?l19 ?c19 ?k19 ?a20 ?l20 ?c20 ?k20 ?a21 ?l21 ?c21 ?k21 ?aC0 ?xL0 ?sa0 ?ga0 ?gg0 ?nb0 ?ia0 ?it0 ?il0 ?icc0 ?kC0 ?eC0 ?tC0 ?hC0 ?iC0 ?sC0 ?z0 ?z1 ?z2 ?z3 ?z4 ?z5 ?z6 ?z7 ?z8 ?z9 ?z10 ?z11 ?gcs0 ?gcs1 ?gcs2 ?gt0 ?lt0
    (case a0 => k_is); (case l0 => k_is); (case c0 => k_is); (case k0 => k_is); (case a1 => k_is); (case l1 => k_is); (case c1 => k_is); (case k1 => k_is); (case a2 => k_is); (case l2 => k_is); (case c2 => k_is); (case k2 => k_is); (case a3 => k_is); (case l3 => k_is); (case c3 => k_is); (case k3 => k_is); (case a4 => k_is); (case l4 => k_is); (case c4 => k_is); (case k4 => k_is); (case a5 => k_is); (case l5 => k_is); (case c5 => k_is); (case k5 => k_is); (case a6 => k_is); (case l6 => k_is); (case c6 => k_is); (case k6 => k_is); (case a7 => k_is); (case l7 => k_is); (case c7 => k_is); (case k7 => k_is); (case a8 => k_is); (case l8 => k_is); (case c8 => k_is); (case k8 => k_is); (case a9 => k_is); (case l9 => k_is); (case c9 => k_is); (case k9 => k_is); (case a10 => k_is); (case l10 => k_is); (case c10 => k_is); (case k10 => k_is); (case a11 => k_is); (case l11 => k_is); (case c11 => k_is); (case k11 => k_is); (case a12 => k_is); (case l12 => k_is); (case c12 => k_is); (case k12 => k_is); (case a13 => k_is); (case l13 => k_is); (case c13 => k_is); (case k13 => k_is); (case a14 => k_is); (case l14 => k_is); (case c14 => k_is); (case k14 => k_is); (case a15 => k_is); (case l15 => k_is); (case c15 => k_is); (case k15 => k_is); (case a16 => k_is); (case l16 => k_is); (case c16 => k_is); (case k16 => k_is); (case a17 => k_is); (case l17 => k_is); (case c17 => k_is); (case k17 => k_is); (case a18 => k_is); (case l18 => k_is); (case c18 => k_is); (case k18 => k_is); (case a19 => k_is); (case l19 => k_is); (case c19 => k_is); (case k19 => k_is); (case a20 => k_is); (case l20 => k_is); (case c20 => k_is); (case k20 => k_is); (case a21 => k_is); (case l21 => k_is); (case c21 => k_is); (case k21 => k_is); (case aC0 => k_is); (case xL0 => k_is); (case sa0 => k_is); (case ga0 => k_is); (case gg0 => k_is); (case nb0 => k_is); (case ia0 => k_is); (case it0 => k_is); (case il0 => k_is); (case icc0 => k_is); (case kC0 => k_is); (case eC0 => k_is); (case tC0 => k_is); (case hC0 => k_is); (case iC0 => k_is); (case sC0 => first | rfl | k_is); (case z0 => k_is); (case z1 => k_is); (case z2 => k_is); (case z3 => k_is); (case z4 => k_is); (case z5 => k_is); (case z6 => k_is); (case z7 => k_is); (case z8 => k_is); (case z9 => k_is); (case z10 => k_is); (case z11 => k_is); (case gcs0 => k_is); (case gcs1 => k_is); (case gcs2 => k_is); (case gt0 => k_is); (case lt0 => k_is)
