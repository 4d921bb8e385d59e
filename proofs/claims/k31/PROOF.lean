import PyProof.Rows.All
import Wide.All
import OpenK.AllK
import Wide.FinOn
import HandS.Base
import HandS.Call
import HandS.List
import HandS.Comp
import HandS.Exc
import HandS.Words
import HandS.Iter
import HandS.ExcOwn
import HandS.TupAny
import HandS.Text
import HandS.WordsExc
import HandS.TupMul
import HandS.Star
import HandS.IsInst
import HandS.Property
import HandS.StrMore
import HandS.Replace
import HandS.Style
import HandS.Defaults
import HandS.ClsMeth
import KE.GoesNew
import HandS.MakeKw
import KE.KStateDown
import HandS.Ends
import HandS.Head0
import HandS.Head1
import HandS.Head2
import HandS.HeadEnd
import HandS.HeadHook1
import HandS.HeadHook2
import HandS.Conv
import HandS.More
import HandS.Zip
import HandS.DictComp
import HandS.Deep
import HandS.OwnEq
import HandS.SortRule
import PyProof.Rows.SortKeyStr
import PyProof.Rows.TupIter
import PyProof.Seq
import HandS.ListItems
import KE.KDictList
import PyProof.InstNe
import PyProof.StrWalks
import PyProof.EnumMake
import HandS.FStr
import HandS.MapJoin
import HandS.RaiseMore
import PyProof.Rows.Range3
import PyProof.CallStr
import HandS.Small
import HandS.DictSub
import KE.KDictZip
import KE.KDictPairs
import KE.KDictKeyed
import PySem.Challenge.RW_guardhopes_k31_whole_jams_by_loops
section
set_option Elab.async false
set_option linter.all false
set_option maxRecDepth 100000
set_option maxHeartbeats 4000000
namespace DL
open PySem PySem.Spec PyProof.Rows L2

inductive D where
  | non | bl (b : Bool) | int (i : Int) | str (x : Str)
  | tup (ds : List D) | lst (ds : List D) | fl (ds : List D)
  | ins (C : Addr) (ns : List Str) (ds : List D)
  | obj (v : V)
  | bag
  | dct (ks : List Key) (ds : List D)
  | dtp (ks : List (List Key)) (ds : List D)

structure Bag where
  x : Int
  y : Int
  z : Int

inductive Out (α : Type) where
  | ok (a : α) (b : Bag)
  | ex (c : Addr) (ns : List Str) (ds : List D)
  | stuck
namespace Out
def bind {α β : Type} (o : Out α) (k : α → Bag → Out β) : Out β := match o with
  | .ok a b => k a b
  | .ex c ns ds => .ex c ns ds
  | .stuck => .stuck
def pureO {α : Type} (o : Option α) (b : Bag) : Out α := match o with
  | some a => .ok a b
  | none => .stuck
end Out

mutual
inductive DR (K : PySem.W.Frag) (ba : Option Addr) (S : Hp) : V → D → Prop
  | non : DR K ba S .non .non
  | bl (b : Bool) : DR K ba S (.bl b) (.bl b)
  | int (i : Int) : DR K ba S (.int i) (.int i)
  | str (x : Str) : DR K ba S (.str x) (.str x)
  | tup {a : Addr} {xs : List V} {ds : List D} : S a = some (.tup xs) → DRs K ba S xs ds → DR K ba S (.ref a) (.tup ds)
  | lst {a : Addr} {xs : List V} {ds : List D} : S a = some (.lst xs) → DRs K ba S xs ds → DR K ba S (.ref a) (.lst ds)
  | fl {a : Addr} {xs : List V} {ds : List D} : SqL K S a xs → DRs K ba S xs ds → DR K ba S (.ref a) (.fl ds)
  | ins {a C dx : Addr} {fs : List (Str × V)} {ns : List Str} {ds : List D} : S a = some (.ins C dx fs) → fs.map (·.1) = ns → DRs K ba S (fs.map (·.2)) ds → DR K ba S (.ref a) (.ins C ns ds)
  | obj (v : V) : DR K ba S v (.obj v)
  | bag {a : Addr} : ba = some a → DR K ba S (.ref a) .bag
  | dct {a : Addr} {o : Obj} {kvs : List (Key × V)} {ks : List Key} {ds : List D} : S a = some (.frz o (.dK kvs)) → kvs.map (·.1) = ks → DRs K ba S (kvs.map (·.2)) ds → DR K ba S (.ref a) (.dct ks ds)
  | dtp {a : Addr} {o : Obj} {kvs : List (List Key × V)} {ks : List (List Key)} {ds : List D} : S a = some (.frz o (.dT kvs)) → kvs.map (·.1) = ks → DRs K ba S (kvs.map (·.2)) ds → DR K ba S (.ref a) (.dtp ks ds)
inductive DRs (K : PySem.W.Frag) (ba : Option Addr) (S : Hp) : List V → List D → Prop
  | nil : DRs K ba S [] []
  | cons {v : V} {vs : List V} {d : D} {ds : List D} : DR K ba S v d → DRs K ba S vs ds → DRs K ba S (v :: vs) (d :: ds)
end

theorem seqT {K : PySem.W.Frag} {H H' : Hp} {a : Addr} {xs : List V} (e : Same H H') (h : H a = some (.tup xs)) : SqT K H' a xs := .inl (.inl (e _ _ h))
section
variable {K : PySem.W.Frag} {ba : Option Addr} {S S' : Hp}
mutual
theorem DR.mono (e : Same S S') : ∀ (d : D) (v : V), DR K ba S v d → DR K ba S' v d
  | .non, _, h => by cases h; exact .non
  | .bl _, _, h => by cases h; exact .bl _
  | .int _, _, h => by cases h; exact .int _
  | .str _, _, h => by cases h; exact .str _
  | .tup ds, _, h => by
    cases h with
    | tup h1 h2 => exact .tup (e _ _ h1) (DRs.mono e ds _ h2)
  | .lst ds, _, h => by
    cases h with
    | lst h1 h2 => exact .lst (e _ _ h1) (DRs.mono e ds _ h2)
  | .fl ds, _, h => by
    cases h with
    | fl h1 h2 => exact .fl (e.seq h1) (DRs.mono e ds _ h2)
  | .ins C ns ds, _, h => by
    cases h with
    | ins h1 h2 h3 => exact .ins (e _ _ h1) h2 (DRs.mono e ds _ h3)
  | .obj _, _, h => by cases h; exact .obj _
  | .bag, _, h => by
    cases h with
    | bag h1 => exact .bag h1
  | .dct ks ds, _, h => by
    cases h with
    | dct h1 h2 h3 => exact .dct (e _ _ h1) h2 (DRs.mono e ds _ h3)
  | .dtp ks ds, _, h => by
    cases h with
    | dtp h1 h2 h3 => exact .dtp (e _ _ h1) h2 (DRs.mono e ds _ h3)
theorem DRs.mono (e : Same S S') : ∀ (ds : List D) (vs : List V), DRs K ba S vs ds → DRs K ba S' vs ds
  | [], _, h => by cases h; exact .nil
  | d :: ds, _, h => by
    cases h with
    | cons h1 h2 => exact .cons (DR.mono e d _ h1) (DRs.mono e ds _ h2)
end
theorem DR.up {v : V} {d : D} (h : DR K ba S v d) (e : Same S S') : DR K ba S' v d := DR.mono e d v h
theorem DRs.up {vs : List V} {ds : List D} (h : DRs K ba S vs ds) (e : Same S S') : DRs K ba S' vs ds := DRs.mono e ds vs h
theorem DRs.length : ∀ {vs : List V} {ds : List D}, DRs K ba S vs ds → vs.length = ds.length
  | _, [], h => by cases h; rfl
  | _, d :: ds, h => by
    cases h with
    | cons _ h2 => simp [DRs.length h2]
theorem DRs.get : ∀ {vs : List V} {ds : List D} {i : Nat} {d : D}, DRs K ba S vs ds → ds[i]? = some d → ∃ v, vs[i]? = some v ∧ DR K ba S v d
  | _, [], i, d, h, e => by simp at e
  | _, d' :: ds, 0, d, h, e => by
    cases h with
    | cons h1 _ => simp at e; subst e; exact ⟨_, rfl, h1⟩
  | _, d' :: ds, i + 1, d, h, e => by
    cases h with
    | cons _ h2 =>
      obtain ⟨v, e1, r⟩ := DRs.get (i := i) h2 (by simpa using e)
      exact ⟨v, by simpa using e1, r⟩
end

/-- an object that is written, told -/
inductive ODR (K : PySem.W.Frag) (ba : Option Addr) (S : Hp) : HO → D → Prop
  | lst {xs : List V} {ds : List D} : DRs K ba S xs ds → ODR K ba S (.lst xs) (.lst ds)
  | ins {C dx : Addr} {fs : List (Str × V)} {ns : List Str} {ds : List D} : fs.map (·.1) = ns → DRs K ba S (fs.map (·.2)) ds → ODR K ba S (.ins C dx fs) (.ins C ns ds)
  | dct {kvs : List (Key × V)} {ks : List Key} {ds : List D} : kvs.map (·.1) = ks → DRs K ba S (kvs.map (·.2)) ds → ODR K ba S (.dK kvs) (.dct ks ds)
  | dtp {kvs : List (List Key × V)} {ks : List (List Key)} {ds : List D} : kvs.map (·.1) = ks → DRs K ba S (kvs.map (·.2)) ds → ODR K ba S (.dT kvs) (.dtp ks ds)
theorem ODR.up {K : PySem.W.Frag} {ba : Option Addr} {S S' : Hp} {u : HO} {d : D} (h : ODR K ba S u d) (e : Same S S') : ODR K ba S' u d := by
  cases h with
  | lst r => exact .lst (r.up e)
  | ins h r => exact .ins h (r.up e)
  | dct h r => exact .dct h (r.up e)
  | dtp h r => exact .dtp h (r.up e)
/-- how an object of ours stands once it is shared: dicts are locked -/
def lockU (o : Obj) : HO → HO
  | .dK kvs => .frz o (.dK kvs)
  | .dT kvs => .frz o (.dT kvs)
  | u => u
/-- a thing of ours is shared as it is, or it must be locked -/
theorem ODR.how {K : PySem.W.Frag} {ba : Option Addr} {S : Hp} {u : HO} {d : D} (h : ODR K ba S u d) : (∀ o, lockU o u = u) ∨ (Mut (some u) ∧ ∀ o, lockU o u = .frz o u) := by
  cases h with
  | lst r => exact .inl fun _ => rfl
  | ins h r => exact .inl fun _ => rfl
  | dct h r => exact .inr ⟨trivial, fun _ => rfl⟩
  | dtp h r => exact .inr ⟨trivial, fun _ => rfl⟩
inductive SD where
  | sh (d : D)
  | ow (d : D)
abbrev Env := List (Option SD)

/-- at a def's entry: the heap, what is shared, the bag's address -/
structure Cq where
  H0 : Hp
  S0 : Hp
  ba : Option Addr

def BagOk (ba : Option Addr) (b : Bag) (S H : Hp) : Prop := ∀ a, ba = some a → H a = some (.lst [.int b.x, .int b.y, .int b.z]) ∧ S a = none

structure Core (C : Cq) (S : Hp) (b : Bag) (H : Hp) : Prop where
  sub : Same S H
  fr : ∀ a o, C.H0 a = some o → C.ba ≠ some a → H a = some o
  bag : BagOk C.ba b S H
  new : ∀ a o, S a = some o → C.S0 a = some o ∨ C.H0 a = none ∨ ∃ xs, o = .tup xs

inductive Slots (K : PySem.W.Frag) (ba : Option Addr) (S H : Hp) : L2.St → Env → List Addr → Prop
  | nil : Slots K ba S H [] [] []
  | no {x : Option V} {σ : L2.St} {ρ : Env} {O : List Addr} : Slots K ba S H σ ρ O → Slots K ba S H (x :: σ) (none :: ρ) O
  | sh {v : V} {d : D} {σ : L2.St} {ρ : Env} {O : List Addr} : DR K ba S v d → Slots K ba S H σ ρ O → Slots K ba S H (some v :: σ) (some (.sh d) :: ρ) O
  | ow {p : Addr} {u : HO} {d : D} {σ : L2.St} {ρ : Env} {O : List Addr} : H p = some u → ODR K ba S u d → Slots K ba S H σ ρ O → Slots K ba S H (some (.ref p) :: σ) (some (.ow d) :: ρ) (p :: O)

structure Own (C : Cq) (S : Hp) (O : List Addr) : Prop where
  nd : O.Nodup
  al : ∀ p ∈ O, S p = none ∧ C.H0 p = none ∧ C.ba ≠ some p

structure OkS (K : PySem.W.Frag) (C : Cq) (S : Hp) (ρ : Env) (b : Bag) (σ : L2.St) (H : Hp) : Prop where
  core : Core C S b H
  sl : ∃ O, Slots K C.ba S H σ ρ O ∧ Own C S O

section
variable {K : PySem.W.Frag} {ba : Option Addr} {S S' H H' : Hp} {σ : L2.St} {ρ : Env} {O : List Addr}
theorem Slots.len (s : Slots K ba S H σ ρ O) : σ.length = ρ.length := by
  induction s with
  | nil => rfl
  | no _ ih => simp [ih]
  | sh _ _ ih => simp [ih]
  | ow _ _ _ ih => simp [ih]
theorem Slots.mono (s : Slots K ba S H σ ρ O) (e : Same S S') (k : ∀ p ∈ O, ∀ u, H p = some u → H' p = some u) : Slots K ba S' H' σ ρ O := by
  induction s with
  | nil => exact .nil
  | no _ ih => exact .no (ih k)
  | sh r _ ih => exact .sh (r.up e) (ih k)
  | ow h1 h2 _ ih => exact .ow (k _ (List.mem_cons_self) _ h1) (h2.up e) (ih fun p hp => k p (List.mem_cons_of_mem _ hp))
theorem Slots.there (s : Slots K ba S H σ ρ O) : ∀ p ∈ O, ∃ u, H p = some u := by
  induction s with
  | nil => intro p hp; cases hp
  | no _ ih => exact ih
  | sh _ _ ih => exact ih
  | ow h1 _ _ ih =>
    intro p hp
    rcases List.mem_cons.mp hp with e | hp
    · subst e; exact ⟨_, h1⟩
    · exact ih p hp
theorem ODR.nt {u : HO} {d : D} (r : ODR K ba S u d) (xs : List V) : u ≠ .tup xs := fun z => by
  subst z
  cases r
theorem Slots.thereO (s : Slots K ba S H σ ρ O) : ∀ p ∈ O, ∃ u, H p = some u ∧ ∀ xs, u ≠ .tup xs := by
  induction s with
  | nil => intro p hp; cases hp
  | no _ ih => exact ih
  | sh _ _ ih => exact ih
  | ow h1 h2 _ ih =>
    intro p hp
    rcases List.mem_cons.mp hp with e | hp
    · subst e; exact ⟨_, h1, h2.nt⟩
    · exact ih p hp
theorem Slots.getSh : ∀ {σ : L2.St} {ρ : Env} {O : List Addr} {i : Nat} {d : D}, Slots K ba S H σ ρ O → ρ[i]? = some (some (.sh d)) → ∃ v, σ[i]? = some (some v) ∧ DR K ba S v d
  | _, _, _, _, _, .nil, e => by simp at e
  | _, _, _, 0, _, .no _, e => by simp at e
  | _, _, _, 0, _, .sh r _, e => by
    simp at e
    subst e
    exact ⟨_, rfl, r⟩
  | _, _, _, 0, _, .ow _ _ _, e => by simp at e
  | _, _, _, i + 1, _, .no s, e => by
    obtain ⟨v, a, r⟩ := Slots.getSh (i := i) s (by simpa using e)
    exact ⟨v, by simpa using a, r⟩
  | _, _, _, i + 1, _, .sh _ s, e => by
    obtain ⟨v, a, r⟩ := Slots.getSh (i := i) s (by simpa using e)
    exact ⟨v, by simpa using a, r⟩
  | _, _, _, i + 1, _, .ow _ _ s, e => by
    obtain ⟨v, a, r⟩ := Slots.getSh (i := i) s (by simpa using e)
    exact ⟨v, by simpa using a, r⟩
theorem Own.sub {C : Cq} {S : Hp} {O O' : List Addr} (w : Own C S O) (l : O'.Sublist O) : Own C S O' := ⟨w.nd.sublist l, fun p hp => w.al p (l.subset hp)⟩
end
end DL

set_option maxHeartbeats 4000000
namespace DL
open PySem PySem.Spec PyProof.Rows L2
section
variable {K : PySem.W.Frag} {C : Cq} {S S' H H' : Hp} {σ : L2.St} {ρ : Env} {b b' : Bag} {p : Addr} {u : HO}
theorem Core.h0 (o : Core C S b H) (hp : H p = none) : C.H0 p = none := by
  cases e : C.H0 p with
  | none => rfl
  | some x =>
    by_cases hb : C.ba = some p
    · rw [(o.bag p hb).1] at hp; cases hp
    · rw [o.fr p x e hb] at hp; cases hp
theorem Core.nba (o : Core C S b H) (hp : H p = none) : C.ba ≠ some p := fun hb => by
  rw [(o.bag p hb).1] at hp; cases hp
theorem Core.sn (o : Core C S b H) (hp : H p = none) : S p = none := o.sub.free hp
theorem same_upd {S : Hp} (hp : S p = none) : Same S (upd S p u) := fun a x e => by
  rw [upd_ne (ne_of_none e hp)]; exact e
theorem Core.allocH (o : Core C S b H) (hp : H p = none) : Core C S b (upd H p u) := by
  refine ⟨fun a x e => ?_, fun a x e hb => ?_, fun a e => ?_, o.new⟩
  · have h := o.sub a x e
    rw [upd_ne (ne_of_none h hp)]; exact h
  · have h := o.fr a x e hb
    rw [upd_ne (ne_of_none h hp)]; exact h
  · obtain ⟨h1, h2⟩ := o.bag a e
    exact ⟨by rw [upd_ne (ne_of_none h1 hp)]; exact h1, h2⟩
theorem OkS.get {i : Nat} {d : D} (o : OkS K C S ρ b σ H) (e : ρ[i]? = some (some (.sh d))) : ∃ v, σ[i]? = some (some v) ∧ DR K C.ba S v d := by
  obtain ⟨O, s, _⟩ := o.sl
  exact s.getSh e
theorem OkS.same (o : OkS K C S ρ b σ H) (hp : H p = none) : Same S (upd S p u) := same_upd (o.core.sn hp)
/-- a fresh list of ours, not shared yet -/
structure OkF (K : PySem.W.Frag) (C : Cq) (S : Hp) (ρ : Env) (b : Bag) (σ : L2.St) (H : Hp) (p : Addr) (u : HO) : Prop where
  core : Core C S b H
  at_ : H p = some u
  sn : S p = none
  h0 : C.H0 p = none
  nba : C.ba ≠ some p
  sl : ∃ O, Slots K C.ba S H σ ρ O ∧ Own C S O ∧ p ∉ O
theorem OkS.fresh (o : OkS K C S ρ b σ H) (hp : H p = none) : OkF K C S ρ b σ (upd H p u) p u := by
  obtain ⟨c, O, s, w⟩ := o
  have ne : ∀ q ∈ O, q ≠ p := fun q hq => by
    obtain ⟨vs, h⟩ := s.there q hq
    exact ne_of_none h hp
  exact ⟨c.allocH hp, upd_same, c.sn hp, c.h0 hp, c.nba hp, O, s.mono (Same.refl _) (fun q hq vs h => by rw [upd_ne (ne q hq)]; exact h), w, fun z => ne p z rfl⟩
theorem OkF.ok (o : OkF K C S ρ b σ H p u) : OkS K C S ρ b σ H := by
  obtain ⟨c, h1, h2, h3, h4, O, s, w, n⟩ := o
  exact ⟨c, O, s, w⟩
theorem OkF.same {u' : HO} (o : OkF K C S ρ b σ H p u) : Same S (upd S p u') := same_upd o.sn
end

def XR (K : PySem.W.Frag) (ba : Option Addr) (S : Hp) (dx : Option Addr) (ns : List Str) (ds : List D) : Prop := match ns with
  | [] => dx = none
  | _ :: _ => ∃ a fs, dx = some a ∧ S a = some (.xd fs) ∧ fs.map (·.1) = ns ∧ DRs K ba S (fs.map (·.2)) ds
/-- an outcome, told: R of what comes, the bag, what is shared, the heap -/
def OutG (K : PySem.W.Frag) (C : Cq) (W : WX) (S : Hp) (ρ : Env) (σ : L2.St) {α : Type} (R : α → Bag → Hp → Hp → Prop) : Out α → Prop
  | .ok a b => ∀ S' H', Same S S' → OkS K C S' ρ b σ H' → R a b S' H'
  | .ex c ns ds => ∀ (dx : Option Addr) (S' H' : Hp) (b : Bag), Same S S' → OkS K C S' ρ b σ H' → XR K C.ba S' dx ns ds → W (.ref c) dx σ H'
  | .stuck => False
section
variable {K : PySem.W.Frag} {C : Cq} {W : WX} {S S1 : Hp} {ρ : Env} {σ : L2.St} {α β : Type}
theorem OutG.up {R : α → Bag → Hp → Hp → Prop} {o : Out α} (h : OutG K C W S ρ σ R o) (e : Same S S1) : OutG K C W S1 ρ σ R o := by
  cases o with
  | ok a b => exact fun S' H' e' => h S' H' (e.trans e')
  | ex c ns ds => exact fun dx S' H' b e' => h dx S' H' b (e.trans e')
  | stuck => exact h
theorem OutG.imp {R R' : α → Bag → Hp → Hp → Prop} {o : Out α} (h : OutG K C W S ρ σ R o) (f : ∀ a b S' H', Same S S' → OkS K C S' ρ b σ H' → R a b S' H' → R' a b S' H') : OutG K C W S ρ σ R' o := by
  cases o with
  | ok a b => exact fun S' H' e' ok => f a b S' H' e' ok (h S' H' e' ok)
  | ex c ns ds => exact h
  | stuck => exact h
theorem OutG.bind {R : β → Bag → Hp → Hp → Prop} {o : Out α} {k : α → Bag → Out β} (h : OutG K C W S ρ σ R (o.bind k)) : OutG K C W S ρ σ (fun a b S' _ => OutG K C W S' ρ σ R (k a b)) o := by
  cases o with
  | ok a b => exact fun S' H' e _ => OutG.up h e
  | ex c ns ds => exact h
  | stuck => exact h
theorem OutG.pureO {R : α → Bag → Hp → Hp → Prop} {o : Option α} {b : Bag} (h : OutG K C W S ρ σ R (Out.pureO o b)) : ∃ a, o = some a ∧ ∀ S' H', Same S S' → OkS K C S' ρ b σ H' → R a b S' H' := by
  cases o with
  | some a => exact ⟨a, rfl, h⟩
  | none => exact h.elim
end

abbrev EF := Env → Bag → Out D
abbrev AF := Env → Bag → Out (List D)

section
variable {X : Cx} {C : Cq} {W : WX} {e a b c : Expr} {pos : Pos} {F Fa Fb Fc : EF}
@[simp] def e2 (f : D → D → Option D) (Fa Fb : EF) : EF := fun ρ b => (Fa ρ b).bind fun x b1 => (Fb ρ b1).bind fun y b2 => Out.pureO (f x y) b2
def Op2 (K : PySem.W.Frag) (C : Cq) (r : R2) (f : D → D → Option D) : Prop := ∀ (S : Hp) (ρ : Env) (b : Bag) (σ : L2.St) (H : Hp) (v w : V) (d e z : D) (Q : VK), OkS K C S ρ b σ H → DR K C.ba S v d → DR K C.ba S w e → f d e = some z →
  (∀ u S' H', Same S S' → OkS K C S' ρ b σ H' → DR K C.ba S' u z → Q u H') → r v w H Q
variable {Ga Gb : BF} {rest : List Expr}
end
end DL

set_option maxHeartbeats 4000000
namespace DL
open PySem PySem.Spec PyProof.Rows L2
inductive SO where
  | nx (ρ : Env) (b : Bag)
  | rt (d : D) (b : Bag)
  | ro (d : D) (b : Bag)
  | bk (ρ : Env) (b : Bag)
  | ct (ρ : Env) (b : Bag)
  | ex (ρ : Env) (c : Addr) (ns : List Str) (ds : List D)
  | stuck
def SOk (K : PySem.W.Frag) (C : Cq) (W : WX) (S : Hp) (E : Ends) : SO → Prop
  | .nx ρ b => ∀ S' σ H, Same S S' → OkS K C S' ρ b σ H → E.nx σ H
  | .rt d b => ∀ S' H v, Same S S' → Core C S' b H → DR K C.ba S' v d → E.rt v H
  | .ro d b => ∀ S' H p u, Same S S' → Core C S' b H → H p = some u → S' p = none → C.H0 p = none → C.ba ≠ some p → ODR K C.ba S' u d → E.rt (.ref p) H
  | .bk ρ b => ∀ S' σ H, Same S S' → OkS K C S' ρ b σ H → E.bk σ H
  | .ct ρ b => ∀ S' σ H, Same S S' → OkS K C S' ρ b σ H → E.ct σ H
  | .ex ρ c ns ds => ∀ (dx : Option Addr) S' σ H b, Same S S' → OkS K C S' ρ b σ H → XR K C.ba S' dx ns ds → W (.ref c) dx σ H
  | .stuck => False
/-- what an expression gives to a statement -/
def Out.st {α : Type} (o : Out α) (ρ : Env) (k : α → Bag → SO) : SO := match o with
  | .ok a b => k a b
  | .ex c ns ds => .ex ρ c ns ds
  | .stuck => .stuck
def SO.seq (o : SO) (k : Env → Bag → SO) : SO := match o with
  | .nx ρ b => k ρ b
  | .rt d b => .rt d b
  | .ro ds b => .ro ds b
  | .bk ρ b => .bk ρ b
  | .ct ρ b => .ct ρ b
  | .ex ρ c ns ds => .ex ρ c ns ds
  | .stuck => .stuck
section
variable {K : PySem.W.Frag} {C : Cq} {W : WX} {S S1 : Hp} {ρ : Env} {σ : L2.St} {E : Ends} {α : Type}
theorem SOk.up {o : SO} (h : SOk K C W S E o) (e : Same S S1) : SOk K C W S1 E o := by
  cases o with
  | nx ρ b => exact fun S' σ H e' => h S' σ H (e.trans e')
  | rt d b => exact fun S' H v e' => h S' H v (e.trans e')
  | ro ds b => exact fun S' H p vs e' => h S' H p vs (e.trans e')
  | bk ρ b => exact fun S' σ H e' => h S' σ H (e.trans e')
  | ct ρ b => exact fun S' σ H e' => h S' σ H (e.trans e')
  | ex ρ c ns ds => exact fun dx S' σ H b e' => h dx S' σ H b (e.trans e')
  | stuck => exact h
theorem SOk.st {o : Out α} {k : α → Bag → SO} (h : SOk K C W S E (o.st ρ k)) : OutG K C W S ρ σ (fun a b S' _ => SOk K C W S' E (k a b)) o := by
  cases o with
  | ok a b => exact fun S' H' e _ => SOk.up h e
  | ex c ns ds => exact fun dx S' H' b e o x => h dx S' σ H' b e o x
  | stuck => exact h
theorem SOk.seq {o : SO} {k : Env → Bag → SO} (h : SOk K C W S E (o.seq k)) : SOk K C W S { E with nx := fun σ H => ∃ S' ρ b, OkS K C S' ρ b σ H ∧ SOk K C W S' E (k ρ b) } o := by
  cases o with
  | nx ρ b => exact fun S' σ H e ok => ⟨S', ρ, b, ok, SOk.up h e⟩
  | rt d b => exact h
  | ro ds b => exact h
  | bk ρ b => exact h
  | ct ρ b => exact h
  | ex ρ c ns ds => exact h
  | stuck => exact h
end
end DL

set_option maxHeartbeats 400000
namespace DL
open PySem PySem.Spec PyProof.Rows L2
section
variable {K : PySem.W.Frag} {C : Cq} {S S' H H' : Hp} {σ : L2.St} {ρ : Env} {b b' : Bag}
def inner (C : Cq) (S H : Hp) : Cq := ⟨H, S, C.ba⟩
theorem Core.inner (c : Core C S b H) : Core (DL.inner C S H) S b H := ⟨c.sub, fun _ _ e _ => e, c.bag, fun _ _ e => .inl e⟩
theorem Core.outer (c : Core C S b H) (d : Core (DL.inner C S H) S' b' H') : Core C S' b' H' := by
  refine ⟨d.sub, fun a o e hb => d.fr a o (c.fr a o e hb) hb, d.bag, fun a o e => ?_⟩
  rcases d.new a o e with h | h | h
  · exact c.new a o h
  · exact .inr (.inl (c.h0 h))
  · exact .inr (.inr h)
theorem OkS.frame (o : OkS K C S ρ b σ H) (d : Core (DL.inner C S H) S' b' H') (e : Same S S') : OkS K C S' ρ b' σ H' := by
  obtain ⟨c, O, s, w⟩ := o
  refine ⟨c.outer d, O, s.mono e (fun p hp u h => d.fr p u h (w.al p hp).2.2), w.nd, fun p hp => ⟨?_, (w.al p hp).2⟩⟩
  cases q : S' p with
  | none => rfl
  | some u =>
    rcases d.new p u q with h | h | ⟨xs, h⟩
    · have z : S p = some u := h
      rw [(w.al p hp).1] at z; cases z
    · obtain ⟨u', hu⟩ := s.there p hp
      have z : H p = none := h
      rw [hu] at z; cases z
    · obtain ⟨u', hu, nt⟩ := s.thereO p hp
      have z := d.sub _ _ q
      rw [d.fr p u' hu (w.al p hp).2.2, h] at z
      exact absurd (Option.some.inj z) (nt xs)
/-- without the owned -/
@[simp] def unown : Env → Env
  | [] => []
  | some (.ow _) :: ρ => none :: unown ρ
  | x :: ρ => x :: unown ρ
theorem Slots.unown {ba : Option Addr} : ∀ {σ : L2.St} {ρ : Env} {O : List Addr}, Slots K ba S H σ ρ O → Slots K ba S H σ (DL.unown ρ) []
  | _, _, _, .nil => .nil
  | _, _, _, .no s => .no (Slots.unown s)
  | _, _, _, .sh r s => .sh r (Slots.unown s)
  | _, _, _, .ow _ _ s => .no (Slots.unown s)
theorem OkS.inner (o : OkS K C S ρ b σ H) : OkS K (DL.inner C S H) S (DL.unown ρ) b σ H := by
  obtain ⟨c, O, s, w⟩ := o
  exact ⟨c.inner, [], s.unown, List.nodup_nil, fun _ h => by cases h⟩
end
def ItD (K : PySem.W.Frag) (ba : Option Addr) (J : It) (ds : List D) (S : Hp) : Prop := ∀ (C : Cq), C.ba = ba → ∀ (i : Nat) (S' : Hp) (ρ : Env) (b : Bag) (σ : L2.St) (H : Hp), Same S S' → OkS K C S' ρ b σ H →
  (∀ d, ds[i]? = some d → J.go i H ∧ ∀ x H', J.yld i H x H' → ∃ S2, Same S' S2 ∧ OkS K C S2 ρ b σ H' ∧ DR K ba S2 x d ∧ (∀ p u, H p = some u → H' p = some u)) ∧ (ds.length = i → J.stop i H)
theorem ItD.up {K : PySem.W.Frag} {ba : Option Addr} {J : It} {ds : List D} {S S1 : Hp} (h : ItD K ba J ds S) (e : Same S S1) : ItD K ba J ds S1 := fun C hC i S' ρ b σ H e' => h C hC i S' ρ b σ H (e.trans e')
end DL

set_option maxHeartbeats 1000000
namespace DL
open PySem PySem.Spec PyProof.Rows L2
variable {Gd Gd' : Around → Prop}
structure FnG (P : Program) (w : World) (K : PySem.W.Frag) (mg : Str → Option Value) (base : Heap) (Gd : Around → Prop) (k : Nat) (f : Addr) (fd : FuncData) (ps : List Str) (sp : Sp) : Prop where
  many : ∀ vs H Q E, sp vs H Q E → vs.length = ps.length
  go : ∀ (A : Around) (fr : List PySem.Env) (s : Shared) (H : Hp) (ar : Args) (us : List Value) (vs : List V) (Q : VK) (E : XK), Room k A → Gd A → Env0 P w K mg base A fr s H → BindsTo s fd ar (ps.zip us) → Vals vs us → sp vs H Q E →
    codeAny (model P w) A (.call (.ref f) ar) (CR (L2.CX P w) fr P w H s Q E) s
section
variable {P : Program} {w : World} {K : PySem.W.Frag} {mg : Str → Option Value} {base : Heap} {k : Nat} {f : Addr} {fd : FuncData} {ps N : List Str} {sp : Sp}
theorem FnG.up {j : Nat} (F : FnG P w K mg base Gd j f fd ps sp) (h : j ≤ k) : FnG P w K mg base Gd k f fd ps sp := ⟨F.many, fun A fr s H ar us vs Q E r => F.go A fr s H ar us vs Q E (r.mono h)⟩
theorem FnG.body {x qual : Str} {st : Stmt} (F : Fun K x qual st f fd) (Sc : FnScope N ps (defScope st)) (many : ∀ vs H Q E, sp vs H Q E → vs.length = ps.length)
    (hb : ∀ (cdv : Value) (A : Around) (fr : List PySem.Env) (s : Shared) (H : Hp) (vs : List V) (Q : VK) (E : XK), Room k (A.deeper (envOfC qual (defScope st) s.heap.objs.size f cdv)) → Gd A → sp vs H Q E →
      ∃ t, PSs (cxOf (L2.CX P w) P w K mg base N qual (defScope st) f cdv A fr s H E) (defBody st) t ∧ t { nx := fun _ H' => Q .non H', rt := Q } (L2.start N vs) H) : FnG P w K mg base Gd (k + 1) f fd ps sp := by
  obtain ⟨oc, od, kV, doc, pm, an, cdv, ct, osl, rfl, lk, hc⟩ := F.ex
  refine ⟨many, fun A fr s H ar us vs Q E room hg e bt rv hs => ?_⟩
  have old : ∀ b o, base.get? b = some o → s.heap.get? b = some o := fun b o q => (e.bs b o q).1
  have kin := e.mod.kin.keeps old
  refine codeAny_call_function room.depth (kin f _ lk) rfl Sc.co Sc.gen rfl (PySem.W.codeRec_of kin hc) (bt _ _ _ _ (wpAny_newFunctionEnv_cells Sc.kind (fun y hy => ?_) fun env he s1 x => ?_))
  · have hm := (List.of_mem_zip (show (y.1, y.2) ∈ ps.zip us from hy)).1
    rcases Sc.par y.1 hm with q | q
    · exact Or.inl q
    · exact Or.inr ⟨q, PySem.W.cellsFrom_some _ _ _ (Or.inl q)⟩
  · subst he
    obtain ⟨t, ht, hq⟩ := hb cdv A fr s H vs Q E (room.deeper _) hg hs
    have start := inv_start (CX := L2.CX P w) (f := f) (qual := qual) (cd := cdv) (E := E) Sc room.hd e (many vs H Q E hs) rv x
    refine ⟨(e.mod.nolimit.keeps old).keeps x.toInCall.keep, codeAny_func (wpAny_mono (ht.run [] s1 _ H _ start hq) (fun fl s' z => ?_) fun _ _ z => z)⟩
    cases fl with
    | brk => obtain ⟨_, _, _, z⟩ := z; exact z.elim
    | cont => obtain ⟨_, _, _, z⟩ := z; exact z.elim
    | next => obtain ⟨_, H', J, z⟩ := z; exact ⟨V.non, H', J.os, J.bare, J.base, J.hok, rfl, z⟩
    | ret u => obtain ⟨v, _, H', J, r, z⟩ := z; exact ⟨v, H', J.os, J.bare, J.base, J.hok, r, z⟩
end
section
variable {X : Cx} {k : Nat} {f : Addr} {fd : FuncData} {ps : List Str} {sp : Sp} {pins : List (Addr × Obj)} {σ : L2.St} {H : Hp} {s : Shared} {Q : VK} {W : WX}
/-- what a code of ours ends with, seen from the caller -/
theorem end_of (tk : Takes X W) (I : Inv X pins σ H s) {r : Result} {s' : Shared} (h : CR (L2.CX X.prog X.w) X.stack X.prog X.w H s Q (fun c d H' => W c d σ H') r s') :
    (∃ u, r = .ok (.ret u) ∧ EP X pins σ Q u s') ∨ ∃ e, r = .error e ∧ X.xe e s' := by
  cases r with
  | error e => exact Or.inr ⟨e, rfl, tk e s' (XE.of_call I (fun _ _ _ z => z) h)⟩
  | ok fl =>
    cases fl with
    | ret u => exact Or.inl ⟨u, rfl, I.after h⟩
    | brk => exact False.elim h
    | cont => exact False.elim h
    | next => exact False.elim h
/-- the callee's run; bt says how what is passed comes to its parameters -/
theorem FnG.at_ (F : FnG X.prog X.w X.K X.mg X.base Gd k f fd ps sp) (room : Room k X.A) (hg : Gd X.A) (tk : Takes X W) (I : Inv X pins σ H s) {us : List Value} {kw : List (Str × Value)} {ws : List Value} {zs : List V} (bt : BindsTo s fd ⟨us, kw⟩ (ps.zip ws)) (r : Vals zs ws)
    (h : sp zs H Q (fun c d H' => W c d σ H')) : wpAny (model X.prog X.w) X.A (call (.ref f) us kw) (EP X pins σ Q) X.xe s := by
  refine wpAny_call (codeAny_mono (F.go X.A X.stack s H ⟨us, kw⟩ ws zs Q _ room hg I.env0 bt r h) fun r s' z => ?_)
  rcases end_of tk I z with ⟨u, rfl, q⟩ | ⟨e, rfl, q⟩
  · exact q
  · exact q
end
end DL

set_option maxHeartbeats 1000000
namespace DL
open PySem PySem.Spec PyProof.Rows L2
mutual
def D.pd : D → Option PyData
  | .non => some .none
  | .bl b => some (.bool b)
  | .int i => some (.int i)
  | .str x => some (.str x)
  | .tup ds => (pds ds).map .tuple
  | .lst ds => (pds ds).map .list
  | .fl ds => (pds ds).map .list
  | .ins _ _ _ => none
  | .obj _ => none
  | .bag => none
  | .dct _ _ => none
  | .dtp _ _ => none
def pds : List D → Option (List PyData)
  | [] => some []
  | d :: ds => match d.pd with
    | some p => (pds ds).map (p :: ·)
    | none => none
end
section
variable {K : PySem.W.Frag} {ba : Option Addr} {S H : Hp}
mutual
theorem DR.dp (e : Same S H) : ∀ (d : D) (v : V) (p : PyData), DR K ba S v d → d.pd = some p → Dp K H v p
  | .non, _, _, h, q => by
    simp only [D.pd, Option.some.injEq] at q
    subst q; cases h; exact .non
  | .bl _, _, _, h, q => by
    simp only [D.pd, Option.some.injEq] at q
    subst q; cases h; exact .bl _
  | .int _, _, _, h, q => by
    simp only [D.pd, Option.some.injEq] at q
    subst q; cases h; exact .int _
  | .str _, _, _, h, q => by
    simp only [D.pd, Option.some.injEq] at q
    subst q; cases h; exact .str _
  | .tup ds, _, _, h, q => by
    simp only [D.pd, Option.map_eq_some_iff] at q
    obtain ⟨ps, hp, rfl⟩ := q
    cases h with
    | tup h1 h2 => exact .tup (seqT e h1) (DRs.dp e ds _ _ h2 hp)
  | .lst ds, _, _, h, q => by
    simp only [D.pd, Option.map_eq_some_iff] at q
    obtain ⟨ps, hp, rfl⟩ := q
    cases h with
    | lst h1 h2 => exact .lst (SqL.of (e _ _ h1)) (DRs.dp e ds _ _ h2 hp)
  | .fl ds, _, _, h, q => by
    simp only [D.pd, Option.map_eq_some_iff] at q
    obtain ⟨ps, hp, rfl⟩ := q
    cases h with
    | fl h1 h2 => exact .lst (e.seq h1) (DRs.dp e ds _ _ h2 hp)
  | .ins _ _ _, _, _, _, q => by simp [D.pd] at q
  | .obj _, _, _, _, q => by simp [D.pd] at q
  | .bag, _, _, _, q => by simp [D.pd] at q
  | .dct _ _, _, _, _, q => by simp [D.pd] at q
  | .dtp _ _, _, _, _, q => by simp [D.pd] at q
theorem DRs.dp (e : Same S H) : ∀ (ds : List D) (vs : List V) (ps : List PyData), DRs K ba S vs ds → pds ds = some ps → DpAll K H vs ps
  | [], _, _, h, q => by
    simp only [pds, Option.some.injEq] at q
    subst q; cases h; exact .nil
  | d :: ds, _, _, h, q => by
    cases h with
    | cons h1 h2 =>
      unfold pds at q
      cases hd : d.pd with
      | none => rw [hd] at q; simp at q
      | some p =>
        rw [hd] at q
        simp only [Option.map_eq_some_iff] at q
        obtain ⟨ps', hp, rfl⟩ := q
        exact .cons (DR.dp e d _ _ h1 hd) (DRs.dp e ds _ _ h2 hp)
end
end
section
variable {X : Cx} {C : Cq} {W : WX} {e a b : Expr} {pos : Pos} {F Fa Fb : EF} {G : AF}
theorem i2 {K : PySem.W.Frag} {f : D → D → Option D} {Cc : Int → Int → Prop} {g : Int → Int → V} {g' : Int → Int → D} (hf : ∀ d e z, f d e = some z → ∃ i j, d = .int i ∧ e = .int j ∧ Cc i j ∧ z = g' i j) (hg : ∀ S i j, DR K C.ba S (g i j) (g' i j)) : Op2 K C (rI Cc g) f := by
  intro S ρ b σ H v w d e z Q ok r1 r2 hz q
  obtain ⟨i, j, rfl, rfl, hc, rfl⟩ := hf _ _ _ hz
  cases r1; cases r2
  exact ⟨i, j, rfl, rfl, hc, q _ S H (Same.refl _) ok (hg S i j)⟩
@[simp] def e1 (f : D → Option D) (Fa : EF) : EF := fun ρ b => (Fa ρ b).bind fun x b1 => Out.pureO (f x) b1
end
end DL

set_option maxHeartbeats 1000000
namespace DL
open PySem PySem.Spec PyProof.Rows L2
section
variable {X : Cx} {C : Cq} {W : WX} {e a b : Expr} {pos : Pos} {F Fa Fb : EF} {G : AF}
@[simp] def Bag.ds (b : Bag) : List D := [.int b.x, .int b.y, .int b.z]
theorem DRs.atI {K : PySem.W.Frag} {ba : Option Addr} {S : Hp} {vs : List V} {ds : List D} {i : Int} {d : D} (h : DRs K ba S vs ds) (e : atI ds i = some d) : ∃ v, L2.atI vs i = some v ∧ DR K ba S v d := by
  unfold L2.atI at e ⊢
  rw [h.length]
  cases hi : ixN ds.length i with
  | none => rw [hi] at e; cases e
  | some j =>
    rw [hi] at e
    exact h.get e
end
end DL

set_option maxHeartbeats 1000000
namespace DL
open PySem PySem.Spec PyProof.Rows L2
section
variable {X : Cx} {C : Cq} {W : WX} {st : Stmt} {e a b o : Expr} {es : List Expr} {pos apos cpos : Pos} {F Fa Fb : EF} {G : AF}
theorem OkF.frame {K : PySem.W.Frag} {S S' H H' : Hp} {ρ : Env} {b b' : Bag} {σ : L2.St} {p : Addr} {u : HO} (o : OkF K C S ρ b σ H p u) (d : Core (inner C S H) S' b' H') (es : Same S S') (nt : ∀ xs, u ≠ .tup xs := by first | (intro _ z; cases z; done) | (intro _ z; subst z; cases ‹ODR _ _ _ (.tup _) _›)) : OkF K C S' ρ b' σ H' p u := by
  obtain ⟨c, h1, h2, h3, h4, O, s, w, n⟩ := o
  have none_of : ∀ q u, S q = none → H q = some u → C.ba ≠ some q → (∀ xs, u ≠ .tup xs) → S' q = none := fun q u hS hH hb nt => by
    cases z : S' q with
    | none => rfl
    | some v =>
      rcases d.new q v z with y | y | ⟨ys, y⟩
      · have y' : S q = some v := y
        rw [hS] at y'; cases y'
      · have y' : H q = none := y
        rw [hH] at y'; cases y'
      · have y' := d.sub _ _ z
        rw [d.fr q u hH hb, y] at y'
        exact absurd (Option.some.inj y') (nt ys)
  refine ⟨c.outer d, d.fr p u h1 h4, none_of p u h2 h1 h4 nt, h3, h4, O, s.mono es (fun q hq v h => d.fr q v h (w.al q hq).2.2), ⟨w.nd, fun q hq => ⟨?_, (w.al q hq).2⟩⟩, n⟩
  obtain ⟨v, hv, nv⟩ := s.thereO q hq
  exact none_of q v (w.al q hq).1 hv (w.al q hq).2.2 nv
end
end DL

set_option maxHeartbeats 2000000

set_option maxHeartbeats 1000000

set_option maxHeartbeats 1000000

set_option maxHeartbeats 1000000
namespace DL
open PySem PySem.Spec PyProof.Rows L2
abbrev IO := Out (List Str × List D)
def IOk (K : PySem.W.Frag) (C : Cq) (W : WX) (A x : Addr) (S : Hp) (E : Ends) : IO → Prop
  | .ok z b => ∀ S' σ H dx fs, Same S S' → Core C S' b H → H x = some (.ins A dx fs) → S' x = none → fs.map (·.1) = z.1 → DRs K C.ba S' (fs.map (·.2)) z.2 → E.nx σ H
  | .ex c ns ds => ∀ (dx : Option Addr) S' σ H b, Same S S' → Core C S' b H → XR K C.ba S' dx ns ds → W (.ref c) dx σ H
  | .stuck => False
theorem IOk.up {K : PySem.W.Frag} {C : Cq} {W : WX} {A x : Addr} {S S1 : Hp} {E : Ends} {o : IO} (h : IOk K C W A x S E o) (e : Same S S1) : IOk K C W A x S1 E o := by
  cases o with
  | ok z b => exact fun S' σ H dx fs e' => h S' σ H dx fs (e.trans e')
  | ex c ns ds => exact fun dx S' σ H b e' => h dx S' σ H b (e.trans e')
  | stuck => exact h
end DL

set_option maxHeartbeats 1000000
namespace DL
open PySem PySem.Spec PyProof.Rows L2
section
variable {X : Cx} {C : Cq} {W : WX} {st : Stmt} {e a b c o tg l : Expr} {es : List Expr} {pos apos cpos : Pos} {F Fa Fb Fc : EF} {G : AF}
theorem OkF.allocH {K : PySem.W.Frag} {S H : Hp} {ρ : Env} {b : Bag} {σ : L2.St} {p q : Addr} {u t : HO} (o : OkF K C S ρ b σ H p u) (hq : H q = none) : OkF K C S ρ b σ (upd H q t) p u := by
  obtain ⟨c, h1, h2, h3, h4, O, s, w, n⟩ := o
  refine ⟨c.allocH hq, ?_, h2, h3, h4, O, s.mono (Same.refl _) (fun r hr v h => ?_), w, n⟩
  · rw [upd_ne (ne_of_none h1 hq)]; exact h1
  · rw [upd_ne (ne_of_none h hq)]; exact h
end
end DL

set_option maxHeartbeats 1000000
namespace DL
open PySem PySem.Spec PyProof.Rows L2
structure QD where
  at_ : PySem.W.Frag → Addr
  name : Str
  qual : Str
  st : Stmt
def fnV (K : PySem.W.Frag) (a : Addr) : He.FnW := match K.lookup a with
  | some ⟨_, _, .func fd, _⟩ => some (fd.name, fd.qualname, fd.params, fd.body, fd.scope, fd.globals, fd.closure, fd.builtins)
  | _ => none
def QD.val (d : QD) : He.FnW := some (d.name, d.qual, defArgs d.st, .stmts (defBody d.st), defScope d.st, mainGlobals, [], builtinsNs)
def noneV : Value → Bool
  | .none => true
  | _ => false
def QD.ok (K : PySem.W.Frag) (d : QD) : Bool := PySem.W.keepIn K (.ref (d.at_ K)) && (match K.lookup (d.at_ K) with
  | some ⟨_, _, .func fd, _⟩ => PySem.W.codeIn K fd.code d.qual && noneV fd.defaults
  | _ => false)
theorem QD.get {K : PySem.W.Frag} {d : QD} (e : fnV K (d.at_ K) = d.val) (c : d.ok K = true) : ∃ fd, Fun K d.name d.qual d.st (d.at_ K) fd := by
  unfold QD.ok at c
  rw [Bool.and_eq_true] at c
  obtain ⟨kp, c⟩ := c
  unfold fnV at e
  cases q : K.lookup (d.at_ K) with
  | none => rw [q] at c; cases c
  | some o =>
    obtain ⟨oc, od, dt, osl⟩ := o
    rw [q] at c e
    cases dt with
    | func fd =>
      obtain ⟨n1, n2, n3, n4, n5, n6, n7, n8, n9, n10, n11, n12, n13, n14, n15⟩ := fd
      have e : (some (n1, n2, n3, n4, n5, n6, n7, n15) : He.FnW) = d.val := e
      unfold QD.val at e
      simp only [Option.some.injEq, Prod.mk.injEq] at e
      obtain ⟨h1, h2, h3, h4, h5, h6, h7, h8⟩ := e
      subst h1 h2 h3 h4 h5 h6 h7 h8
      have c : (PySem.W.codeIn K n13 d.qual && noneV n8) = true := c
      rw [Bool.and_eq_true] at c
      obtain ⟨c1, c2⟩ := c
      cases n8 <;> first | cases c2 | skip
      exact ⟨_, ⟨oc, od, n9, n10, n11, n12, n13, n14, osl, rfl, q, c1⟩, kp⟩
    | _ => cases c
abbrev QA : Type := Bool × List He.FnW
def obK (fn : List QD) (ex : PySem.W.Frag → Bool) (K : PySem.W.Frag) : QA := (ex K && fn.all fun d => d.ok K, fn.map fun d => fnV K (d.at_ K))
def vaK (fn : List QD) : QA := (true, fn.map QD.val)
end DL

set_option maxHeartbeats 1000000
namespace DL
open PySem PySem.Spec PyProof.Rows L2
section
variable {α β : Type} {a : α} {b : Bag} {k : α → Bag → Out β} {c : Addr} {ns : List Str} {ds : List D} {ρ : Env} {ks : α → Bag → SO} {kr : Env → Bag → SO} {d : D}
theorem atI_nat {xs : List α} {i : Nat} {x : α} (h : xs[i]? = some x) : atI xs (i : Int) = some x := by
  have hl : i < xs.length := (List.getElem?_eq_some_iff.mp h).1
  have : (i : Int) < (xs.length : Int) := by omega
  simp [atI, ixN, this, h]
end
end DL

set_option maxHeartbeats 1000000
namespace DL
open PySem PySem.Spec PyProof.Rows L2
def topI : Int → List Int → Int
  | m, [] => m
  | m, i :: is => topI (if m < i then i else m) is
theorem topI_ge : ∀ (is : List Int) (m : Int), m ≤ topI m is ∧ (∀ y ∈ is, y ≤ topI m is) ∧ (topI m is = m ∨ topI m is ∈ is)
  | [], m => ⟨Int.le_refl _, fun _ h => (by cases h), .inl rfl⟩
  | i :: is, m => by
    obtain ⟨h1, h2, h3⟩ := topI_ge is (if m < i then i else m)
    unfold topI
    by_cases h : m < i
    · rw [if_pos h] at h1 h2 h3 ⊢
      exact ⟨by omega, fun y hy => (List.mem_cons.mp hy).elim (fun e => by rw [e]; exact h1) (h2 y), .inr (h3.elim (fun e => by rw [e]; exact List.mem_cons_self) (List.mem_cons_of_mem _))⟩
    · rw [if_neg h] at h1 h2 h3 ⊢
      exact ⟨h1, fun y hy => (List.mem_cons.mp hy).elim (fun e => by rw [e]; omega) (h2 y), h3.elim .inl fun z => .inr (List.mem_cons_of_mem _ z)⟩
end DL

set_option maxHeartbeats 1000000

set_option maxHeartbeats 1000000

set_option maxHeartbeats 1000000

set_option maxHeartbeats 2000000

set_option maxHeartbeats 1000000

set_option maxHeartbeats 2000000

set_option maxHeartbeats 2000000

set_option maxHeartbeats 1000000

set_option maxHeartbeats 1000000

set_option maxHeartbeats 1000000

set_option maxHeartbeats 2000000

set_option maxHeartbeats 2000000

set_option maxHeartbeats 2000000

set_option maxHeartbeats 2000000

set_option maxHeartbeats 2000000

set_option maxHeartbeats 2000000

set_option maxHeartbeats 2000000

set_option maxHeartbeats 2000000

set_option maxHeartbeats 1000000

set_option maxHeartbeats 1000000
namespace DL
open PySem PySem.Spec PyProof.Rows L2
section
variable {K : PySem.W.Frag} {C : Cq} {ba : Option Addr} {S S' H H' : Hp} {b b' : Bag}
theorem Slots.append {σ' : L2.St} {ρ' : Env} {O' : List Addr} : ∀ {σ : L2.St} {ρ : Env} {O : List Addr}, Slots K ba S H σ ρ O → Slots K ba S H σ' ρ' O' → Slots K ba S H (σ ++ σ') (ρ ++ ρ') (O ++ O')
  | _, _, _, .nil, h' => h'
  | _, _, _, .no s, h' => .no (Slots.append s h')
  | _, _, _, .sh r s, h' => .sh r (Slots.append s h')
  | _, _, _, .ow h1 h2 s, h' => .ow h1 h2 (Slots.append s h')
theorem Slots.split {σ' : L2.St} {ρ' : Env} : ∀ {σ : L2.St} {ρ : Env} {O : List Addr}, σ.length = ρ.length → Slots K ba S H (σ ++ σ') (ρ ++ ρ') O → ∃ O1 O2, O = O1 ++ O2 ∧ Slots K ba S H σ ρ O1 ∧ Slots K ba S H σ' ρ' O2
  | [], [], O, _, h => ⟨[], O, rfl, .nil, h⟩
  | [], _ :: _, _, hl, _ => by simp at hl
  | _ :: _, [], _, hl, _ => by simp at hl
  | x :: σ, y :: ρ, O, hl, h => by
    have hl2 : σ.length = ρ.length := by simpa using hl
    rw [List.cons_append, List.cons_append] at h
    cases h with
    | no s =>
      obtain ⟨O1, O2, e, h1, h2⟩ := Slots.split hl2 s
      exact ⟨O1, O2, e, .no h1, h2⟩
    | sh r s =>
      obtain ⟨O1, O2, e, h1, h2⟩ := Slots.split hl2 s
      exact ⟨O1, O2, e, .sh r h1, h2⟩
    | ow g1 g2 s =>
      obtain ⟨O1, O2, e, h1, h2⟩ := Slots.split hl2 s
      exact ⟨_ :: O1, O2, by rw [e]; rfl, .ow g1 g2 h1, h2⟩
end
section
variable {X : Cx} {C : Cq} {W : WX} {st : Stmt}
theorem OkS.len {K : PySem.W.Frag} {S H : Hp} {ρ : Env} {b : Bag} {σ : L2.St} (o : OkS K C S ρ b σ H) : σ.length = ρ.length := by
  obtain ⟨c, O, s, w⟩ := o
  exact s.len
end
end DL

set_option maxHeartbeats 1000000

set_option maxHeartbeats 1000000

set_option maxHeartbeats 1000000

set_option maxHeartbeats 2000000

set_option maxHeartbeats 2000000

set_option maxHeartbeats 1000000

set_option maxHeartbeats 1000000

set_option maxHeartbeats 2000000

set_option maxHeartbeats 2000000

set_option maxHeartbeats 4000000
namespace SrtO
open PySem PyProof.Rows Srt
section
variable {prog : Program} {w : World} {A : Around} {E : Value → Shared → Prop} {s : Shared}
def IsPairS (h : Heap) (v : Value) (x : PySem.Str) (y : Int) : Prop := ∃ a o t u n, v = .ref a ∧ h.get? a = some o ∧ o.cls = .type "tuple" ∧ o.data = .seq #[.str x t, .int y u] n
theorem IsPairS.keeps {h h' : Heap} {v : Value} {x : PySem.Str} {y : Int} (p : IsPairS h v x y) (k : ∀ b o, h.get? b = some o → o.cls = .type "tuple" → h'.get? b = some o) : IsPairS h' v x y := by
  obtain ⟨a, o, t, u, n, e, ho, hc, hd⟩ := p
  exact ⟨a, o, t, u, n, e, k _ _ ho hc, hc, hd⟩
def lexT (p q : PySem.Str × Int) : Bool := if p.1 = q.1 then decide (p.2 < q.2) else decide (p.1.cps.toList < q.1.cps.toList)
end
end SrtO

set_option maxHeartbeats 1000000
namespace DL
open PySem PySem.Spec PyProof.Rows L2
open SrtO (lexT Swo Stb Srtd)
/-- what stands behind the items -/
inductive ItT (K : PySem.W.Frag) (H : Hp) : List V → List (Str × Int) → Prop
  | nil : ItT K H [] []
  | cons {t : Addr} {p : Str × Int} {vs : List V} {l : List (Str × Int)} : SqT K H t [.str p.1, .int p.2] → ItT K H vs l → ItT K H (.ref t :: vs) (p :: l)
open Classical in
noncomputable def keyOf (K : PySem.W.Frag) (H : Hp) (v : V) : Str × Int := if h : ∃ (p : Str × Int) (t : Addr), v = .ref t ∧ SqT K H t [.str p.1, .int p.2] then h.choose else ("", 0)
theorem ItT.all {K : PySem.W.Frag} {H : Hp} : ∀ {vs : List V} {l : List (Str × Int)}, ItT K H vs l → (∀ v ∈ vs, ∃ (p : Str × Int) (t : Addr), v = .ref t ∧ SqT K H t [.str p.1, .int p.2])
  | _, _, .nil => fun v h => by cases h
  | _, _, .cons h r => fun v hv => by
    rcases List.mem_cons.mp hv with rfl | hv
    · exact ⟨_, _, rfl, h⟩
    · exact r.all v hv
theorem ItT.of {K : PySem.W.Frag} {H : Hp} : ∀ (ys : List V), (∀ v ∈ ys, ∃ t, v = .ref t ∧ SqT K H t [.str (keyOf K H v).1, .int (keyOf K H v).2]) → ItT K H ys (ys.map (keyOf K H))
  | [], _ => .nil
  | y :: ys, h => by
    have h1 := h y List.mem_cons_self
    have h2 := ItT.of ys fun v hv => h v (List.mem_cons_of_mem _ hv)
    obtain ⟨t, e, h1⟩ := h1
    rw [List.map_cons]
    generalize keyOf K H y = p at h1 ⊢
    subst e
    exact .cons h1 h2
end DL

set_option maxHeartbeats 1000000

set_option maxHeartbeats 2000000

set_option maxHeartbeats 2000000

set_option maxHeartbeats 2000000

set_option maxHeartbeats 2000000

set_option maxHeartbeats 2000000

set_option maxHeartbeats 1000000

set_option maxHeartbeats 1000000

set_option maxHeartbeats 1000000

set_option maxHeartbeats 2000000

set_option maxHeartbeats 2000000

set_option maxHeartbeats 2000000

set_option maxHeartbeats 2000000

set_option maxHeartbeats 2000000

set_option maxHeartbeats 1000000

set_option maxHeartbeats 2000000

set_option maxHeartbeats 1000000

set_option maxHeartbeats 2000000
namespace LzZ
open PySem PySem.Spec PyProof.Rows L2 PySem.W
section
variable {prog : Program} {w : World} {A : Around} {E : Value → Shared → Prop} {s : Shared} {z TI TO i1 i2 T : Addr} {fp1 fp2 : List Addr} {n1 n2 i : Nat} {P1 P2 : Nat → Value → Prop} {St1 St2 : Nat → Heap → Prop} {a1 a2 : Value} {f : Bool} {oT : Obj}
def ZSt (z TI TO i1 i2 L : Addr) (St1 St2 : Nat → Heap → Prop) (i : Nat) (h : Heap) : Prop :=
  IsTupOf2 h TI (.ref i1) (.ref i2) ∧ St1 i h ∧ St2 i h ∧ ((IsZip h z TI TO .none ∧ ∃ a b, IsTupOf2 h TO a b) ∨ ∃ T f oT, IsZipHeld h z TI TO T f ∧ h.get? T = some oT ∧ T ≠ z ∧ T ≠ i1 ∧ T ≠ i2 ∧ T ≠ L)
structure Off (z TI TO : Addr) (fp1 fp2 : List Addr) (L : Addr) : Prop where
  z : L ≠ z
  TI : L ≠ TI
  TO : L ≠ TO
  f1 : L ∉ fp1
  f2 : L ∉ fp2
theorem ZSt.keep {L : Addr} {h h' : Heap} (D1 : Draws prog w A.in1 i1 fp1 n1 P1 St1) (D2 : Draws prog w A.in1 i2 fp2 n2 P2 St2) (o : Off z TI TO fp1 fp2 L) (x : ZSt z TI TO i1 i2 L St1 St2 i h) (hk : ∀ b o, b ≠ L → h.get? b = some o → h'.get? b = some o) : ZSt z TI TO i1 i2 L St1 St2 i h' := by
  obtain ⟨hTI, s1, s2, hz⟩ := x
  refine ⟨hk _ _ o.TI.symm hTI, D1.frame _ _ _ s1 fun b hb u e => hk b u (fun q => o.f1 (q ▸ hb)) e, D2.frame _ _ _ s2 fun b hb u e => hk b u (fun q => o.f2 (q ▸ hb)) e, ?_⟩
  rcases hz with ⟨hz, a, b, hTO⟩ | ⟨T, f, oT, hz, hT, r1, r2, r3, r4⟩
  · exact .inl ⟨hk _ _ o.z.symm hz, a, b, hk _ _ o.TO.symm hTO⟩
  · exact .inr ⟨T, f, oT, hk _ _ o.z.symm hz, hk _ _ r4 hT, r1, r2, r3, r4⟩
end
/-- the tuples that were made -/
structure Made (P1 P2 : Nat → Value → Prop) (lo : Addr) (h : Heap) (as : List Addr) : Prop where
  rise : as.Pairwise (· < ·)
  above : ∀ a ∈ as, lo ≤ a
  pairs : ∀ (j : Nat) (a : Addr), as[j]? = some a → ∃ x y, P1 j x ∧ P2 j y ∧ IsTupOf2 h a x y
theorem Made.there {P1 P2 : Nat → Value → Prop} {lo : Addr} {h : Heap} {as : List Addr} (g : Made P1 P2 lo h as) {a : Addr} (ha : a ∈ as) : a < h.objs.size := by
  obtain ⟨j, hj⟩ := List.mem_iff_getElem?.mp ha
  obtain ⟨_, _, _, _, e⟩ := g.pairs j a hj
  exact Heap.lt_size e
end LzZ

set_option maxHeartbeats 2000000

set_option maxHeartbeats 2000000

set_option maxHeartbeats 2000000

set_option maxHeartbeats 2000000

set_option maxHeartbeats 2000000
namespace DL
open PySem PySem.Spec PyProof.Rows L2
def top (i : Nat) : Stmt := PySem.Challenge.pw_guardhopes_k31_whole_jams_by_loops.main.body.getD i (.Pass ⟨0, 0, 0, 0⟩)
section
variable {P : Program} {w : World} {K : PySem.W.Frag} {mg : Str → Option Value} {base : Heap} {M fa : Addr} {fd : FuncData}
abbrev s__law_draw : Stmt := (top 46)
abbrev s__law_pick : Stmt := (top 47)
abbrev s__law_tool : Stmt := (top 48)
abbrev s_is_letters : Stmt := (top 15)
abbrev s_is_number : Stmt := (top 14)
abbrev s_is_state : Stmt := (top 16)
abbrev s_first_wrong_state : Stmt := (top 17)
abbrev s_Machine_init : Stmt := (inClass (top 21) 0)
abbrev s__law_made : Stmt := (top 49)
abbrev s__law_pairs_v2 : Stmt := (top 56)
abbrev s__law_reached_v3 : Stmt := (top 53)
abbrev s__law_is_loop_v2 : Stmt := (top 54)
abbrev s__law_loops_v3 : Stmt := (top 55)
abbrev s__law_tops : Stmt := (top 57)
abbrev s__law_even_starts : Stmt := (top 60)
abbrev s__law_words : Stmt := (top 62)
abbrev s__law_walk_v2 : Stmt := (top 50)
abbrev s__law_end_v2 : Stmt := (top 51)
abbrev s__law_is_fine : Stmt := (top 61)
abbrev s__law_due_v2 : Stmt := (top 63)
abbrev s_check_machine : Stmt := (top 22)
abbrev s_check_pair : Stmt := (top 37)
abbrev s_Machine_len_ : Stmt := (inClass (top 21) 4)
abbrev s_pair_arrows : Stmt := (top 38)
abbrev s_pair_colours : Stmt := (top 39)
abbrev s_bits_ahead : Stmt := (top 30)
abbrev s_greatest_loops : Stmt := (top 31)
abbrev s_without_wrong_top : Stmt := (top 32)
abbrev s_loops_as_asked : Stmt := (top 33)
abbrev s_leading_to : Stmt := (top 29)
abbrev s_arrows_of : Stmt := (top 25)
abbrev s_colours_of : Stmt := (top 26)
abbrev s_leading_to_loops : Stmt := (top 34)
abbrev s_live : Stmt := (top 35)
abbrev s_stuck_pairs : Stmt := (top 41)
abbrev s_words_from : Stmt := (top 27)
abbrev s_first_word_to : Stmt := (top 28)
abbrev s_jam : Stmt := (top 42)
abbrev s_in_step : Stmt := (top 43)
abbrev s__law_right : Stmt := (top 64)
abbrev s__law_purse : Stmt := (top 45)
abbrev s_law : Stmt := (top 65)
end
end DL

set_option maxHeartbeats 1000000
namespace DL
open PySem PySem.Spec PyProof.Rows L2
def obL (as : List Addr) (fn : List QD) (ex : PySem.W.Frag → Bool) (g : Addr → Option Obj) : QA := obK fn ex (He.frG g as)
def hookL (as : List Addr) (fn : List QD) (ex : PySem.W.Frag → Bool) : PySem.W.Hook where
  α := QA
  obs := fun s => obL as fn ex s.heap.get?
  val := fun _ => vaK fn
  says := fun _ h => ∃ K : PySem.W.Frag, K.In h ∧ obK fn ex K = vaK fn
  of := fun _ _ e => ⟨_, He.frG_in, e⟩
  keeps := fun _ _ _ ⟨K, h, c⟩ k => ⟨K, PySem.W.Frag.In.keeps h k, c⟩
end DL

set_option maxHeartbeats 0
namespace DL
open PySem PySem.Spec PyProof.Rows L2
def getA (K : PySem.W.Frag) (A : Addr) (f : Str) : Addr := match PySem.W.recIn K (He.ma K A f) "property" with
  | some (.ref g :: _) => g
  | _ => 0
def isGet (K : PySem.W.Frag) (A : Addr) (f : Str) : Bool := He.eqO (PySem.W.findIn K (.ref A) f) (some (some (.ref (He.ma K A f)))) && (He.eqO (PySem.W.specialIn K (.ref (He.ma K A f)) "__get__") (some (some (.builtin "property.__get__"))) && (decide (PySem.W.takesIn K (.ref (He.ma K A f)) = some true) && (match PySem.W.recIn K (He.ma K A f) "property" with
  | some (.ref _ :: _) => true
  | _ => false)))
def isI (K : PySem.W.Frag) (A : Addr) : Bool := He.eqO (PySem.W.findIn K (.ref A) "__class__") (some (some (.builtin "object.__class__"))) && (He.eqO (PySem.W.specialIn K (.builtin "object.__class__") "__get__") (some (some (.builtin "getset_descriptor.__get__"))) && (decide (PySem.W.takesIn K (.builtin "object.__class__") = some true) && decide (PySem.W.mroIn K A (.type "object") = some true)))
def kinds : List String := ["NoneType", "bool", "int", "str", "tuple", "list"]
def isK (K : PySem.W.Frag) (A : Addr) : Bool := (["str", "int", "bool", "tuple"].all fun n => decide (PySem.W.kitOne K (.ref A) (.type n) = some false)) && (decide (PySem.W.kitOne K (.ref A) (.ref A) = some true) && kinds.all fun n => decide (PySem.W.kitOne K (.type n) (.ref A) = some false))
def exL : List He.Fa := [.free "abs", .free "all", .free "any", .free "bool", .free "dict", .free "divmod", .free "enumerate", .free "int", .free "isinstance", .free "len", .free "list", .free "max", .free "min", .free "range", .free "repr", .free "str", .free "sum", .free "tuple", .free "zip", .int "EVEN" 0, .int "MOST_COLOUR" 6, .int "MOST_LETTERS" 3, .int "MOST_STATES" 6, .str "ALPHABET" "abcdefghijklmnopqrstuvwxyz", .glo "Machine", .glo "_law_draw", .glo "_law_pick", .glo "_law_tool", .glo "is_letters", .glo "is_number", .glo "is_state", .glo "first_wrong_state", .glo "_law_made", .glo "_law_pairs", .glo "_law_reached", .glo "_law_is_loop", .glo "_law_loops", .glo "_law_tops", .glo "_law_even_starts", .glo "_law_words", .glo "_law_walk", .glo "_law_end", .glo "_law_is_fine", .glo "_law_due", .glo "check_machine", .glo "check_pair", .glo "pair_arrows", .glo "pair_colours", .glo "bits_ahead", .glo "greatest_loops", .glo "without_wrong_top", .glo "loops_as_asked", .glo "leading_to", .glo "arrows_of", .glo "colours_of", .glo "leading_to_loops", .glo "live", .glo "stuck_pairs", .glo "words_from", .glo "first_word_to", .glo "jam", .glo "in_step", .glo "_law_right", .glo "_law_purse", .glo "law", .meth "Machine" "__len__", .cls "Machine", .noat "Machine" "_letters", .noat "Machine" "_states", .mkr "Machine"]
def exK (K : PySem.W.Frag) : Bool := (exL.all fun f => f.ok K) && (isGet K (He.ga K "Machine") "letters" && (isGet K (He.ga K "Machine") "states" && (isI K (He.ga K "Machine") && isK K (He.ga K "Machine"))))
def fns : List QD := [⟨fun K => He.ga K "_law_draw", "_law_draw", "_law_draw", s__law_draw⟩,
  ⟨fun K => He.ga K "_law_pick", "_law_pick", "_law_pick", s__law_pick⟩,
  ⟨fun K => He.ga K "_law_tool", "_law_tool", "_law_tool", s__law_tool⟩,
  ⟨fun K => He.ga K "is_letters", "is_letters", "is_letters", s_is_letters⟩,
  ⟨fun K => He.ga K "is_number", "is_number", "is_number", s_is_number⟩,
  ⟨fun K => He.ga K "is_state", "is_state", "is_state", s_is_state⟩,
  ⟨fun K => He.ga K "first_wrong_state", "first_wrong_state", "first_wrong_state", s_first_wrong_state⟩,
  ⟨fun K => He.ga K "_law_made", "_law_made", "_law_made", s__law_made⟩,
  ⟨fun K => He.ga K "_law_pairs", "_law_pairs", "_law_pairs", s__law_pairs_v2⟩,
  ⟨fun K => He.ga K "_law_reached", "_law_reached", "_law_reached", s__law_reached_v3⟩,
  ⟨fun K => He.ga K "_law_is_loop", "_law_is_loop", "_law_is_loop", s__law_is_loop_v2⟩,
  ⟨fun K => He.ga K "_law_loops", "_law_loops", "_law_loops", s__law_loops_v3⟩,
  ⟨fun K => He.ga K "_law_tops", "_law_tops", "_law_tops", s__law_tops⟩,
  ⟨fun K => He.ga K "_law_even_starts", "_law_even_starts", "_law_even_starts", s__law_even_starts⟩,
  ⟨fun K => He.ga K "_law_words", "_law_words", "_law_words", s__law_words⟩,
  ⟨fun K => He.ga K "_law_walk", "_law_walk", "_law_walk", s__law_walk_v2⟩,
  ⟨fun K => He.ga K "_law_end", "_law_end", "_law_end", s__law_end_v2⟩,
  ⟨fun K => He.ga K "_law_is_fine", "_law_is_fine", "_law_is_fine", s__law_is_fine⟩,
  ⟨fun K => He.ga K "_law_due", "_law_due", "_law_due", s__law_due_v2⟩,
  ⟨fun K => He.ga K "check_machine", "check_machine", "check_machine", s_check_machine⟩,
  ⟨fun K => He.ga K "check_pair", "check_pair", "check_pair", s_check_pair⟩,
  ⟨fun K => He.ma K (He.ga K "Machine") "__len__", "__len__", "Machine.__len__", s_Machine_len_⟩,
  ⟨fun K => He.ga K "pair_arrows", "pair_arrows", "pair_arrows", s_pair_arrows⟩,
  ⟨fun K => He.ga K "pair_colours", "pair_colours", "pair_colours", s_pair_colours⟩,
  ⟨fun K => He.ga K "bits_ahead", "bits_ahead", "bits_ahead", s_bits_ahead⟩,
  ⟨fun K => He.ga K "greatest_loops", "greatest_loops", "greatest_loops", s_greatest_loops⟩,
  ⟨fun K => He.ga K "without_wrong_top", "without_wrong_top", "without_wrong_top", s_without_wrong_top⟩,
  ⟨fun K => He.ga K "loops_as_asked", "loops_as_asked", "loops_as_asked", s_loops_as_asked⟩,
  ⟨fun K => He.ga K "leading_to", "leading_to", "leading_to", s_leading_to⟩,
  ⟨fun K => He.ga K "arrows_of", "arrows_of", "arrows_of", s_arrows_of⟩,
  ⟨fun K => He.ga K "colours_of", "colours_of", "colours_of", s_colours_of⟩,
  ⟨fun K => He.ga K "leading_to_loops", "leading_to_loops", "leading_to_loops", s_leading_to_loops⟩,
  ⟨fun K => He.ga K "live", "live", "live", s_live⟩,
  ⟨fun K => He.ga K "stuck_pairs", "stuck_pairs", "stuck_pairs", s_stuck_pairs⟩,
  ⟨fun K => He.ga K "words_from", "words_from", "words_from", s_words_from⟩,
  ⟨fun K => He.ga K "first_word_to", "first_word_to", "first_word_to", s_first_word_to⟩,
  ⟨fun K => He.ga K "jam", "jam", "jam", s_jam⟩,
  ⟨fun K => He.ga K "in_step", "in_step", "in_step", s_in_step⟩,
  ⟨fun K => He.ga K "_law_right", "_law_right", "_law_right", s__law_right⟩,
  ⟨fun K => He.ga K "_law_purse", "_law_purse", "_law_purse", s__law_purse⟩,
  ⟨fun K => He.ga K "law", "law", "law", s_law⟩,
  ⟨fun K => He.ma K (He.ga K "Machine") "__init__", "__init__", "Machine.__init__", s_Machine_init⟩,
  ⟨fun K => getA K (He.ga K "Machine") "letters", "letters", "Machine.letters", (inClass (top 21) 2)⟩,
  ⟨fun K => getA K (He.ga K "Machine") "states", "states", "Machine.states", (inClass (top 21) 3)⟩]

def fad : List Addr := ([PySem.cStatics] : List Addr) ++ ([3, 6, 4, 21, 31, 51, 70, 89, 108, 127, 136, 141, 146, 153, 158, 163, 170, 237, 248, 253, 258, 265, 270, 275, 280, 285, 290, 297, 302, 309, 316, 321, 326, 331, 338, 345, 352, 359, 366, 371, 378, 385, 392, 397, 404, 409, 414, 421, 426, 431, 436, 441, 446, 451, 458, 465, 472, 0, 20, 30] : List Addr) ++ ([50, 69, 88, 107, 126, 135, 140, 145, 152, 157, 162, 169, 236, 247, 252, 257, 264, 269, 274, 279, 284, 289, 296, 301, 308, 315, 320, 325, 330, 337, 344, 351, 358, 365, 370, 377, 384, 391, 396, 403, 408, 413, 420, 425, 430, 435, 440, 445, 450, 457, 464, 471, 15, 16, 17, 18, 19, 29, 32, 48] : List Addr) ++ ([49, 67, 68, 86, 87, 105, 106, 124, 125, 130, 131, 132, 133, 134, 137, 138, 139, 142, 143, 144, 147, 148, 149, 150, 151, 154, 155, 156, 159, 160, 161, 164, 165, 166, 167, 168, 184, 191, 200, 208, 215, 220, 227, 234, 235, 238, 239, 242, 243, 244, 245, 246, 249, 250, 251, 254, 255, 256, 259, 260] : List Addr) ++ ([261, 262, 263, 266, 267, 268, 271, 272, 273, 276, 277, 278, 281, 282, 283, 286, 287, 288, 291, 292, 293, 294, 295, 298, 299, 300, 303, 304, 305, 306, 307, 310, 311, 312, 313, 314, 317, 318, 319, 322, 323, 324, 327, 328, 329, 332, 333, 334, 335, 336, 339, 340, 341, 342, 343, 346, 347, 348, 349, 350] : List Addr) ++ ([353, 354, 355, 356, 357, 360, 361, 362, 363, 364, 367, 368, 369, 372, 373, 374, 375, 376, 379, 380, 381, 382, 383, 386, 387, 388, 389, 390, 393, 394, 395, 398, 399, 400, 401, 402, 405, 406, 407, 410, 411, 412, 415, 416, 417, 418, 419, 422, 423, 424, 427, 428, 429, 432, 433, 434, 437, 438, 439, 442] : List Addr) ++ ([443, 444, 447, 448, 449, 452, 453, 454, 455, 456, 459, 460, 461, 462, 463, 466, 467, 468, 469, 470, 47, 66, 85, 104, 123, 183, 189, 190, 199, 207, 214, 219, 226, 233, 42, 43, 44, 45, 46, 61, 62, 63, 64, 65, 80, 81, 82, 83, 84, 99, 100, 101, 102, 103, 118, 119, 120, 121, 122, 178] : List Addr) ++ ([179, 180, 181, 182, 188, 192, 198, 206, 209, 210, 211, 212, 213, 216, 217, 218, 221, 222, 223, 224, 225, 228, 229, 230, 231, 232, 185, 186, 187, 193, 194, 195, 196, 197, 201, 202, 203, 204, 205] : List Addr)
abbrev R : PySem.W.OpenRow := PySem.W.OpenLaw.row PySem.Challenge.rw_guardhopes_k31_whole_jams_by_loops
abbrev hk : PySem.W.Hook := hookL fad fns exK
def ob (s : PySem.W.SharedT) : QA := obL fad fns exK (HandSHeadRun.getT s)
def loose : List Str := (["_wall", "BadValue", "InvalidText", "InvalidLetters", "NotAMachine", "OtherLetters", "InvalidStates", "MOST_LETTERS", "MOST_STATES", "MOST_COLOUR", "ALPHABET", "DIGITS", "is_number", "is_letters", "is_state", "first_wrong_state", "state_row", "told_state", "told_letters", "Machine", "check_machine", "EVEN", "arrows_of", "colours_of", "words_from"] : List Str) ++ (["first_word_to", "leading_to", "bits_ahead", "greatest_loops", "without_wrong_top", "loops_as_asked", "leading_to_loops", "live", "check_pair", "pair_arrows", "pair_colours", "stuck_pairs", "jam", "in_step", "_law_purse", "_law_draw", "_law_pick", "_law_tool", "_law_made", "_law_walk", "_law_end", "_law_is_in", "_law_reached", "_law_is_loop", "_law_loops"] : List Str) ++ (["_law_pairs", "_law_tops", "_law_are_parted", "_law_mate", "_law_even_starts", "_law_is_fine", "_law_words", "_law_due", "_law_right"] : List Str)
theorem run (w : World) : HandSHeadRun.RunEq R (PySem.W.view R.prog [65]) hk ob 6000 loose w := by
  intro os
  kernel_rfl
end DL

set_option maxHeartbeats 1000000
namespace DL
open PySem PySem.Spec PyProof.Rows L2
def sgs : List Str := ["ab", "a", "abc", "xz", "q", "mno", "hy", "bz", "kmx", "b", "cx", "yz", "xyz"]
abbrev Row := Int × List Int
def rowD (r : Row) : D := .tup [.int r.1, .tup (r.2.map D.int)]
structure RowOk (k n : Nat) (r : Row) : Prop where
  c0 : 0 ≤ r.1
  c1 : r.1 ≤ 6
  len : r.2.length = k
  go : ∀ g ∈ r.2, 0 ≤ g ∧ g < n
structure RowsOk (k : Nat) (rs : List Row) : Prop where
  n0 : 1 ≤ rs.length
  n1 : rs.length ≤ 6
  ok : ∀ r ∈ rs, RowOk k rs.length r
end DL

set_option maxHeartbeats 1000000

set_option maxHeartbeats 1000000
namespace DL
open PySem PySem.Spec PyProof.Rows L2
abbrev one (c : Nat) : Str := ⟨#[c]⟩
def Wd (x w : Str) : Prop := ∀ c ∈ w.cps.toList, c ∈ x.cps.toList
def idx (x : Str) (c : Nat) : Nat := x.cps.toList.idxOf c
end DL

set_option maxHeartbeats 1000000
namespace DL
open PySem PySem.Spec PyProof.Rows L2
theorem app_cps (w v : Str) : (w ++ v).cps = w.cps ++ v.cps := rfl
theorem app_list (w v : Str) : (w ++ v).cps.toList = w.cps.toList ++ v.cps.toList := by rw [app_cps, Array.toList_append]
theorem str_len (w : Str) : w.cps.toList.length = w.length := by simp [Str.length]
theorem app_len (w v : Str) : (w ++ v).length = w.length + v.length := by
  rw [← str_len, app_list, List.length_append, str_len, str_len]
def colour (rs : List Row) (s : Int) : Int := ((rs[s.toNat]?).map (·.1)).getD 0
/-- the greatest of some numbers, 0 of none -/
def top0 (is : List Int) : Int := match is with
  | [] => 0
  | i :: is => topI i is
end DL

set_option maxHeartbeats 1000000

set_option maxHeartbeats 1000000
namespace DL
open PySem PySem.Spec PyProof.Rows L2
def rowAt (rs : List Row) (s : Int) : Row := (rs[s.toNat]?).getD (0, [])
theorem rowAt_ok {k : Nat} {rs : List Row} (hr : RowsOk k rs) {s : Int} (h0 : 0 ≤ s) (h1 : s < rs.length) : atI (rs.map rowD) s = some (rowD (rowAt rs s)) ∧ RowOk k rs.length (rowAt rs s) := by
  obtain ⟨j, rfl⟩ : ∃ j : Nat, s = (j : Int) := ⟨s.toNat, by omega⟩
  have hj : j < rs.length := by omega
  have e : rowAt rs (j : Int) = rs[j] := by
    unfold rowAt
    rw [Int.toNat_natCast, List.getElem?_eq_getElem hj]
    rfl
  rw [e]
  exact ⟨atI_nat (by rw [List.getElem?_map, List.getElem?_eq_getElem hj]; rfl), hr.ok _ (List.getElem_mem hj)⟩
end DL

set_option maxHeartbeats 1000000

set_option maxHeartbeats 1000000
namespace DL
open PySem PySem.Spec PyProof.Rows L2
theorem top0_ge {is : List Int} : ∀ y ∈ is, y ≤ top0 is := by
  cases is with
  | nil => intro y h; cases h
  | cons i is =>
    intro y h
    obtain ⟨h1, h2, h3⟩ := topI_ge is i
    rcases List.mem_cons.mp h with rfl | h
    · exact h1
    · exact h2 y h
theorem top0_mem {is : List Int} (h : is ≠ []) : top0 is ∈ is := by
  cases is with
  | nil => exact (h rfl).elim
  | cons i is =>
    obtain ⟨h1, h2, h3⟩ := topI_ge is i
    rcases h3 with h3 | h3
    · show topI i is ∈ _
      rw [h3]; exact List.mem_cons_self
    · exact List.mem_cons_of_mem _ h3
end DL

set_option maxHeartbeats 1000000
namespace DL
open PySem PySem.Spec PyProof.Rows L2
section
variable {sc : Int → List Int} {ok ok' : Int → Prop}
/-- one or more steps, all behind the first number by numbers that are ok -/
inductive Pth (sc : Int → List Int) (ok : Int → Prop) : Int → Int → Prop
  | one {a b : Int} : b ∈ sc a → ok b → Pth sc ok a b
  | step {a b c : Int} : b ∈ sc a → ok b → Pth sc ok b c → Pth sc ok a c
theorem Pth.trans {a b c : Int} (h : Pth sc ok a b) (h' : Pth sc ok b c) : Pth sc ok a c := by
  induction h with
  | one h1 h2 => exact .step h1 h2 h'
  | step h1 h2 _ ih => exact .step h1 h2 (ih h')
theorem Pth.snoc {a b c : Int} (h : Pth sc ok a b) (h1 : c ∈ sc b) (h2 : ok c) : Pth sc ok a c := h.trans (.one h1 h2)
theorem Pth.mono {a b : Int} (h : Pth sc ok a b) (f : ∀ x, ok x → ok' x) : Pth sc ok' a b := by
  induction h with
  | one h1 h2 => exact .one h1 (f _ h2)
  | step h1 h2 _ ih => exact .step h1 (f _ h2) ih
theorem Pth.last {a b : Int} (h : Pth sc ok a b) : ok b := by
  induction h with
  | one _ h2 => exact h2
  | step _ _ _ ih => exact ih
theorem Pth.first {a b : Int} (h : Pth sc ok a b) : ∃ c, c ∈ sc a ∧ ok c ∧ (c = b ∨ Pth sc ok c b) := by
  cases h with
  | one h1 h2 => exact ⟨_, h1, h2, .inl rfl⟩
  | step h1 h2 h3 => exact ⟨_, h1, h2, .inr h3⟩
/-- hangs together -/
def SC (sc : Int → List Int) (S : Int → Prop) : Prop := ∀ a b, S a → S b → Pth sc S a b
theorem SC.congr {S S' : Int → Prop} (h : SC sc S) (e : ∀ a, S a ↔ S' a) : SC sc S' := fun a b ha hb => (h a b ((e a).mpr ha) ((e b).mpr hb)).mono fun x hx => (e x).mp hx
end
def TopIs (col : Int → Int) (S : Int → Prop) (T : Int) : Prop := (∃ a, S a ∧ col a = T) ∧ ∀ a, S a → col a ≤ T
theorem TopIs.congr {col : Int → Int} {S S' : Int → Prop} {T : Int} (h : TopIs col S T) (e : ∀ a, S a ↔ S' a) : TopIs col S' T := by
  obtain ⟨⟨a, a1, a2⟩, b⟩ := h
  exact ⟨⟨a, (e a).mp a1, a2⟩, fun x hx => b x ((e x).mpr hx)⟩
theorem top_is {col : Int → Int} {l : List Int} (h : l ≠ []) : TopIs col (· ∈ l) (top0 (l.map col)) := by
  have hm : l.map col ≠ [] := by simpa using h
  obtain ⟨a, a1, a2⟩ := List.mem_map.mp (top0_mem hm)
  exact ⟨⟨a, a1, a2⟩, fun x hx => top0_ge _ (List.mem_map.mpr ⟨x, hx, rfl⟩)⟩
/-- what is asked of loops: colours, and the evenness of the greatest -/
abbrev Asked := List ((Int → Int) × Int)
def GLoop (sc : Int → List Int) (as : Asked) (S : Int → Prop) : Prop := (∃ a, S a) ∧ SC sc S ∧ ∀ p ∈ as, ∃ T, TopIs p.1 S T ∧ T % 2 = p.2
theorem GLoop.congr {sc : Int → List Int} {as : Asked} {S S' : Int → Prop} (h : GLoop sc as S) (e : ∀ a, S a ↔ S' a) : GLoop sc as S' := by
  obtain ⟨⟨a, ha⟩, h1, h2⟩ := h
  refine ⟨⟨a, (e a).mp ha⟩, h1.congr e, fun p hp => ?_⟩
  obtain ⟨T, t1, t2⟩ := h2 p hp
  exact ⟨T, t1.congr e, t2⟩
end DL

set_option maxHeartbeats 1000000
namespace DL
open PySem PySem.Spec PyProof.Rows L2
def rowIs (d : D) (gs : List Int) : Prop := d = .tup (gs.map D.int) ∨ d = .lst (gs.map D.int)
structure Gr (A : List D) (n : Nat) (sc : Int → List Int) : Prop where
  len : A.length = n
  row : ∀ k : Int, 0 ≤ k → k < n → ∃ d, atI A k = some d ∧ rowIs d (sc k)
  go : ∀ k : Int, 0 ≤ k → k < n → ∀ g ∈ sc k, 0 ≤ g ∧ g < n
  few : ∀ k : Int, 0 ≤ k → k < n → (sc k).length ≤ 1000
  n1000 : n ≤ 1000
inductive Via (sc : Int → List Int) (mid : Int → Prop) : Int → Int → Prop
  | one {a b : Int} : b ∈ sc a → Via sc mid a b
  | step {a b c : Int} : b ∈ sc a → mid b → Via sc mid b c → Via sc mid a c
section
variable {sc : Int → List Int} {mid mid' : Int → Prop}
theorem Via.mono {a b : Int} (h : Via sc mid a b) (f : ∀ x, mid x → mid' x) : Via sc mid' a b := by
  induction h with
  | one h1 => exact .one h1
  | step h1 h2 _ ih => exact .step h1 (f _ h2) ih
theorem Via.trans {a m b : Int} (h : Via sc mid a m) (hm : mid m) (h' : Via sc mid m b) : Via sc mid a b := by
  induction h with
  | one h1 => exact .step h1 hm h'
  | step h1 h2 _ ih => exact .step h1 h2 (ih hm h')
theorem Via.split {m a b : Int} (h : Via sc (fun x => mid x ∨ x = m) a b) : Via sc mid a b ∨ (Via sc mid a m ∧ Via sc mid m b) := by
  induction h with
  | one h1 => exact .inl (.one h1)
  | step h1 h2 _ ih =>
    rcases h2 with h2 | rfl
    · rcases ih with ih | ⟨i1, i2⟩
      · exact .inl (.step h1 h2 ih)
      · exact .inr ⟨.step h1 h2 i1, i2⟩
    · rcases ih with ih | ⟨_, i2⟩
      · exact .inr ⟨.one h1, ih⟩
      · exact .inr ⟨.one h1, i2⟩
end
/-- numbers of a graph, each once -/
structure Ns (n : Nat) (ns : List Int) : Prop where
  nd : ns.Nodup
  lo : ∀ k ∈ ns, 0 ≤ k ∧ k < n
theorem Ns.len {n : Nat} {ns : List Int} (h : Ns n ns) : ns.length ≤ n := by
  have h1 : (ns.map Int.toNat).Nodup := by
    have nd := h.nd
    have lo := h.lo
    clear h
    induction ns with
    | nil => exact List.nodup_nil
    | cons k ns ih =>
      obtain ⟨a, b⟩ := List.nodup_cons.mp nd
      rw [List.map_cons]
      refine List.nodup_cons.mpr ⟨fun hm => ?_, ih b fun k hk => lo k (List.mem_cons_of_mem _ hk)⟩
      obtain ⟨j, hj, e⟩ := List.mem_map.mp hm
      have z1 := lo k List.mem_cons_self
      have z2 := lo j (List.mem_cons_of_mem _ hj)
      have : j = k := by omega
      subst this
      exact a hj
  have h2 : ∀ x ∈ ns.map Int.toNat, x < n := fun x hx => by
    obtain ⟨k, hk, rfl⟩ := List.mem_map.mp hx
    have := h.lo k hk
    omega
  have : ∀ (l : List Nat) (n : Nat), l.Nodup → (∀ x ∈ l, x < n) → l.length ≤ n := by
    intro l n
    induction n generalizing l with
    | zero =>
      intro _ h
      cases l with
      | nil => exact Nat.le_refl _
      | cons a l => exact absurd (h a List.mem_cons_self) (Nat.not_lt_zero _)
    | succ n ih =>
      intro nd h
      have i1 := ih (l.erase n) (nd.erase n) (fun x hx => by
        have h1 := h x (List.mem_of_mem_erase hx)
        have h2 : x ≠ n := fun e => by
          subst e
          exact (List.Nodup.mem_erase_iff nd).mp hx |>.1 rfl
        omega)
      have : l.length ≤ (l.erase n).length + 1 := by
        rw [List.length_erase]
        split <;> omega
      omega
  have := this _ _ h1 h2
  rwa [List.length_map] at this
end DL

set_option maxHeartbeats 1000000

set_option maxHeartbeats 1000000

set_option maxHeartbeats 1000000
namespace DL
open PySem PySem.Spec PyProof.Rows L2
def bth (β : Int → Nat) (a k : Int) : Bool := (β a).testBit k.toNat && (β k).testBit a.toNat
def cls (ns : List Int) (β : Int → Nat) (a : Int) : List Int := ns.filter (bth β a)
end DL

set_option maxHeartbeats 1000000

set_option maxHeartbeats 1000000
namespace DL
open PySem PySem.Spec PyProof.Rows L2
def nums (n : Nat) : List Int := (List.range n).map fun (k : Nat) => (k : Int)
theorem mem_nums {n : Nat} {k : Int} : k ∈ nums n ↔ 0 ≤ k ∧ k < n := by
  unfold nums
  constructor
  · intro h
    obtain ⟨j, hj, rfl⟩ := List.mem_map.mp h
    have := List.mem_range.mp hj
    omega
  · intro h
    exact List.mem_map.mpr ⟨k.toNat, List.mem_range.mpr (by omega), by omega⟩
theorem len_nums (n : Nat) : (nums n).length = n := by simp [nums]
end DL

set_option maxHeartbeats 1000000
namespace DL
open PySem PySem.Spec PyProof.Rows L2
def scM (rs : List Row) (k : Int) : List Int := (rowAt rs k).2
def arrD (rs : List Row) : List D := rs.map fun r => .tup (r.2.map D.int)
theorem gr_M {k : Nat} {rs : List Row} (hr : RowsOk k rs) (hk : k ≤ 1000) : Gr (arrD rs) rs.length (scM rs) := by
  have n1 := hr.n1
  refine ⟨by simp [arrD], fun j j0 j1 => ?_, fun j j0 j1 g hg => ?_, fun j j0 j1 => ?_, by omega⟩
  · refine ⟨.tup ((scM rs j).map D.int), ?_, .inl rfl⟩
    obtain ⟨i, rfl⟩ : ∃ i : Nat, j = (i : Int) := ⟨j.toNat, by omega⟩
    have hi : i < rs.length := by omega
    refine atI_nat ?_
    unfold arrD scM rowAt
    rw [List.getElem?_map, Int.toNat_natCast, List.getElem?_eq_getElem hi]
    rfl
  · exact (rowAt_ok hr j0 j1).2.go g hg
  · show (rowAt rs j).2.length ≤ 1000
    rw [(rowAt_ok hr j0 j1).2.len]
    exact hk
end DL

set_option maxHeartbeats 1000000
namespace DL
open PySem PySem.Spec PyProof.Rows L2
theorem nd_sub : ∀ {a c : List Int}, a.Nodup → (∀ x ∈ a, x ∈ c) → a.length ≤ c.length
  | [], _, _, _ => Nat.zero_le _
  | x :: a, c, nd, h => by
    obtain ⟨h1, h2⟩ := List.nodup_cons.mp nd
    have hx := h x List.mem_cons_self
    have := nd_sub (a := a) (c := c.erase x) h2 fun y hy => by
      have hyx : y ≠ x := fun e => h1 (by rw [← e]; exact hy)
      exact (List.mem_erase_of_ne hyx).mpr (h y (List.mem_cons_of_mem _ hy))
    rw [List.length_erase_of_mem hx] at this
    have := List.length_pos_of_mem hx
    rw [List.length_cons]
    omega
end DL

set_option maxHeartbeats 1000000
namespace DL
open PySem PySem.Spec PyProof.Rows L2
structure LeastOk (sc : Int → List Int) (col : Int → Int) (ns : List Int) (f : Int → Int) : Prop where
  bd : ∀ k ∈ ns, 0 ≤ f k ∧ f k ≤ ns.length
  ev : ∀ S : Int → Prop, (∃ a, S a) → SC sc S → (∀ a, S a → a ∈ ns) → ∀ T T', TopIs col S T → TopIs f S T' → T' % 2 = T % 2
  mn : ∀ c : Int → Int, (∀ S : Int → Prop, (∃ a, S a) → SC sc S → (∀ a, S a → a ∈ ns) → ∀ T T', TopIs col S T → TopIs c S T' → 0 ≤ T' ∧ T' % 2 = T % 2) → ∀ B, 0 ≤ B → (∀ k ∈ ns, c k ≤ B) → ∀ k ∈ ns, f k ≤ B
theorem TopIs.fcongr {f g : Int → Int} {S : Int → Prop} {T : Int} (h : TopIs f S T) (e : ∀ a, S a → f a = g a) : TopIs g S T := by
  obtain ⟨⟨a, a1, a2⟩, b⟩ := h
  exact ⟨⟨a, a1, by rw [← e a a1]; exact a2⟩, fun x hx => by rw [← e x hx]; exact b x hx⟩
theorem LeastOk.congr {sc : Int → List Int} {col : Int → Int} {ns : List Int} {f g : Int → Int} (h : LeastOk sc col ns f) (e : ∀ k ∈ ns, f k = g k) : LeastOk sc col ns g :=
  ⟨fun k hk => by rw [← e k hk]; exact h.bd k hk, fun S h0 hS hsub T T' t t' => h.ev S h0 hS hsub T T' t (t'.fcongr fun a ha => (e a (hsub a ha)).symm), fun c hc B h0 hB k hk => by rw [← e k hk]; exact h.mn c hc B h0 hB k hk⟩
end DL

set_option maxHeartbeats 1000000

set_option maxHeartbeats 1000000

set_option maxHeartbeats 1000000

set_option maxHeartbeats 1000000

set_option maxHeartbeats 1000000

set_option maxHeartbeats 1000000

set_option maxHeartbeats 1000000

set_option maxHeartbeats 1000000

set_option maxHeartbeats 1000000

set_option maxHeartbeats 1000000

set_option maxHeartbeats 1000000
namespace DL
open PySem PySem.Spec PyProof.Rows L2
/-- numbers below n, not too many -/
structure NsW (n : Nat) (ns : List Int) : Prop where
  len : ns.length ≤ n
  lo : ∀ k ∈ ns, 0 ≤ k ∧ k < n
theorem Ns.w {n : Nat} {ns : List Int} (h : Ns n ns) : NsW n ns := ⟨h.len, h.lo⟩
end DL

set_option maxHeartbeats 1000000
namespace DL
open PySem PySem.Spec PyProof.Rows L2
theorem pth_all {k : Nat} {rs : List Row} (hr : RowsOk k rs) (hk : k ≤ 1000) {a g : Int} (a0 : 0 ≤ a) (a1 : a < rs.length) : Pth (scM rs) (· ∈ nums rs.length) a g ↔ Pth (scM rs) (fun _ => True) a g := by
  have G := gr_M hr hk
  constructor
  · exact fun h => h.mono fun _ _ => trivial
  · intro h
    induction h with
    | one h1 _ => exact .one h1 (mem_nums.mpr (G.go _ a0 a1 _ h1))
    | step h1 _ _ ih =>
      obtain ⟨c0, c1⟩ := G.go _ a0 a1 _ h1
      exact .step h1 (mem_nums.mpr ⟨c0, c1⟩) (ih c0 c1)
/-- the states that are reached -/
def Reach (rs : List Row) (k : Int) : Prop := k = 0 ∨ Pth (scM rs) (fun _ => True) 0 k
theorem reach_in {k : Nat} {rs : List Row} (hr : RowsOk k rs) (hk : k ≤ 1000) {a : Int} (h : Reach rs a) : 0 ≤ a ∧ a < rs.length := by
  have n0 := hr.n0
  rcases h with rfl | h
  · omega
  · exact mem_nums.mp ((pth_all hr hk (by omega) (by omega)).mpr h).last
end DL

set_option maxHeartbeats 1000000

set_option maxHeartbeats 1000000

set_option maxHeartbeats 1000000

set_option maxHeartbeats 1000000

set_option maxHeartbeats 1000000

set_option maxHeartbeats 1000000

set_option maxHeartbeats 1000000
namespace DL
open PySem PySem.Spec PyProof.Rows L2
def gI (sc : Int → List Int) (s : Int) (i : Nat) : Int := ((sc s)[i]?).getD 0
def wE (x : Str) (sc : Int → List Int) : Int → List Nat → Int
  | s, [] => s
  | s, c :: cs => wE x sc (gI sc s (idx x c)) cs
end DL

set_option maxHeartbeats 1000000

set_option maxHeartbeats 1000000
namespace DL
open PySem PySem.Spec PyProof.Rows L2
def RchG (sc : Int → List Int) (bg a : Int) : Prop := a = bg ∨ Pth sc (fun _ => True) bg a
end DL

set_option maxHeartbeats 1000000

set_option maxHeartbeats 1000000

set_option maxHeartbeats 1000000

set_option maxHeartbeats 1000000

set_option maxHeartbeats 1000000
namespace DL
open PySem PySem.Spec PyProof.Rows L2
section
variable (n m : Nat) (sc : Int → List Int)
/-- what a number shows in a round -/
def rowG (g : Int → Int) (k : Int) : Int × List Int := (g k, (sc k).map g)
def leastG (g : Int → Int) (k : Int) : Nat := (nums n).findIdx fun j => decide (rowG sc g j = rowG sc g k)
def nxtG (g : Int → Int) (k : Int) : Int := (leastG n sc g k : Int)
end
section
variable {n m : Nat} {sc : Int → List Int} (hw : ∀ k : Int, 0 ≤ k → k < n → (sc k).length = m) (hgo : ∀ k : Int, 0 ≤ k → k < n → ∀ g ∈ sc k, 0 ≤ g ∧ g < n)
theorem nums_at {n : Nat} {i : Nat} (h : i < n) : (nums n)[i]? = some (i : Int) := by
  unfold nums
  rw [List.getElem?_map, List.getElem?_range h]
  rfl
theorem least_lt {g : Int → Int} {k : Int} (k0 : 0 ≤ k) (k1 : k < n) : leastG n sc g k < n := by
  have h : leastG n sc g k < (nums n).length := List.findIdx_lt_length_of_exists ⟨k, mem_nums.mpr ⟨k0, k1⟩, by simp⟩
  rw [len_nums] at h
  exact h
theorem least_row {g : Int → Int} {k : Int} (k0 : 0 ≤ k) (k1 : k < n) : rowG sc g (leastG n sc g k : Int) = rowG sc g k := by
  have hl := least_lt (sc := sc) (g := g) k0 k1
  have h : leastG n sc g k < (nums n).length := by rw [len_nums]; exact hl
  have h2 := List.findIdx_getElem (xs := nums n) (p := fun j => decide (rowG sc g j = rowG sc g k)) (w := h)
  have h3 : (nums n)[leastG n sc g k] = (leastG n sc g k : Int) := by
    have := nums_at hl
    rw [List.getElem?_eq_getElem h] at this
    exact Option.some.inj this
  have h4 : decide (rowG sc g (nums n)[leastG n sc g k] = rowG sc g k) = true := h2
  rw [h3] at h4
  exact of_decide_eq_true h4
theorem nxt_iff {g : Int → Int} {j k : Int} (j0 : 0 ≤ j) (j1 : j < n) (k0 : 0 ≤ k) (k1 : k < n) : nxtG n sc g j = nxtG n sc g k ↔ rowG sc g j = rowG sc g k := by
  constructor
  · intro h
    have h : leastG n sc g j = leastG n sc g k := by unfold nxtG at h; omega
    rw [← least_row (g := g) j0 j1, ← least_row (g := g) k0 k1, h]
  · intro h
    unfold nxtG leastG
    rw [h]
/-- the same parts -/
def SameG (n : Nat) (g g' : Int → Int) : Prop := ∀ j k : Int, 0 ≤ j → j < n → 0 ≤ k → k < n → (g j = g k ↔ g' j = g' k)
theorem finer {g : Int → Int} {j k : Int} (j0 : 0 ≤ j) (j1 : j < n) (k0 : 0 ≤ k) (k1 : k < n) (h : nxtG n sc g j = nxtG n sc g k) : g j = g k := congrArg Prod.fst ((nxt_iff j0 j1 k0 k1).mp h)
/-- first of its like -/
def repG (g : Int → Int) (k : Int) : Prop := ∀ j : Int, 0 ≤ j → j < k → g j ≠ g k
open Classical in
noncomputable def cntG (n : Nat) (g : Int → Int) : Nat := ((nums n).filter fun k => decide (repG g k)).length
theorem filter_less {α : Type} {p q : α → Bool} : ∀ (l : List α), (∀ a ∈ l, p a = true → q a = true) → (l.filter p).length ≤ (l.filter q).length
  | [], _ => by simp
  | a :: l, h => by
    have ih := filter_less l fun b hb => h b (List.mem_cons_of_mem _ hb)
    have h1 := h a List.mem_cons_self
    rw [List.filter_cons, List.filter_cons]
    cases hp : p a <;> cases hq : q a
    · exact ih
    · simp; omega
    · rw [h1 hp] at hq; cases hq
    · simp; omega
theorem filter_more {α : Type} {p q : α → Bool} : ∀ (l : List α), (∀ a ∈ l, p a = true → q a = true) → (∃ a ∈ l, q a = true ∧ p a = false) → (l.filter p).length < (l.filter q).length
  | [], _, ⟨_, h, _⟩ => by cases h
  | a :: l, h, ⟨b, hb, h2, h3⟩ => by
    have hl := filter_less l fun b hb => h b (List.mem_cons_of_mem _ hb)
    have h1 := h a List.mem_cons_self
    rw [List.filter_cons, List.filter_cons]
    rcases List.mem_cons.mp hb with rfl | hb
    · rw [h2, h3]
      simp
      omega
    · have ih := filter_more l (fun b hb => h b (List.mem_cons_of_mem _ hb)) ⟨b, hb, h2, h3⟩
      cases hp : p a <;> cases hq : q a
      · exact ih
      · simp; omega
      · rw [h1 hp] at hq; cases hq
      · simp; omega
theorem least_like (g : Int → Int) : ∀ (t : Nat) (k : Int), 0 ≤ k → k < t → ∃ r : Int, 0 ≤ r ∧ r ≤ k ∧ g r = g k ∧ repG g r
  | 0, k, h0, h1 => by omega
  | t + 1, k, h0, h1 => by
    by_cases h : ∃ j : Int, 0 ≤ j ∧ j < k ∧ g j = g k
    · obtain ⟨j, j0, j1, j2⟩ := h
      obtain ⟨r, r0, r1, r2, r3⟩ := least_like g t j j0 (by omega)
      exact ⟨r, r0, by omega, r2.trans j2, r3⟩
    · exact ⟨k, h0, Int.le_refl _, rfl, fun j j0 j1 e => h ⟨j, j0, j1, e⟩⟩
open Classical in
theorem grow {g : Int → Int} (h : ¬ SameG n g (nxtG n sc g)) : cntG n g < cntG n (nxtG n sc g) := by
  have hex : ∃ j k : Int, (0 ≤ j ∧ j < n) ∧ (0 ≤ k ∧ k < n) ∧ g j = g k ∧ nxtG n sc g j ≠ nxtG n sc g k := by
    apply Classical.byContradiction
    intro hn
    refine h fun j k j0 j1 k0 k1 => ⟨fun e => ?_, finer j0 j1 k0 k1⟩
    apply Classical.byContradiction
    intro z
    exact hn ⟨j, k, ⟨j0, j1⟩, ⟨k0, k1⟩, e, z⟩
  obtain ⟨j, k, ⟨j0, j1⟩, ⟨k0, k1⟩, e, hne⟩ := hex
  obtain ⟨r, r0, r1, r2, r3⟩ := least_like g n k k0 k1
  obtain ⟨z, z0, z1, zk, zn⟩ : ∃ z : Int, 0 ≤ z ∧ z < n ∧ g z = g k ∧ nxtG n sc g z ≠ nxtG n sc g r := by
    by_cases hj : nxtG n sc g j = nxtG n sc g r
    · exact ⟨k, k0, k1, rfl, fun hk => hne (hj.trans hk.symm)⟩
    · exact ⟨j, j0, j1, e, hj⟩
  obtain ⟨w, w0, w1, w2, w3⟩ := least_like (nxtG n sc g) n z z0 z1
  have hgw : g w = g k := (finer w0 (by omega) z0 z1 w2).trans zk
  have hwr : w ≠ r := fun hh => zn (by rw [← w2, hh])
  have hrw : r < w := by
    apply Classical.byContradiction
    intro hh
    exact r3 w w0 (by omega) (hgw.trans r2.symm)
  unfold cntG
  refine filter_more _ (fun a ha hp => decide_eq_true fun b b0 b1 hb => ?_) ⟨w, mem_nums.mpr ⟨w0, by omega⟩, decide_eq_true w3, decide_eq_false fun hh => hh r r0 hrw (r2.trans hgw.symm)⟩
  obtain ⟨a0, a1⟩ := mem_nums.mp ha
  exact (of_decide_eq_true hp) b b0 b1 (finer b0 (by omega) a0 a1 hb)
end
end DL

set_option maxHeartbeats 1000000

set_option maxHeartbeats 1000000

set_option maxHeartbeats 1000000

set_option maxHeartbeats 1000000

set_option maxHeartbeats 1000000

set_option maxHeartbeats 1000000

set_option maxHeartbeats 1000000
namespace DL
open PySem PySem.Spec PyProof.Rows L2
structure RowsW (k N : Nat) (ws : List Row) : Prop where
  n0 : 1 ≤ ws.length
  n1 : ws.length ≤ N
  ok : ∀ r ∈ ws, RowOk k ws.length r
theorem RowsOk.w {k : Nat} {rs : List Row} (h : RowsOk k rs) : RowsW k 6 rs := ⟨h.n0, h.n1, h.ok⟩
end DL

set_option maxHeartbeats 1000000

set_option maxHeartbeats 1000000

set_option maxHeartbeats 1000000

set_option maxHeartbeats 1000000

set_option maxHeartbeats 1000000
namespace DL
open PySem PySem.Spec PyProof.Rows L2
/-- the first letters of a run -/
def pre (α : Nat → Nat) (i : Nat) : List Nat := (List.range i).map α
end DL

set_option maxHeartbeats 1000000

set_option maxHeartbeats 1000000

set_option maxHeartbeats 1000000

set_option maxHeartbeats 1000000

set_option maxHeartbeats 1000000
namespace DL
open PySem PySem.Spec PyProof.Rows L2
theorem top_ex {n : Nat} {S : Int → Prop} (h0 : ∃ a, S a) (hn : ∀ a, S a → a ∈ nums n) (c : Int → Int) : ∃ T, TopIs c S T := by
  classical
  obtain ⟨a, ha⟩ := h0
  have hm : ∀ k, k ∈ (nums n).filter (fun k => decide (S k)) ↔ S k := fun k => by
    rw [List.mem_filter, decide_eq_true_eq]
    exact ⟨fun h => h.2, fun h => ⟨hn k h, h⟩⟩
  have hne : (nums n).filter (fun k => decide (S k)) ≠ [] := fun e => by
    have := (hm a).mpr ha
    rw [e] at this
    cases this
  exact ⟨_, (top_is (col := c) hne).congr hm⟩
end DL

set_option maxHeartbeats 1000000

set_option maxHeartbeats 1000000
namespace DL
open PySem PySem.Spec PyProof.Rows L2
structure GoodT (x : Str) (rs : List Row) (t : Nat) (p : Str × Int) : Prop where
  wd : Wd x p.1
  to : wE x (scM rs) 0 p.1.cps.toList = p.2
  lo : 0 ≤ p.2 ∧ p.2 < rs.length
  few : p.1.length ≤ t
end DL

set_option maxHeartbeats 1000000

set_option maxHeartbeats 1000000
namespace DL
open PySem PySem.Spec PyProof.Rows L2
section
variable {x : Str} (hx : x ∈ sgs) {rs : List Row} (hr : RowsOk x.length rs)
include hx hr
theorem GoodT.mono {t t' : Nat} {q : Str × Int} (h : GoodT x rs t q) (ht : t ≤ t') : GoodT x rs t' q := ⟨h.wd, h.to, h.lo, by have := h.few; omega⟩
end
end DL

set_option maxHeartbeats 1000000
namespace DL
open PySem PySem.Spec PyProof.Rows L2
abbrev Wp := Str × Int
def chlP (x : Str) (sc : Int → List Int) (p : Wp) : List Wp := (x.cps.toList.zip (sc p.2)).map fun q => (p.1 ++ one q.1, q.2)
def addP (ins : List Int) (P : List Wp) (q : Wp) : List Wp := if q.2 ∈ ins ∧ q.2 ∉ P.map (·.2) then P ++ [q] else P
def qbP (x : Str) (sc : Int → List Int) (ins : List Int) : Nat → List Wp → Nat → List Wp
  | 0, P, _ => P
  | fuel + 1, P, s => if s = P.length then P else qbP x sc ins fuel ((chlP x sc (P.getD s ("", 0))).foldl (addP ins) P) (s + 1)
theorem addP_pos {ins : List Int} {P : List Wp} {q : Wp} (h : q.2 ∈ ins ∧ q.2 ∉ P.map (·.2)) : addP ins P q = P ++ [q] := if_pos h
theorem addP_neg {ins : List Int} {P : List Wp} {q : Wp} (h : ¬ (q.2 ∈ ins ∧ q.2 ∉ P.map (·.2))) : addP ins P q = P := if_neg h
/-- what is added is some of what was there, in its order -/
theorem addP_app (ins : List Int) : ∀ (L P : List Wp), ∃ T, L.foldl (addP ins) P = P ++ T ∧ List.Sublist T L
  | [], P => ⟨[], by simp, List.Sublist.refl _⟩
  | q :: L, P => by
    rw [List.foldl_cons]
    by_cases h : q.2 ∈ ins ∧ q.2 ∉ P.map (·.2)
    · rw [addP_pos h]
      obtain ⟨T, h1, h2⟩ := addP_app ins L (P ++ [q])
      exact ⟨q :: T, by rw [h1]; simp, h2.cons_cons q⟩
    · rw [addP_neg h]
      obtain ⟨T, h1, h2⟩ := addP_app ins L P
      exact ⟨T, h1, h2.cons q⟩
/-- pairs that grow from a first one -/
inductive Grown (x : Str) (sc : Int → List Int) (ins : List Int) (bg : Int) : List Wp → Prop
  | nil : Grown x sc ins bg [("", bg)]
  | snoc {P : List Wp} {p q : Wp} : Grown x sc ins bg P → p ∈ P → q ∈ chlP x sc p → q.2 ∈ ins → q.2 ∉ P.map (·.2) → Grown x sc ins bg (P ++ [q])
section
variable {x : Str} {sc : Int → List Int} {ins : List Int} {bg : Int}
theorem Grown.fold {p : Wp} : ∀ {L P : List Wp}, Grown x sc ins bg P → p ∈ P → (∀ q ∈ L, q ∈ chlP x sc p) → Grown x sc ins bg (L.foldl (addP ins) P)
  | [], P, g, _, _ => g
  | q :: L, P, g, hp, h => by
    rw [List.foldl_cons]
    by_cases hq : q.2 ∈ ins ∧ q.2 ∉ P.map (·.2)
    · rw [addP_pos hq]
      exact (g.snoc hp (h q List.mem_cons_self) hq.1 hq.2).fold (List.mem_append_left _ hp) fun z hz => h z (List.mem_cons_of_mem _ hz)
    · rw [addP_neg hq]
      exact g.fold hp fun z hz => h z (List.mem_cons_of_mem _ hz)
theorem Grown.nd {P : List Wp} (g : Grown x sc ins bg P) : (P.map (·.2)).Nodup := by
  induction g with
  | nil => simp
  | @snoc P p q g hp hq hi hn ih =>
    rw [List.map_append, List.nodup_append]
    refine ⟨ih, by simp, fun a ha c hc => ?_⟩
    have : c = q.2 := by simpa using hc
    rw [this]
    intro e
    exact hn (by rw [← e]; exact ha)
theorem Grown.inn {P : List Wp} (g : Grown x sc ins bg P) (hb : bg ∈ ins) : ∀ k ∈ P.map (·.2), k ∈ ins := by
  induction g with
  | nil => intro k hk; have : k = bg := by simpa using hk
           rw [this]; exact hb
  | @snoc P p q g hp hq hi hn ih =>
    intro k hk
    rw [List.map_append] at hk
    rcases List.mem_append.mp hk with h | h
    · exact ih k h
    · have : k = q.2 := by simpa using h
      rw [this]; exact hi
theorem Grown.ne {P : List Wp} (g : Grown x sc ins bg P) : 0 < P.length := by
  induction g with
  | nil => simp
  | snoc g hp hq hi hn ih => simp
theorem chl_len {p q : Wp} (h : q ∈ chlP x sc p) : q.1.length = p.1.length + 1 := by
  obtain ⟨z, _, rfl⟩ := List.mem_map.mp h
  show (p.1 ++ one z.1).length = _
  rw [app_len]
  rfl
theorem Grown.len {P : List Wp} (g : Grown x sc ins bg P) : ∀ p ∈ P, p.1.length ≤ P.length := by
  induction g with
  | nil => intro p hp; have : p = (("" : Str), bg) := by simpa using hp
           rw [this]; exact Nat.zero_le _
  | @snoc P p q g hp hq hi hn ih =>
    intro z hz
    rw [List.length_append, List.length_singleton]
    rcases List.mem_append.mp hz with h | h
    · have := ih z h; omega
    · have : z = q := by simpa using h
      rw [this, chl_len hq]
      have := ih p hp
      omega
end
end DL

set_option maxHeartbeats 1000000

set_option maxHeartbeats 1000000
namespace DL
open PySem PySem.Spec PyProof.Rows L2
theorem lt_app : ∀ {a b : List Nat} (u v : List Nat), a.length = b.length → a < b → a ++ u < b ++ v
  | [], [], _, _, _, h => absurd h (List.lt_irrefl _)
  | [], _ :: _, _, _, h, _ => by cases h
  | _ :: _, [], _, _, h, _ => by cases h
  | x :: a, y :: b, u, v, hl, h => by
    rw [List.cons_append, List.cons_append, List.cons_lt_cons_iff]
    rcases List.cons_lt_cons_iff.mp h with h | ⟨h1, h2⟩
    · exact .inl h
    · exact .inr ⟨h1, lt_app u v (by simpa using hl) h2⟩
theorem app_lt : ∀ (a : List Nat) {u v : List Nat}, u < v → a ++ u < a ++ v
  | [], _, _, h => h
  | x :: a, _, _, h => List.cons_lt_cons_iff.mpr (.inr ⟨rfl, app_lt a h⟩)
def ltW (p q : Wp) : Prop := p.1.cps.toList < q.1.cps.toList
theorem asc_x {x : Str} (hx : x ∈ sgs) : x.cps.toList.Pairwise (· < ·) := by
  have : ∀ x ∈ sgs, x.cps.toList.Pairwise (· < ·) := by decide +kernel
  exact this x hx
theorem pw_zip {R : Nat → Nat → Prop} : ∀ {cs : List Nat} {gs : List Int}, cs.Pairwise R → (cs.zip gs).Pairwise fun a b => R a.1 b.1
  | [], _, _ => by simp
  | c :: cs, [], _ => by simp
  | c :: cs, g :: gs, h => by
    obtain ⟨h1, h2⟩ := List.pairwise_cons.mp h
    rw [List.zip_cons_cons]
    refine List.pairwise_cons.mpr ⟨fun z hz => h1 _ (List.of_mem_zip (a := z.1) (b := z.2) hz).1, pw_zip h2⟩
theorem chl_pw {x : Str} (hx : x ∈ sgs) (sc : Int → List Int) (p : Wp) : (chlP x sc p).Pairwise ltW := by
  unfold chlP
  rw [List.pairwise_map]
  refine (pw_zip (asc_x hx)).imp fun {a b} hab => ?_
  show (p.1 ++ one a.1).cps.toList < (p.1 ++ one b.1).cps.toList
  rw [app_list, app_list]
  refine app_lt _ ?_
  show [a.1] < [b.1]
  exact List.cons_lt_cons_iff.mpr (.inl hab)
end DL

set_option maxHeartbeats 1000000
namespace DL
open PySem PySem.Spec PyProof.Rows L2
structure ShP (p : PyData) (k n : Nat) : Prop where
  sh : p.showable = true
  nd : p.hasDict = false
  dp : p.depth ≤ k
  ln : p.shown.length ≤ n
  ok : PyData.strOk p.shown = true
def ShB (d : D) (k n : Nat) : Prop := ∃ p, d.pd = some p ∧ ShP p k n
theorem ShP.mono {p : PyData} {k n k' n' : Nat} (h : ShP p k n) (hk : k ≤ k') (hn : n ≤ n') : ShP p k' n' := ⟨h.sh, h.nd, Nat.le_trans h.dp hk, Nat.le_trans h.ln hn, h.ok⟩
theorem ShB.mono {d : D} {k n k' n' : Nat} (h : ShB d k n) (hk : k ≤ k') (hn : n ≤ n') : ShB d k' n' := by
  obtain ⟨p, a, b⟩ := h
  exact ⟨p, a, b.mono hk hn⟩
end DL

set_option maxHeartbeats 1000000

set_option maxHeartbeats 1000000

set_option maxHeartbeats 1000000

set_option maxHeartbeats 1000000

set_option maxHeartbeats 1000000

set_option maxHeartbeats 1000000
namespace DL
open PySem PySem.Spec PyProof.Rows L2
/-- a loop of reached states -/
structure LoopR (rs : List Row) (S : Int → Prop) : Prop where
  ne : ∃ a, S a
  sc : SC (scM rs) S
  re : ∀ a, S a → Reach rs a
inductive ChN (rs : List Row) : (Int → Prop) → Int → Prop
  | base {S : Int → Prop} {T : Int} : LoopR rs S → TopIs (colour rs) S T → ChN rs S (T % 2)
  | sub {S L : Int → Prop} {T m : Int} : LoopR rs S → TopIs (colour rs) S T → ChN rs L m → (∀ a, L a → S a) → ChN rs S (if (m + T) % 2 = 1 then m + 1 else m)
theorem ChN.loop {rs : List Row} {S : Int → Prop} {m : Int} (h : ChN rs S m) : LoopR rs S := by
  cases h with
  | base h _ => exact h
  | sub h _ _ _ => exact h
theorem ChN.par {rs : List Row} {S : Int → Prop} {m : Int} (h : ChN rs S m) : 0 ≤ m ∧ ∃ T, TopIs (colour rs) S T ∧ m % 2 = T % 2 := by
  induction h with
  | base h t => exact ⟨by omega, _, t, by omega⟩
  | sub h t _ _ ih =>
    refine ⟨?_, _, t, ?_⟩
    · split <;> omega
    · split <;> omega
section
variable {k : Nat} {rs : List Row} (hr : RowsOk k rs) (hk : k ≤ 1000)
include hr hk
theorem reach_n {a : Int} (h : Reach rs a) : a ∈ nums rs.length := mem_nums.mpr (reach_in hr hk h)
theorem ChN.up {S S' : Int → Prop} {m : Int} (h : ChN rs S m) (h' : LoopR rs S') (hs : ∀ a, S a → S' a) : ∃ m', ChN rs S' m' ∧ m ≤ m' := by
  obtain ⟨T, t⟩ := top_ex h'.ne (fun a ha => reach_n hr hk (h'.re a ha)) (colour rs)
  refine ⟨_, .sub h' t h hs, ?_⟩
  split <;> omega
end
end DL

set_option maxHeartbeats 1000000

set_option maxHeartbeats 1000000

set_option maxHeartbeats 1000000

set_option maxHeartbeats 1000000
namespace DL
open PySem PySem.Spec PyProof.Rows L2
theorem RchG.trans {sc : Int → List Int} {a c d : Int} (h : RchG sc a c) (h' : RchG sc c d) : RchG sc a d := by
  rcases h with rfl | h
  · exact h'
  · rcases h' with rfl | h'
    · exact .inr h
    · exact .inr (h.trans h')
end DL

set_option maxHeartbeats 1000000

set_option maxHeartbeats 1000000
namespace DL
open PySem PySem.Spec PyProof.Rows L2
def slt (a b : List Nat) : Prop := a.length < b.length ∨ (a.length = b.length ∧ a < b)
def sle (a b : List Nat) : Prop := slt a b ∨ a = b
theorem lt_tr {a b c : List Nat} (h : a < b) (h' : b < c) : a < c := List.lt_trans h h'
theorem slt.trans {a b c : List Nat} (h : slt a b) (h' : slt b c) : slt a c := by
  rcases h with h | ⟨h, h2⟩ <;> rcases h' with h' | ⟨h', h2'⟩
  · exact .inl (by omega)
  · exact .inl (by omega)
  · exact .inl (by omega)
  · exact .inr ⟨by omega, lt_tr h2 h2'⟩
theorem slt_snoc {u v : List Nat} (h : slt u v) (c d : Nat) : slt (u ++ [c]) (v ++ [d]) := by
  rcases h with h | ⟨h, h2⟩
  · exact .inl (by simp; omega)
  · exact .inr ⟨by simp [h], lt_app [c] [d] h h2⟩
def sltW (p q : Wp) : Prop := slt p.1.cps.toList q.1.cps.toList
theorem cps_one (w : Str) (c : Nat) : (w ++ one c).cps.toList = w.cps.toList ++ [c] := by
  show (w.cps ++ (one c).cps).toList = _
  rw [Array.toList_append]
theorem chl_slt {x : Str} (hx : x ∈ sgs) (sc : Int → List Int) (p : Wp) : (chlP x sc p).Pairwise sltW := by
  have h := chl_pw hx sc p
  refine h.imp_of_mem fun {a b} ha hb hab => .inr ⟨?_, hab⟩
  have h1 := chl_len ha
  have h2 := chl_len hb
  rw [str_len, str_len]
  omega
theorem chl_word {x : Str} {sc : Int → List Int} {p q : Wp} (h : q ∈ chlP x sc p) : ∃ c, c ∈ x.cps.toList ∧ q.1.cps.toList = p.1.cps.toList ++ [c] := by
  unfold chlP at h
  obtain ⟨z, hz, rfl⟩ := List.mem_map.mp h
  exact ⟨z.1, (List.of_mem_zip hz).1, cps_one _ _⟩
theorem fold_slt (ins : List Int) : ∀ (L P : List Wp), P.Pairwise sltW → L.Pairwise sltW → (∀ a ∈ P, ∀ b ∈ L, sltW a b) →
    (L.foldl (addP ins) P).Pairwise sltW ∧ ∀ q ∈ L, q.2 ∈ ins → ∃ p ∈ L.foldl (addP ins) P, p.2 = q.2 ∧ sle p.1.cps.toList q.1.cps.toList
  | [], P, hP, _, _ => ⟨hP, fun _ h => by cases h⟩
  | q :: L, P, hP, hL, hPL => by
    rw [List.pairwise_cons] at hL
    rw [List.foldl_cons]
    by_cases h : q.2 ∈ ins ∧ q.2 ∉ P.map (·.2)
    · rw [addP_pos h]
      have hP' : (P ++ [q]).Pairwise sltW := List.pairwise_append.mpr ⟨hP, by simp, fun a ha b hb => by
        have : b = q := by simpa using hb
        subst this
        exact hPL a ha b List.mem_cons_self⟩
      obtain ⟨i1, i2⟩ := fold_slt ins L (P ++ [q]) hP' hL.2 (fun a ha b hb => by
        rcases List.mem_append.mp ha with ha | ha
        · exact hPL a ha b (List.mem_cons_of_mem _ hb)
        · have : a = q := by simpa using ha
          subst this
          exact hL.1 b hb)
      refine ⟨i1, fun z hz hi => ?_⟩
      rcases List.mem_cons.mp hz with rfl | hz
      · obtain ⟨T, e, _⟩ := addP_app ins L (P ++ [z])
        exact ⟨z, by rw [e]; simp, rfl, .inr rfl⟩
      · exact i2 z hz hi
    · rw [addP_neg h]
      obtain ⟨i1, i2⟩ := fold_slt ins L P hP hL.2 fun a ha b hb => hPL a ha b (List.mem_cons_of_mem _ hb)
      refine ⟨i1, fun z hz hi => ?_⟩
      rcases List.mem_cons.mp hz with rfl | hz
      · have : z.2 ∈ P.map (·.2) := Classical.byContradiction fun n => h ⟨hi, n⟩
        obtain ⟨p, hp, e⟩ := List.mem_map.mp this
        obtain ⟨T, e2, _⟩ := addP_app ins L P
        exact ⟨p, by rw [e2]; exact List.mem_append_left _ hp, e, .inl (hPL p hp z List.mem_cons_self)⟩
      · exact i2 z hz hi
/-- what holds while the search goes on -/
structure QI (x : Str) (sc : Int → List Int) (ins : List Int) (bg : Int) (P : List Wp) (s : Nat) : Prop where
  g : Grown x sc ins bg P
  pw : P.Pairwise sltW
  pa : ∀ q ∈ P, q = (("" : Str), bg) ∨ ∃ i p, i < s ∧ P[i]? = some p ∧ q ∈ chlP x sc p
  co : ∀ i p, i < s → P[i]? = some p → ∀ q ∈ chlP x sc p, q.2 ∈ ins → ∃ z ∈ P, z.2 = q.2 ∧ sle z.1.cps.toList q.1.cps.toList
section
variable {x : Str} (hx : x ∈ sgs) {sc : Int → List Int} {ins : List Int} {bg : Int}
include hx
theorem QI.step {P : List Wp} {s : Nat} (Q : QI x sc ins bg P s) (hs : s < P.length) : QI x sc ins bg ((chlP x sc (P.getD s ("", 0))).foldl (addP ins) P) (s + 1) := by
  have hg : P[s]? = some (P.getD s ("", 0)) := by
    rw [List.getD_eq_getElem?_getD, List.getElem?_eq_getElem hs]
    rfl
  have hm : P.getD s ("", 0) ∈ P := List.mem_of_getElem? hg
  generalize P.getD s ("", 0) = p at hg hm ⊢
  have hlt : ∀ a ∈ P, ∀ b ∈ chlP x sc p, sltW a b := fun a ha b hb => by
    obtain ⟨d, _, ed⟩ := chl_word hb
    rcases Q.pa a ha with rfl | ⟨i, y, hi, hy, hya⟩
    · refine .inl ?_
      have e0 : (("" : Str)).cps.toList.length = 0 := by decide
      rw [ed, List.length_append]
      show (("" : Str)).cps.toList.length < _
      rw [e0, List.length_singleton]
      omega
    · obtain ⟨c, _, ec⟩ := chl_word hya
      have hyp : sltW y p := by
        obtain ⟨i1, e1⟩ := List.getElem?_eq_some_iff.mp hy
        obtain ⟨i2, e2⟩ := List.getElem?_eq_some_iff.mp hg
        have := List.pairwise_iff_getElem.mp Q.pw i s i1 i2 hi
        rw [e1, e2] at this
        exact this
      show slt _ _
      rw [ec, ed]
      exact slt_snoc hyp c d
  obtain ⟨f1, f2⟩ := fold_slt ins (chlP x sc p) P Q.pw (chl_slt hx sc p) hlt
  obtain ⟨T, eT, sT⟩ := addP_app ins (chlP x sc p) P
  have keep : ∀ i y, P[i]? = some y → ((chlP x sc p).foldl (addP ins) P)[i]? = some y := fun i y hy => by
    rw [eT, List.getElem?_append_left (List.getElem?_eq_some_iff.mp hy).1]
    exact hy
  refine ⟨Q.g.fold hm fun q hq => hq, f1, fun q hq => ?_, fun i y hi hy q hq hin => ?_⟩
  · rw [eT] at hq
    rcases List.mem_append.mp hq with hq | hq
    · rcases Q.pa q hq with h | ⟨i, y, hi, hy, hyq⟩
      · exact .inl h
      · exact .inr ⟨i, y, by omega, keep i y hy, hyq⟩
    · exact .inr ⟨s, p, by omega, keep s p hg, sT.subset hq⟩
  · by_cases e : i = s
    · subst e
      rw [keep i p hg] at hy
      have : p = y := by simpa using hy
      subst this
      exact f2 q hq hin
    · have hil : i < P.length := by omega
      have hyP : P[i]? = some y := by
        rw [eT, List.getElem?_append_left hil] at hy
        exact hy
      obtain ⟨z, z1, z2⟩ := Q.co i y (by omega) hyP q hq hin
      exact ⟨z, by rw [eT]; exact List.mem_append_left _ z1, z2⟩
theorem QI.done {n : Nat} (hb : bg ∈ ins) (hn : ins.length ≤ n) : ∀ (fuel : Nat) (P : List Wp) (s : Nat), QI x sc ins bg P s → s ≤ P.length → n + 1 ≤ fuel + s → QI x sc ins bg (qbP x sc ins fuel P s) (qbP x sc ins fuel P s).length
  | 0, P, s, Q, hs, hf => by
    have hl : P.length ≤ ins.length := by
      have := nd_sub (c := ins) Q.g.nd fun k hk => Q.g.inn hb k hk
      rw [List.length_map] at this
      exact this
    omega
  | fuel + 1, P, s, Q, hs, hf => by
    unfold qbP
    by_cases e : s = P.length
    · rw [if_pos e]
      subst e
      exact Q
    · rw [if_neg e]
      refine QI.done hb hn fuel _ (s + 1) (Q.step hx (by omega)) ?_ (by omega)
      obtain ⟨T, eT, _⟩ := addP_app ins (chlP x sc (P.getD s ("", 0))) P
      rw [eT, List.length_append]
      omega
end
end DL

set_option maxHeartbeats 1000000

set_option maxHeartbeats 1000000

set_option maxHeartbeats 1000000

set_option maxHeartbeats 1000000
namespace DL
open PySem PySem.Spec PyProof.Rows L2
def sbF (found : List (List Int)) (e : Int) : List (List Int) := found ++ found.map (· ++ [e])
structure SInv (pre : List Int) (found : List (List Int)) : Prop where
  sub : ∀ l ∈ found, l.Sublist pre
  all : ∀ p : Int → Bool, pre.filter p ∈ found
  len : found.length = 2 ^ pre.length
theorem SInv.step {pre : List Int} {found : List (List Int)} (I : SInv pre found) (e : Int) : SInv (pre ++ [e]) (sbF found e) := by
  refine ⟨fun l hl => ?_, fun p => ?_, ?_⟩
  · rcases List.mem_append.mp hl with hl | hl
    · exact (I.sub l hl).trans (List.sublist_append_left _ _)
    · obtain ⟨m, hm, rfl⟩ := List.mem_map.mp hl
      exact (I.sub m hm).append (List.Sublist.refl _)
  · unfold sbF
    rw [List.filter_append]
    by_cases hp : p e = true
    · refine List.mem_append_right _ (List.mem_map.mpr ⟨_, I.all p, ?_⟩)
      simp [hp]
    · refine List.mem_append_left _ ?_
      have := I.all p
      simpa [hp] using this
  · unfold sbF
    rw [List.length_append, List.length_map, I.len, List.length_append, List.length_singleton, Nat.pow_succ]
    omega
end DL

set_option maxHeartbeats 1000000

set_option maxHeartbeats 1000000

set_option maxHeartbeats 1000000

set_option maxHeartbeats 1000000

set_option maxHeartbeats 1000000

set_option maxHeartbeats 1000000

set_option maxHeartbeats 1000000

set_option maxHeartbeats 1000000

set_option maxHeartbeats 1000000

set_option maxHeartbeats 1000000

set_option maxHeartbeats 1000000

set_option maxHeartbeats 1000000
namespace DL
open PySem PySem.Spec PyProof.Rows L2
structure RowsT (k : Nat) (T : Int) (rs : List Row) : Prop where
  n0 : 1 ≤ rs.length
  n1 : rs.length ≤ 6
  ok : ∀ r ∈ rs, 0 ≤ r.1 ∧ r.1 ≤ T ∧ r.2.length = k ∧ ∀ g ∈ r.2, 0 ≤ g ∧ g < rs.length
theorem RowsOk.t {k : Nat} {rs : List Row} (h : RowsOk k rs) : RowsT k 6 rs := ⟨h.n0, h.n1, fun r hr => by
  obtain ⟨a, b, c, d⟩ := h.ok r hr
  exact ⟨a, b, c, d⟩⟩
theorem RowsT.mono {k : Nat} {T T' : Int} {rs : List Row} (h : RowsT k T rs) (ht : T ≤ T') : RowsT k T' rs := ⟨h.n0, h.n1, fun r hr => by
  obtain ⟨a, b, c, d⟩ := h.ok r hr
  exact ⟨a, by omega, c, d⟩⟩
end DL

set_option maxHeartbeats 1000000

set_option maxHeartbeats 1000000

set_option maxHeartbeats 1000000

set_option maxHeartbeats 1000000

set_option maxHeartbeats 1000000

set_option maxHeartbeats 1000000

set_option maxHeartbeats 1000000

set_option maxHeartbeats 0
open PySem PySem.W PySem.Calls PyProof.Rows
end
set_option Elab.async false
set_option linter.all false
set_option maxRecDepth 100000
set_option maxHeartbeats 4000000
namespace DL
open PySem PySem.Spec PyProof.Rows L2



section
variable {K : PySem.W.Frag} {ba : Option Addr} {S S' : Hp}
theorem DRs.app : ∀ {vs ws : List V} {ds es : List D}, DRs K ba S vs ds → DRs K ba S ws es → DRs K ba S (vs ++ ws) (ds ++ es)
  | _, _, [], _, h, h' => by cases h; exact h'
  | _, _, d :: ds, _, h, h' => by
    cases h with
    | cons h1 h2 => exact .cons h1 (DRs.app h2 h')
theorem DRs.take : ∀ {vs : List V} {ds : List D} (n : Nat), DRs K ba S vs ds → DRs K ba S (vs.take n) (ds.take n)
  | _, _, 0, _ => by simpa using DRs.nil
  | _, [], n + 1, h => by cases h; exact .nil
  | _, d :: ds, n + 1, h => by
    cases h with
    | cons h1 h2 => exact .cons h1 (DRs.take n h2)
theorem DRs.drop : ∀ {vs : List V} {ds : List D} (n : Nat), DRs K ba S vs ds → DRs K ba S (vs.drop n) (ds.drop n)
  | _, _, 0, h => by simpa using h
  | _, [], n + 1, h => by cases h; exact .nil
  | _, d :: ds, n + 1, h => by
    cases h with
    | cons h1 h2 => exact DRs.drop n h2
theorem DRs.set : ∀ {vs : List V} {ds : List D} (i : Nat) {v : V} {d : D}, DRs K ba S vs ds → DR K ba S v d → DRs K ba S (vs.set i v) (ds.set i d)
  | _, [], _, _, _, h, _ => by cases h; exact .nil
  | _, _ :: _, 0, _, _, h, r => by
    cases h with
    | cons _ h2 => exact .cons r h2
  | _, _ :: _, i + 1, _, _, h, r => by
    cases h with
    | cons h1 h2 => exact .cons h1 (DRs.set i h2 r)
end

theorem ODR.dr {K : PySem.W.Frag} {ba : Option Addr} {S : Hp} {u : HO} {d : D} {p : Addr} {o : Obj} (h : ODR K ba S u d) (e : S p = some (lockU o u)) : DR K ba S (.ref p) d := by
  cases h with
  | lst r => exact .lst e r
  | ins h r => exact .ins e h r
  | dct h r => exact .dct e h r
  | dtp h r => exact .dtp e h r
theorem upd_at {H : Hp} {p : Addr} {u : HO} (h : H p = some u) : upd H p u = H := by
  funext b
  by_cases e : b = p
  · subst e; rw [upd_same, h]
  · rw [upd_ne e]

section
variable {K : PySem.W.Frag} {ba : Option Addr} {S S' H H' : Hp} {σ : L2.St} {ρ : Env} {O : List Addr}
/-- an owned slot: its list; writing it -/
theorem Slots.getOw : ∀ {σ : L2.St} {ρ : Env} {O : List Addr} {i : Nat} {d : D}, Slots K ba S H σ ρ O → ρ[i]? = some (some (.ow d)) → ∃ p u, σ[i]? = some (some (.ref p)) ∧ H p = some u ∧ ODR K ba S u d ∧ p ∈ O
  | _, _, _, _, _, .nil, e => by simp at e
  | _, _, _, 0, _, .no _, e => by simp at e
  | _, _, _, 0, _, .sh r _, e => by simp at e
  | _, _, _, 0, _, .ow h1 h2 _, e => by
    simp at e
    subst e
    exact ⟨_, _, rfl, h1, h2, List.mem_cons_self⟩
  | _, _, _, i + 1, _, .no s, e => by
    obtain ⟨p, vs, a, h1, h2, h3⟩ := Slots.getOw (i := i) s (by simpa using e)
    exact ⟨p, vs, by simpa using a, h1, h2, h3⟩
  | _, _, _, i + 1, _, .sh _ s, e => by
    obtain ⟨p, vs, a, h1, h2, h3⟩ := Slots.getOw (i := i) s (by simpa using e)
    exact ⟨p, vs, by simpa using a, h1, h2, h3⟩
  | _, _, _, i + 1, _, .ow _ _ s, e => by
    obtain ⟨p, vs, a, h1, h2, h3⟩ := Slots.getOw (i := i) s (by simpa using e)
    exact ⟨p, vs, by simpa using a, h1, h2, List.mem_cons_of_mem _ h3⟩
/-- a slot is given a shared value -/
theorem Slots.setSh {v : V} {d : D} (r : DR K ba S v d) : ∀ {σ : L2.St} {ρ : Env} {O : List Addr} {i : Nat}, Slots K ba S H σ ρ O → ∃ O', Slots K ba S H (σ.set i (some v)) (ρ.set i (some (.sh d))) O' ∧ (O'.Sublist O)
  | _, _, _, _, .nil => ⟨[], .nil, .refl _⟩
  | _, _, _, 0, .no s => ⟨_, .sh r s, .refl _⟩
  | _, _, _, 0, .sh _ s => ⟨_, .sh r s, .refl _⟩
  | _, _, _, 0, .ow _ _ s => ⟨_, .sh r s, List.sublist_cons_self _ _⟩
  | _, _, _, i + 1, .no s => by
    obtain ⟨O', h, l⟩ := Slots.setSh r (i := i) s
    exact ⟨O', .no h, l⟩
  | _, _, _, i + 1, .sh q s => by
    obtain ⟨O', h, l⟩ := Slots.setSh r (i := i) s
    exact ⟨O', .sh q h, l⟩
  | _, _, _, i + 1, .ow h1 h2 s => by
    obtain ⟨O', h, l⟩ := Slots.setSh r (i := i) s
    exact ⟨_, .ow h1 h2 h, l.cons_cons _⟩
/-- a slot is given an owned list -/
theorem Slots.setOw {p : Addr} {u : HO} {d : D} (hp : H p = some u) (r : ODR K ba S u d) : ∀ {σ : L2.St} {ρ : Env} {O : List Addr} {i : Nat}, Slots K ba S H σ ρ O → p ∉ O → O.Nodup → ∃ O', Slots K ba S H (σ.set i (some (.ref p))) (ρ.set i (some (.ow d))) O' ∧ O'.Nodup ∧ (∀ q ∈ O', q = p ∨ q ∈ O)
  | _, _, _, _, .nil, _, _ => ⟨[], .nil, List.nodup_nil, fun q hq => by cases hq⟩
  | _, _, O, 0, .no s, n, nd => ⟨_, .ow hp r s, List.nodup_cons.mpr ⟨n, nd⟩, fun q hq => by simpa using hq⟩
  | _, _, O, 0, .sh _ s, n, nd => ⟨_, .ow hp r s, List.nodup_cons.mpr ⟨n, nd⟩, fun q hq => by simpa using hq⟩
  | _, _, _ :: O, 0, .ow _ _ s, n, nd => ⟨_, .ow hp r s, List.nodup_cons.mpr ⟨fun z => n (List.mem_cons_of_mem _ z), (List.nodup_cons.mp nd).2⟩, fun q hq => by
    rcases List.mem_cons.mp hq with z | z
    · exact .inl z
    · exact .inr (List.mem_cons_of_mem _ z)⟩
  | _, _, _, i + 1, .no s, n, nd => by
    obtain ⟨O', h, l, m⟩ := Slots.setOw hp r (i := i) s n nd
    exact ⟨O', .no h, l, m⟩
  | _, _, _, i + 1, .sh q s, n, nd => by
    obtain ⟨O', h, l, m⟩ := Slots.setOw hp r (i := i) s n nd
    exact ⟨O', .sh q h, l, m⟩
  | _, _, _, i + 1, .ow h1 h2 s, n, nd => by
    obtain ⟨O', h, l, m⟩ := Slots.setOw hp r (i := i) s (fun z => n (List.mem_cons_of_mem _ z)) (List.nodup_cons.mp nd).2
    refine ⟨_, .ow h1 h2 h, List.nodup_cons.mpr ⟨fun z => ?_, l⟩, fun q hq => ?_⟩
    · rcases m _ z with e | e
      · exact n (by rw [e]; exact List.mem_cons_self)
      · exact (List.nodup_cons.mp nd).1 e
    · rcases List.mem_cons.mp hq with e | e
      · exact .inr (by rw [e]; exact List.mem_cons_self)
      · rcases m _ e with z | z
        · exact .inl z
        · exact .inr (List.mem_cons_of_mem _ z)
/-- the owned list of a slot is written: the others stand -/
theorem Slots.write {p : Addr} {u' : HO} {d' : D} (r : ODR K ba S u' d') : ∀ {σ : L2.St} {ρ : Env} {O : List Addr} {i : Nat}, Slots K ba S H σ ρ O → O.Nodup → σ[i]? = some (some (.ref p)) → p ∈ O → (∃ ds, ρ[i]? = some (some (.ow ds))) → Slots K ba S (upd H p u') σ (ρ.set i (some (.ow d'))) O
  | _, _, _, _, .nil, _, e, _, _ => by simp at e
  | _, _, _, 0, .no _, _, _, _, e => by obtain ⟨_, e⟩ := e; simp at e
  | _, _, _, 0, .sh _ _, _, _, _, e => by obtain ⟨_, e⟩ := e; simp at e
  | _, _, _, 0, .ow h1 h2 s, nd, e, _, _ => by
    simp at e
    subst e
    refine .ow upd_same r (s.mono (Same.refl _) fun q hq vs z => ?_)
    rw [upd_ne (fun y => (List.nodup_cons.mp nd).1 (by rw [← y]; exact hq))]
    exact z
  | _, _, _, i + 1, .no s, nd, e, hp, o => .no (Slots.write r (i := i) s nd (by simpa using e) hp (by simpa using o))
  | _, _, _, i + 1, .sh q s, nd, e, hp, o => .sh q (Slots.write r (i := i) s nd (by simpa using e) hp (by simpa using o))
  | _, _, _, i + 1, .ow (p := p') h1 h2 s, nd, e, hp, o => by
    have o' : ∃ ds, _ := o
    have e' := e
    simp only [List.getElem?_cons_succ] at e' o'
    obtain ⟨ds, o'⟩ := o'
    obtain ⟨q, vs, a, _, _, hq⟩ := s.getOw o'
    rw [e'] at a
    cases a
    have ne : p' ≠ p := fun z => (List.nodup_cons.mp nd).1 (by rw [z]; exact hq)
    refine .ow ?_ h2 (Slots.write r (i := i) s (List.nodup_cons.mp nd).2 e' hq ⟨ds, o'⟩)
    rw [upd_ne ne]
    exact h1
end
end DL

set_option maxHeartbeats 4000000
namespace DL
open PySem PySem.Spec PyProof.Rows L2
@[simp] def wipeE (ρ : Env) : List Nat → Env
  | [] => ρ
  | v :: vs => (wipeE ρ vs).set v none
section
variable {K : PySem.W.Frag} {C : Cq} {S S' H H' : Hp} {σ : L2.St} {ρ : Env} {b b' : Bag} {p : Addr} {u : HO}
theorem Core.alloc (o : Core C S b H) (hp : H p = none) : Core C (upd S p u) b (upd H p u) := by
  refine ⟨fun a x e => ?_, fun a x e hb => ?_, fun a e => ?_, fun a x e => ?_⟩
  · by_cases h : a = p
    · subst h; rw [upd_same] at e ⊢; exact e
    · rw [upd_ne h] at e ⊢; exact o.sub a x e
  · have h := o.fr a x e hb
    rw [upd_ne (ne_of_none h hp)]; exact h
  · obtain ⟨h1, h2⟩ := o.bag a e
    have n := ne_of_none h1 hp
    exact ⟨by rw [upd_ne n]; exact h1, by rw [upd_ne n]; exact h2⟩
  · by_cases h : a = p
    · subst h; exact .inr (.inl (o.h0 hp))
    · rw [upd_ne h] at e; exact o.new a x e
/-- an object that is not shared is written -/
theorem Core.write (o : Core C S b H) (h1 : S p = none) (h2 : C.H0 p = none) (h3 : C.ba ≠ some p) : Core C S b (upd H p u) := by
  refine ⟨fun a x e => ?_, fun a x e hb => ?_, fun a e => ?_, o.new⟩
  · rw [upd_ne (ne_of_none e h1)]; exact o.sub a x e
  · rw [upd_ne (ne_of_none e h2)]; exact o.fr a x e hb
  · obtain ⟨q1, q2⟩ := o.bag a e
    exact ⟨by rw [upd_ne (fun z => h3 (by rw [← z]; exact e))]; exact q1, q2⟩
theorem Core.shareL {u' : HO} (o : Core C S b H) (h1 : S p = none) (h2 : C.H0 p = none) (h3 : C.ba ≠ some p) : Core C (upd S p u') b (upd H p u') := by
  refine ⟨fun a x e => ?_, fun a x e hb => ?_, fun a e => ?_, fun a x e => ?_⟩
  · by_cases z : a = p
    · subst z; rw [upd_same] at e ⊢; exact e
    · rw [upd_ne z] at e ⊢; exact o.sub a x e
  · rw [upd_ne (ne_of_none e h2)]; exact o.fr a x e hb
  · obtain ⟨q1, q2⟩ := o.bag a e
    have n : a ≠ p := fun z => h3 (by rw [← z]; exact e)
    exact ⟨by rw [upd_ne n]; exact q1, by rw [upd_ne n]; exact q2⟩
  · by_cases z : a = p
    · subst z; exact .inr (.inl h2)
    · rw [upd_ne z] at e; exact o.new a x e
theorem Core.share (o : Core C S b H) (h : H p = some u) (h1 : S p = none) (h2 : C.H0 p = none) (h3 : C.ba ≠ some p) : Core C (upd S p u) b H := by
  have := o.shareL (u' := u) h1 h2 h3
  rw [upd_at h] at this
  exact this
theorem OkS.alloc (o : OkS K C S ρ b σ H) (hp : H p = none) : OkS K C (upd S p u) ρ b σ (upd H p u) := by
  obtain ⟨c, O, s, w⟩ := o
  have ne : ∀ q ∈ O, q ≠ p := fun q hq => by
    obtain ⟨vs, h⟩ := s.there q hq
    exact ne_of_none h hp
  refine ⟨c.alloc hp, O, s.mono (same_upd (c.sn hp)) (fun q hq _ h => by rw [upd_ne (ne q hq)]; exact h), w.nd, fun q hq => ?_⟩
  rw [upd_ne (ne q hq)]
  exact w.al q hq
theorem OkS.setSh {i : Nat} {v : V} {d : D} (o : OkS K C S ρ b σ H) (r : DR K C.ba S v d) : OkS K C S (ρ.set i (some (.sh d))) b (σ.set i (some v)) H := by
  obtain ⟨c, O, s, w⟩ := o
  obtain ⟨O', s', l⟩ := s.setSh r (i := i)
  exact ⟨c, O', s', w.sub l⟩
theorem Slots.setNo {ba : Option Addr} : ∀ {σ : L2.St} {ρ : Env} {O : List Addr} {i : Nat}, Slots K ba S H σ ρ O → ∃ O', Slots K ba S H (σ.set i none) (ρ.set i none) O' ∧ (O'.Sublist O)
  | _, _, _, _, .nil => ⟨[], .nil, .refl _⟩
  | _, _, _, 0, .no s => ⟨_, .no s, .refl _⟩
  | _, _, _, 0, .sh _ s => ⟨_, .no s, .refl _⟩
  | _, _, _, 0, .ow _ _ s => ⟨_, .no s, List.sublist_cons_self _ _⟩
  | _, _, _, i + 1, .no s => by
    obtain ⟨O', h, l⟩ := Slots.setNo (i := i) s
    exact ⟨O', .no h, l⟩
  | _, _, _, i + 1, .sh q s => by
    obtain ⟨O', h, l⟩ := Slots.setNo (i := i) s
    exact ⟨O', .sh q h, l⟩
  | _, _, _, i + 1, .ow h1 h2 s => by
    obtain ⟨O', h, l⟩ := Slots.setNo (i := i) s
    exact ⟨_, .ow h1 h2 h, l.cons_cons _⟩
theorem OkS.setNo {i : Nat} (o : OkS K C S ρ b σ H) : OkS K C S (ρ.set i none) b (σ.set i none) H := by
  obtain ⟨c, O, s, w⟩ := o
  obtain ⟨O', s', l⟩ := s.setNo (i := i)
  exact ⟨c, O', s', w.sub l⟩
theorem OkS.wipe (o : OkS K C S ρ b σ H) : ∀ vs : List Nat, OkS K C S (wipeE ρ vs) b (L2.wipe σ vs) H
  | [] => o
  | v :: vs => (OkS.wipe o vs).setNo
theorem OkF.shareL {u' : HO} (o : OkF K C S ρ b σ H p u) : OkS K C (upd S p u') ρ b σ (upd H p u') := by
  obtain ⟨c, h1, h2, h3, h4, O, s, w, n⟩ := o
  refine ⟨c.shareL h2 h3 h4, O, s.mono (same_upd h2) (fun q hq vs h => by rw [upd_ne (fun z => n (by rw [← z]; exact hq))]; exact h), w.nd, fun q hq => ?_⟩
  rw [upd_ne (fun z => n (by rw [← z]; exact hq))]
  exact w.al q hq
theorem OkF.setOw {d : D} {i : Nat} (o : OkF K C S ρ b σ H p u) (r : ODR K C.ba S u d) : OkS K C S (ρ.set i (some (.ow d))) b (σ.set i (some (.ref p))) H := by
  obtain ⟨c, h1, h2, h3, h4, O, s, w, n⟩ := o
  obtain ⟨O', s', nd, m⟩ := s.setOw h1 r (i := i) n w.nd
  refine ⟨c, O', s', nd, fun q hq => ?_⟩
  rcases m q hq with e | e
  · subst e; exact ⟨h2, h3, h4⟩
  · exact w.al q e
/-- an owned slot -/
theorem OkS.getOw {i : Nat} {d : D} (o : OkS K C S ρ b σ H) (e : ρ[i]? = some (some (.ow d))) :
    ∃ p u, σ[i]? = some (some (.ref p)) ∧ H p = some u ∧ ODR K C.ba S u d ∧ S p = none ∧ C.H0 p = none ∧ C.ba ≠ some p ∧
      (∀ u' d', ODR K C.ba S u' d' → OkS K C S (ρ.set i (some (.ow d'))) b σ (upd H p u')) ∧ ∀ od, OkS K C (upd S p (lockU od u)) (ρ.set i (some (.sh d))) b σ (upd H p (lockU od u)) := by
  obtain ⟨c, O, s, w⟩ := o
  obtain ⟨p, u, e1, h1, h2, hp⟩ := s.getOw e
  obtain ⟨a1, a2, a3⟩ := w.al p hp
  refine ⟨p, u, e1, h1, h2, a1, a2, a3, fun u' d' r => ⟨c.write a1 a2 a3, O, s.write r w.nd e1 hp ⟨_, e⟩, w⟩, fun od => ⟨c.shareL a1 a2 a3, ?_⟩⟩
  -- the slot's own address is owned no more
  have hl : i < σ.length := (List.getElem?_eq_some_iff.mp e1).1
  have es : σ.set i (some (.ref p)) = σ := by
    apply List.ext_getElem?
    intro j
    by_cases hj : i = j
    · subst hj; rw [List.getElem?_set_self hl, e1]
    · rw [List.getElem?_set_ne hj]
  have key : ∀ {σ : L2.St} {ρ : Env} {O : List Addr} {i : Nat} {d : D}, Slots K C.ba S H σ ρ O → O.Nodup → (∀ q ∈ O, S q = none) → ρ[i]? = some (some (.ow d)) → σ[i]? = some (some (.ref p)) → p ∈ O →
      ∃ O', Slots K C.ba (upd S p (lockU od u)) (upd H p (lockU od u)) σ (ρ.set i (some (.sh d))) O' ∧ O'.Sublist O ∧ p ∉ O' := by
    intro σ ρ O i d s
    induction s generalizing i with
    | nil => intro _ _ e; simp at e
    | no s ih =>
      intro nd al e e1 hp
      cases i with
      | zero => simp at e
      | succ i =>
        obtain ⟨O', q1, q2, q3⟩ := ih nd al (by simpa using e) (by simpa using e1) hp
        exact ⟨O', .no q1, q2, q3⟩
    | sh r s ih =>
      intro nd al e e1 hp
      cases i with
      | zero => simp at e
      | succ i =>
        obtain ⟨O', q1, q2, q3⟩ := ih nd al (by simpa using e) (by simpa using e1) hp
        exact ⟨O', .sh (r.up (same_upd a1)) q1, q2, q3⟩
    | @ow p' u' d' σ ρ O g1 g2 s ih =>
      intro nd al e e1 hp
      cases i with
      | zero =>
        simp only [List.getElem?_cons_zero, Option.some.injEq, SD.ow.injEq] at e
        simp only [List.getElem?_cons_zero, Option.some.injEq, V.ref.injEq] at e1
        subst e
        subst e1
        rw [h1] at g1
        cases g1
        refine ⟨O, .sh ((g2.up (same_upd a1)).dr upd_same) (s.mono (same_upd a1) fun q hq _ z => by rw [upd_ne (fun y => (List.nodup_cons.mp nd).1 (by rw [← y]; exact hq))]; exact z), List.sublist_cons_self _ _, (List.nodup_cons.mp nd).1⟩
      | succ i =>
        simp only [List.getElem?_cons_succ] at e e1
        obtain ⟨q, ws, f1, _, _, f2⟩ := s.getOw e
        rw [e1] at f1
        cases f1
        obtain ⟨O', q1, q2, q3⟩ := ih (List.nodup_cons.mp nd).2 (fun q hq => al q (List.mem_cons_of_mem _ hq)) e e1 f2
        have ne : p ≠ p' := fun z => (List.nodup_cons.mp nd).1 (by rw [← z]; exact f2)
        refine ⟨p' :: O', .ow (by rw [upd_ne (fun y => ne y.symm)]; exact g1) (g2.up (same_upd a1)) q1, q2.cons_cons _, fun z => ?_⟩
        rcases List.mem_cons.mp z with z | z
        · exact ne z
        · exact q3 z
  obtain ⟨O', q1, q2, q3⟩ := key s w.nd (fun q hq => (w.al q hq).1) e e1 hp
  refine ⟨O', q1, (w.sub q2).nd, fun q hq => ?_⟩
  have ne : q ≠ p := fun z => q3 (by rw [← z]; exact hq)
  rw [upd_ne ne]
  exact (w.sub q2).al q hq
/-- the bag is written -/
theorem OkS.bagW {a : Addr} (o : OkS K C S ρ b σ H) (e : C.ba = some a) : OkS K C S ρ b' σ (upd H a (.lst [.int b'.x, .int b'.y, .int b'.z])) := by
  obtain ⟨c, O, s, w⟩ := o
  obtain ⟨h1, h2⟩ := c.bag a e
  refine ⟨⟨fun q x z => ?_, fun q x z hb => ?_, fun q z => ?_, c.new⟩, O, s.mono (Same.refl _) (fun q hq vs z => ?_), w⟩
  · rw [upd_ne (ne_of_none z h2)]; exact c.sub q x z
  · rw [upd_ne (fun y => hb (by rw [y]; exact e))]; exact c.fr q x z hb
  · rw [e] at z; cases z; exact ⟨upd_same, h2⟩
  · rw [upd_ne (fun y => (w.al q hq).2.2 (by rw [y]; exact e))]; exact z
end


abbrev BF := Env → Bag → Out Bool
/-- an expression; a test; arguments; a fresh list -/
def tD (K : PySem.W.Frag) (C : Cq) (W : WX) (F : EF) : TE := fun σ H Q => ∃ S ρ b, OkS K C S ρ b σ H ∧ OutG K C W S ρ σ (fun d _ S' H' => ∀ v, DR K C.ba S' v d → Q v H') (F ρ b)
def tDt (K : PySem.W.Frag) (C : Cq) (W : WX) (F : BF) : TT := fun σ H Q => ∃ S ρ b, OkS K C S ρ b σ H ∧ OutG K C W S ρ σ (fun k _ _ H' => Q k H') (F ρ b)
def tDA (K : PySem.W.Frag) (C : Cq) (W : WX) (F : AF) : TA := fun σ H Q => ∃ S ρ b, OkS K C S ρ b σ H ∧ OutG K C W S ρ σ (fun ds _ S' H' => ∀ vs, DRs K C.ba S' vs ds → Q vs H') (F ρ b)
/-- an outcome of a fresh list -/
def OutF (K : PySem.W.Frag) (C : Cq) (W : WX) (S : Hp) (ρ : Env) (σ : L2.St) (Q : VK) : Out D → Prop
  | .ok d b => ∀ S' H' p u, Same S S' → OkF K C S' ρ b σ H' p u → ODR K C.ba S' u d → Q (.ref p) H'
  | .ex c ns ds => ∀ (dx : Option Addr) (S' H' : Hp) (b : Bag), Same S S' → OkS K C S' ρ b σ H' → XR K C.ba S' dx ns ds → W (.ref c) dx σ H'
  | .stuck => False
def tDF (K : PySem.W.Frag) (C : Cq) (W : WX) (F : EF) : TE := fun σ H Q => ∃ S ρ b, OkS K C S ρ b σ H ∧ OutF K C W S ρ σ Q (F ρ b)

section
variable {X : Cx} {e : Expr} {t t' : TE}
/-- a thing told is locked behind the expression -/
def LkV (Q : VK) : VK := fun v H => Q v H ∨ ∃ p u, v = .ref p ∧ H p = some u ∧ Mut (some u) ∧ ∀ od, Q v (upd H p (.frz od u))
theorem pe_lk (h : PE X e t) : PE X e (fun σ H Q => t σ H (LkV Q)) := ⟨fun pins s σ H Q I q => thn (h.run pins s σ H _ I q) fun v s1 ⟨x, H1, I2, r, z⟩ => by
  rcases z with z | ⟨p, u, rfl, hp, mu, z⟩
  · exact ⟨x, H1, I2, r, z⟩
  · obtain ⟨od, I3⟩ := I2.lock hp mu
    exact ⟨_, _, I3, r, z od⟩⟩
/-- a thing is locked ahead of a statement -/
def LkS (t : TS) : TS := fun D σ H => t D σ H ∨ ∃ p u, H p = some u ∧ Mut (some u) ∧ ∀ od, t D σ (upd H p (.frz od u))
theorem ps_lk {st : Stmt} {t : TS} (h : PS X st t) : PS X st (LkS t) := ⟨fun pins s σ H D I q => by
  rcases q with q | ⟨p, u, hp, mu, q⟩
  · exact h.run pins s σ H D I q
  · obtain ⟨od, I3⟩ := I.lock hp mu
    exact h.run pins s σ _ D I3 (q od)⟩
/-- .. or behind it -/
def LkN (D : Ends) : Ends := { D with nx := fun σ H => D.nx σ H ∨ ∃ p u, H p = some u ∧ Mut (some u) ∧ ∀ od, D.nx σ (upd H p (.frz od u)) }
theorem ps_lkN {st : Stmt} {t : TS} (h : PS X st t) : PS X st (fun D σ H => t (LkN D) σ H) := ⟨fun pins s σ H D I q => thn (h.run pins s σ H (LkN D) I q) fun f s1 z => by
  cases f with
  | next =>
    obtain ⟨σ', H', I2, z⟩ := z
    rcases z with z | ⟨p, u, hp, mu, z⟩
    · exact ⟨σ', H', I2, z⟩
    · obtain ⟨od, I3⟩ := I2.lock hp mu
      exact ⟨σ', _, I3, z od⟩
  | brk => exact z
  | cont => exact z
  | ret v => exact z⟩
theorem pe_imp (h : PE X e t) (f : ∀ σ H Q, t' σ H Q → t σ H Q) : PE X e t' := ⟨fun pins s σ H Q I q => h.run pins s σ H Q I (f σ H Q q)⟩
theorem pt_imp {t t' : TT} (h : PT X e t) (f : ∀ σ H Q, t' σ H Q → t σ H Q) : PT X e t' := ⟨fun pins s σ H Q I q => h.run pins s σ H Q I (f σ H Q q)⟩
theorem pw_imp {t t' : TT} (h : PW X e t) (f : ∀ σ H Q, t' σ H Q → t σ H Q) : PW X e t' := ⟨fun wh pins s σ H Q I q => h.run wh pins s σ H Q I (f σ H Q q)⟩
theorem pa_imp {es : List Expr} {t t' : TA} (h : PA X es t) (f : ∀ σ H Q, t' σ H Q → t σ H Q) : PA X es t' := ⟨fun pos pins s σ H Q I q => h.run pos pins s σ H Q I (f σ H Q q)⟩
theorem ps_imp {st : Stmt} {t t' : TS} (h : PS X st t) (f : ∀ D σ H, t' D σ H → t D σ H) : PS X st t' := ⟨fun pins s σ H D I q => h.run pins s σ H D I (f D σ H q)⟩
theorem pss_imp {st : List Stmt} {t t' : TS} (h : PSs X st t) (f : ∀ D σ H, t' D σ H → t D σ H) : PSs X st t' := ⟨fun pins s σ H D I q => h.run pins s σ H D I (f D σ H q)⟩
theorem pg_imp {tg : Expr} {t t' : TG} (h : PG X tg t) (f : ∀ v σ H Q, t' v σ H Q → t v σ H Q) : PG X tg t' := ⟨fun pins s σ H v u Q I r q => h.run pins s σ H v u Q I r (f v σ H Q q)⟩
theorem pi_imp {tg it : Expr} {t t' : TI} (h : PI X tg it t) (f : ∀ σ H R, t' σ H R → t σ H R) : PI X tg it t' := ⟨fun pins s σ H R I q => h.run pins s σ H R I (f σ H R q)⟩
end

section
variable {X : Cx} {C : Cq} {W : WX} {e a b c : Expr} {pos : Pos} {F Fa Fb Fc : EF}
/-- a fresh list as a value -/
theorem d_share (h : PE X e (tDF X.K C W F)) : PE X e (tD X.K C W F) := pe_imp (pe_lk h) fun σ H Q ⟨S, ρ, b, ok, q⟩ => by
  refine ⟨S, ρ, b, ok, ?_⟩
  cases hF : F ρ b with
  | ok d b' =>
    rw [hF] at q
    intro S' H' p u es of r
    rcases r.how with hw | ⟨mu, hw⟩
    · have q' := q _ _ (es.trans of.same) (of.shareL (u' := lockU default u)) _ ((r.up of.same).dr upd_same)
      rw [hw default, upd_at of.at_] at q'
      exact .inl q'
    · refine .inr ⟨p, u, rfl, of.at_, mu, fun od => ?_⟩
      have q' := q _ _ (es.trans of.same) (of.shareL (u' := lockU od u)) _ ((r.up of.same).dr upd_same)
      rw [hw od] at q'
      exact q'
  | ex c ns ds => rw [hF] at q; exact q
  | stuck => rw [hF] at q; exact q
@[simp] def eV (i : Nat) : EF := fun ρ b => match ρ[i]? with
  | some (some (.sh d)) => .ok d b
  | _ => .stuck
theorem d_var {x : Str} {i : Nat} (h : PE X (.Name x pos) (tVar i)) : PE X (.Name x pos) (tD X.K C W (eV i)) := pe_imp h fun σ H Q ⟨S, ρ, b, ok, q⟩ => by
  unfold eV at q
  cases hr : ρ[i]? with
  | none => rw [hr] at q; exact q.elim
  | some o =>
    cases o with
    | none => rw [hr] at q; exact q.elim
    | some s =>
      cases s with
      | ow ds => rw [hr] at q; exact q.elim
      | sh d =>
        rw [hr] at q
        obtain ⟨v, hv, r⟩ := ok.get hr
        exact ⟨v, hv, q S H (Same.refl _) ok v r⟩
@[simp] def eC (d : D) : EF := fun _ b => .ok d b
theorem d_const {v : V} {d : D} (h : PE X e (tC v)) (r : ∀ S, DR X.K C.ba S v d) : PE X e (tD X.K C W (eC d)) := pe_imp h fun σ H Q ⟨S, ρ, b, ok, q⟩ => q S H (Same.refl _) ok v (r S)
theorem tOp_of {r : R2} {f : D → D → Option D} (hf : Op2 X.K C r f) {σ : L2.St} {H : Hp} {Q : VK} (h : tD X.K C W (e2 f Fa Fb) σ H Q) : tOp r (tD X.K C W Fa) (tD X.K C W Fb) σ H Q := by
  obtain ⟨S, ρ, b, ok, q⟩ := h
  refine ⟨S, ρ, b, ok, q.bind.imp fun x b1 S1 H1 s1 ok1 q1 v r1 => ⟨S1, ρ, b1, ok1, q1.bind.imp fun y b2 S2 H2 s2 ok2 q2 w r2 => ?_⟩⟩
  obtain ⟨z, hz, q3⟩ := q2.pureO
  exact hf S2 ρ b2 σ H2 v w x y z Q ok2 (r1.up s2) r2 hz fun u S' H' e o r => q3 S' H' e o u r
theorem d_op {op : Operator} {r : R2} {f : D → D → Option D} (ho : OpR X (binaryOp op) r) (hf : Op2 X.K C r f) (ha : PE X a (tD X.K C W Fa)) (hb : PE X b (tD X.K C W Fb)) : PE X (.BinOp a op b pos) (tD X.K C W (e2 f Fa Fb)) :=
  pe_imp (pe_op ho ha hb) fun _ _ _ h => tOp_of hf h
theorem d_cmp {op : CmpOp} {r : R2} {f : D → D → Option D} (ho : OpR X (compareOp op) r) (hf : Op2 X.K C r f) (ha : PE X a (tD X.K C W Fa)) (hb : PE X b (tD X.K C W Fb)) (hm : behindInMarks op b = false) : PE X (.Compare a [op] [b] pos) (tD X.K C W (e2 f Fa Fb)) :=
  pe_imp (pe_cmpR ho ha hb hm) fun _ _ _ h => tOp_of hf h
/-- a value as a test: a truth -/
@[simp] def bB (F : EF) : BF := fun ρ b => (F ρ b).bind fun d b' => match d with
  | .bl k => .ok k b'
  | _ => .stuck
theorem tTest_of {σ : L2.St} {H : Hp} {Q : Bool → Hp → Prop} (h : tDt X.K C W (bB F) σ H Q) : tD X.K C W F σ H (fun x H' => ∃ k, x = .bl k ∧ Q k H') := by
  obtain ⟨S, ρ, b, ok, q⟩ := h
  refine ⟨S, ρ, b, ok, q.bind.imp fun d b1 S1 H1 s1 ok1 q1 v r1 => ?_⟩
  cases d with
  | bl k => cases r1; exact ⟨k, rfl, q1 S1 H1 (Same.refl _) ok1⟩
  | non => exact q1.elim
  | int _ => exact q1.elim
  | str _ => exact q1.elim
  | tup _ => exact q1.elim
  | lst _ => exact q1.elim
  | fl _ => exact q1.elim
  | ins _ _ _ => exact q1.elim
  | obj _ => exact q1.elim
  | bag => exact q1.elim
  | dct _ _ => exact q1.elim
  | dtp _ _ => exact q1.elim
theorem d_tcmp {op : CmpOp} {r : R2} {f : D → D → Option D} (ho : OpR X (compareOp op) r) (hf : Op2 X.K C r f) (ha : PE X a (tD X.K C W Fa)) (hb : PE X b (tD X.K C W Fb)) (hm : behindInMarks op b = false) : PT X (.Compare a [op] [b] pos) (tDt X.K C W (bB (e2 f Fa Fb))) :=
  pt_imp (pt_cmpR ho ha hb hm) fun _ _ _ h => by
    have h' := tTest_of h
    exact tOp_of hf h'
theorem d_tval (h : PE X e (tD X.K C W F)) (he : ∀ whole, isTrue e X.env whole = (do let v ← whole; standAt e.pos; holding [v] (truthy v)) := by intro _; rfl) : PT X e (tDt X.K C W (bB F)) :=
  pt_imp (pt_val h he) fun _ _ _ h => tTest_of h
variable {Ga Gb : BF} {rest : List Expr}
@[simp] def bAnd (Ga Gb : BF) : BF := fun ρ b => (Ga ρ b).bind fun k b' => if k = true then Gb ρ b' else .ok false b'
@[simp] def bOr (Ga Gb : BF) : BF := fun ρ b => (Ga ρ b).bind fun k b' => if k = true then .ok true b' else Gb ρ b'
@[simp] def bNot (Ga : BF) : BF := fun ρ b => (Ga ρ b).bind fun k b' => .ok (!k) b'
theorem d_not (h : PT X a (tDt X.K C W Ga)) : PT X (.UnaryOp .Not a pos) (tDt X.K C W (bNot Ga)) := pt_imp (pt_not h) fun σ H Q ⟨S, ρ, b, ok, q⟩ =>
  ⟨S, ρ, b, ok, q.bind.imp fun k b1 S1 H1 s1 ok1 q1 => q1 S1 H1 (Same.refl _) ok1⟩
theorem d_and (ha : PT X a (tDt X.K C W Ga)) (hb : PW X (.BoolOp .And (b :: rest) pos) (tDt X.K C W Gb)) : PW X (.BoolOp .And (a :: b :: rest) pos) (tDt X.K C W (bAnd Ga Gb)) := pw_imp (pw_and ha hb) fun σ H Q ⟨S, ρ, b, ok, q⟩ =>
  ⟨S, ρ, b, ok, q.bind.imp fun k b1 S1 H1 s1 ok1 q1 => by
    cases k with
    | true => exact ⟨S1, ρ, b1, ok1, q1⟩
    | false => exact q1 S1 H1 (Same.refl _) ok1⟩
theorem d_or (ha : PT X a (tDt X.K C W Ga)) (hb : PW X (.BoolOp .Or (b :: rest) pos) (tDt X.K C W Gb)) : PW X (.BoolOp .Or (a :: b :: rest) pos) (tDt X.K C W (bOr Ga Gb)) := pw_imp (pw_or ha hb) fun σ H Q ⟨S, ρ, b, ok, q⟩ =>
  ⟨S, ρ, b, ok, q.bind.imp fun k b1 S1 H1 s1 ok1 q1 => by
    cases k with
    | true => exact q1 S1 H1 (Same.refl _) ok1
    | false => exact ⟨S1, ρ, b1, ok1, q1⟩⟩
/-- as values, truths all -/
@[simp] def eAnd (Fa Fb : EF) : EF := fun ρ b => (Fa ρ b).bind fun d b' => match d with
  | .bl k => if k = true then Fb ρ b' else .ok (.bl false) b'
  | _ => .stuck
@[simp] def eOr (Fa Fb : EF) : EF := fun ρ b => (Fa ρ b).bind fun d b' => match d with
  | .bl k => if k = true then .ok (.bl true) b' else Fb ρ b'
  | _ => .stuck
@[simp] def eNot (Fa : EF) : EF := fun ρ b => (Fa ρ b).bind fun d b' => match d with
  | .bl k => .ok (.bl (!k)) b'
  | _ => .stuck
theorem d_eand (ha : PE X a (tD X.K C W Fa)) (hb : PE X (.BoolOp .And (b :: rest) pos) (tD X.K C W Fb)) : PE X (.BoolOp .And (a :: b :: rest) pos) (tD X.K C W (eAnd Fa Fb)) := pe_imp (pe_and ha hb) fun σ H Q ⟨S, ρ, b, ok, q⟩ => by
  refine ⟨S, ρ, b, ok, q.bind.imp fun d b1 S1 H1 s1 ok1 q1 v r => ?_⟩
  cases d <;> first | exact q1.elim | skip
  rename_i k
  cases r
  refine ⟨k, rfl, ?_⟩
  cases k with
  | true => exact ⟨S1, ρ, b1, ok1, q1⟩
  | false => exact q1 S1 H1 (Same.refl _) ok1 _ (.bl _)
theorem d_eor (ha : PE X a (tD X.K C W Fa)) (hb : PE X (.BoolOp .Or (b :: rest) pos) (tD X.K C W Fb)) : PE X (.BoolOp .Or (a :: b :: rest) pos) (tD X.K C W (eOr Fa Fb)) := pe_imp (pe_or ha hb) fun σ H Q ⟨S, ρ, b, ok, q⟩ => by
  refine ⟨S, ρ, b, ok, q.bind.imp fun d b1 S1 H1 s1 ok1 q1 v r => ?_⟩
  cases d <;> first | exact q1.elim | skip
  rename_i k
  cases r
  refine ⟨k, rfl, ?_⟩
  cases k with
  | true => exact q1 S1 H1 (Same.refl _) ok1 _ (.bl _)
  | false => exact ⟨S1, ρ, b1, ok1, q1⟩
theorem d_enot (ha : PE X a (tD X.K C W Fa)) : PE X (.UnaryOp .Not a pos) (tD X.K C W (eNot Fa)) := pe_imp (pe_not ha) fun σ H Q ⟨S, ρ, b, ok, q⟩ => by
  refine ⟨S, ρ, b, ok, q.bind.imp fun d b1 S1 H1 s1 ok1 q1 v r => ?_⟩
  cases d <;> first | exact q1.elim | skip
  rename_i k
  cases r
  exact ⟨k, rfl, q1 S1 H1 (Same.refl _) ok1 _ (.bl _)⟩
@[simp] def eIf (G : BF) (Fa Fb : EF) : EF := fun ρ b => (G ρ b).bind fun k b' => if k = true then Fa ρ b' else Fb ρ b'
theorem d_if {G : BF} (hc : PT X c (tDt X.K C W G)) (ha : PE X a (tD X.K C W Fa)) (hb : PE X b (tD X.K C W Fb)) : PE X (.IfExp c a b pos) (tD X.K C W (eIf G Fa Fb)) := pe_imp (pe_ifExp hc ha hb) fun σ H Q ⟨S, ρ, b, ok, q⟩ =>
  ⟨S, ρ, b, ok, q.bind.imp fun k b1 S1 H1 s1 ok1 q1 => by
    cases k with
    | true => exact ⟨S1, ρ, b1, ok1, q1⟩
    | false => exact ⟨S1, ρ, b1, ok1, q1⟩⟩
@[simp] def aNil : AF := fun _ b => .ok [] b
@[simp] def aCons (F : EF) (G : AF) : AF := fun ρ b => (F ρ b).bind fun d b1 => (G ρ b1).bind fun ds b2 => .ok (d :: ds) b2
theorem d_anil : PA X [] (tDA X.K C W aNil) := pa_imp pa_nil fun σ H Q ⟨S, ρ, b, ok, q⟩ => q S H (Same.refl _) ok [] .nil
theorem d_acons {es : List Expr} {G : AF} (he : PE X e (tD X.K C W F)) (hr : PA X es (tDA X.K C W G)) (hs : starEach (e :: es) X.env = (false, eval e X.env) :: starEach es X.env := by rfl) : PA X (e :: es) (tDA X.K C W (aCons F G)) :=
  pa_imp (pa_cons he hr hs) fun σ H Q ⟨S, ρ, b, ok, q⟩ =>
    ⟨S, ρ, b, ok, q.bind.imp fun d b1 S1 H1 s1 ok1 q1 v r => ⟨S1, ρ, b1, ok1, q1.bind.imp fun ds b2 S2 H2 s2 ok2 q2 vs rs => q2 S2 H2 (Same.refl _) ok2 _ (.cons (r.up s2) rs)⟩⟩
/-- displays: at most a thousand items -/
@[simp] def eTup (G : AF) : EF := fun ρ b => (G ρ b).bind fun ds b' => if ds.length ≤ 100000 then .ok (.tup ds) b' else .stuck
@[simp] def eLst (G : AF) : EF := fun ρ b => (G ρ b).bind fun ds b' => if ds.length ≤ 100000 then .ok (.lst ds) b' else .stuck
theorem small_lt {n : Nat} (h : n ≤ 100000) : n < sizeLine := by rw [sizeLine_eq]; omega
theorem small_le {n : Nat} (h : n ≤ 100000) : n ≤ sizeLine := Nat.le_of_lt (small_lt h)
theorem d_tup {es : List Expr} {k} {G : AF} (h : PA X es (tDA X.K C W G)) : PE X (.Tuple es k pos) (tD X.K C W (eTup G)) := pe_imp (pe_tup h) fun σ H Q ⟨S, ρ, b, ok, q⟩ => by
  refine ⟨S, ρ, b, ok, q.bind.imp fun ds b1 S1 H1 s1 ok1 q1 vs r => ?_⟩
  by_cases hl : ds.length ≤ 100000
  · rw [if_pos hl] at q1
    refine ⟨small_le (by rw [r.length]; exact hl), fun p hp => ?_⟩
    exact q1 _ _ (ok1.same hp) (ok1.alloc hp) _ (.tup upd_same (r.up (ok1.same hp)))
  · rw [if_neg hl] at q1; exact q1.elim
theorem d_lst {es : List Expr} {G : AF} (h : PA X es (tDA X.K C W G)) : PE X (.List es pos) (tDF X.K C W (eLst G)) := pe_imp (pe_lst h) fun σ H Q ⟨S, ρ, b, ok, q⟩ => by
  refine ⟨S, ρ, b, ok, ?_⟩
  unfold eLst at q
  cases hG : G ρ b with
  | stuck => rw [hG] at q; exact q.elim
  | ex c ns ds => rw [hG] at q; exact q
  | ok ds b1 =>
    rw [hG] at q
    intro S1 H1 s1 ok1 vs r
    by_cases hl : ds.length ≤ 100000
    · have q : OutF X.K C W S ρ σ Q (if ds.length ≤ 100000 then .ok (.lst ds) b1 else .stuck) := q
      rw [if_pos hl] at q
      refine ⟨small_le (by rw [r.length]; exact hl), fun p hp => ?_⟩
      exact q S1 _ p _ s1 (ok1.fresh hp) (.lst r)
    · have q : OutF X.K C W S ρ σ Q (if ds.length ≤ 100000 then .ok (.lst ds) b1 else .stuck) := q
      rw [if_neg hl] at q
      exact q.elim
end
end DL

set_option maxHeartbeats 4000000
namespace DL
open PySem PySem.Spec PyProof.Rows L2
abbrev SF := Env → Bag → SO
def tDS (K : PySem.W.Frag) (C : Cq) (W : WX) (F : SF) : TS := fun E σ H => ∃ S ρ b, OkS K C S ρ b σ H ∧ SOk K C W S E (F ρ b)
section
variable {X : Cx} {C : Cq} {W : WX} {st : Stmt} {sts : List Stmt} {e : Expr} {pos : Pos} {F : EF} {G Gr : SF}
@[simp] def sNil : SF := fun ρ b => .nx ρ b
@[simp] def sSeq (G Gr : SF) : SF := fun ρ b => (G ρ b).seq Gr
theorem d_nil : PSs X [] (tDS X.K C W sNil) := pss_imp pss_nil fun E σ H ⟨S, ρ, b, ok, q⟩ => q S σ H (Same.refl _) ok
theorem d_cons (h1 : PS X st (tDS X.K C W G)) (h2 : PSs X sts (tDS X.K C W Gr)) : PSs X (st :: sts) (tDS X.K C W (sSeq G Gr)) := pss_imp (pss_cons h1 h2) fun E σ H ⟨S, ρ, b, ok, q⟩ => ⟨S, ρ, b, ok, q.seq⟩
theorem d_one (h1 : PS X st (tDS X.K C W G)) : PSs X [st] (tDS X.K C W G) := pss_one h1
@[simp] def sRet (F : EF) : SF := fun ρ b => (F ρ b).st ρ fun d b' => .rt d b'
theorem d_ret (h : PE X e (tD X.K C W F)) : PS X (.Return (some e) pos) (tDS X.K C W (sRet F)) := ps_imp (ps_ret h) fun E σ H ⟨S, ρ, b, ok, q⟩ =>
  ⟨S, ρ, b, ok, q.st.imp fun d b1 S1 H1 s1 ok1 q1 v r => q1 S1 H1 v (Same.refl _) ok1.core r⟩
/-- a fresh list handed back -/
@[simp] def sRetO (F : EF) : SF := fun ρ b => (F ρ b).st ρ fun ds b' => .ro ds b'
theorem outF_of {K : PySem.W.Frag} {S : Hp} {ρ : Env} {σ : L2.St} {E : Ends} {o : Out D} {k : D → Bag → SO} {Q : VK} (h : SOk K C W S E (o.st ρ k)) (f : ∀ d b S' H' p u, Same S S' → SOk K C W S' E (k d b) → OkF K C S' ρ b σ H' p u → ODR K C.ba S' u d → Q (.ref p) H') : OutF K C W S ρ σ Q o := by
  cases o with
  | ok ds b => exact fun S' H' p vs e o r => f ds b S' H' p vs e (SOk.up h e) o r
  | ex c ns ds => exact fun dx S' H' b e o x => h dx S' σ H' b e o x
  | stuck => exact h
theorem d_retO (h : PE X e (tDF X.K C W F)) : PS X (.Return (some e) pos) (tDS X.K C W (sRetO F)) := ps_imp (ps_ret h) fun E σ H ⟨S, ρ, b, ok, q⟩ =>
  ⟨S, ρ, b, ok, outF_of q fun ds b S' H' p vs _ q1 o r => q1 S' H' p vs (Same.refl _) o.core o.at_ o.sn o.h0 o.nba r⟩
@[simp] def sDrop (F : EF) : SF := fun ρ b => (F ρ b).st ρ fun _ b' => .nx ρ b'
theorem d_expr (h : PE X e (tD X.K C W F)) (hs : swapsWith e none pos.line X.env = pure false := by rfl) : PS X (.Expr e pos) (tDS X.K C W (sDrop F)) := ps_imp (ps_expr h hs) fun E σ H ⟨S, ρ, b, ok, q⟩ =>
  ⟨S, ρ, b, ok, q.st.imp fun d b1 S1 H1 s1 ok1 q1 v r => q1 S1 σ H1 (Same.refl _) ok1⟩
@[simp] def sIf (G : BF) (A B : SF) : SF := fun ρ b => (G ρ b).st ρ fun k b' => if k = true then A ρ b' else B ρ b'
theorem d_sif {c : Expr} {as bs : List Stmt} {G : BF} {A B : SF} (hc : PT X c (tDt X.K C W G)) (ha : PSs X as (tDS X.K C W A)) (hb : PSs X bs (tDS X.K C W B)) : PS X (.If c as bs pos) (tDS X.K C W (sIf G A B)) := ps_imp (ps_if hc ha hb) fun E σ H ⟨S, ρ, b, ok, q⟩ =>
  ⟨S, ρ, b, ok, q.st.imp fun k b1 S1 H1 s1 ok1 q1 => by
    cases k with
    | true => exact ⟨S1, ρ, b1, ok1, q1⟩
    | false => exact ⟨S1, ρ, b1, ok1, q1⟩⟩
/-- code that is never come to -/
def sNever : SF := fun _ _ => .stuck
theorem d_never : PS X st (tDS X.K C W sNever) := ps_imp ps_never fun E σ H ⟨S, ρ, b, ok, q⟩ => q
abbrev GF := D → Env → Bag → Option (Env × Bag)
abbrev GsF := List D → Env → Bag → Option (Env × Bag)
/-- targets of an assignment or a for: they raise nothing, draw nothing -/
def tDG (K : PySem.W.Frag) (C : Cq) (g : GF) : TG := fun v σ H Q => ∃ S ρ b d ρ' b', OkS K C S ρ b σ H ∧ DR K C.ba S v d ∧ g d ρ b = some (ρ', b') ∧ ∀ S' σ' H', Same S S' → OkS K C S' ρ' b' σ' H' → Q σ' H'
@[simp] def gN (i : Nat) : GF := fun d ρ b => some (ρ.set i (some (.sh d)), b)
theorem d_gname {tg : Expr} {i : Nat} (h : PG X tg (gName i)) : PG X tg (tDG X.K C (gN i)) := pg_imp h fun v σ H Q ⟨S, ρ, b, d, ρ', b', ok, r, e, q⟩ => by
  cases e
  exact q S _ H (Same.refl _) (ok.setSh r)
@[simp] def gsN : GsF
  | [], ρ, b => some (ρ, b)
  | _ :: _, _, _ => none
@[simp] def gsC (g : GF) (gs : GsF) : GsF
  | [], _, _ => none
  | d :: ds, ρ, b => (g d ρ b).bind fun z => gs ds z.1 z.2
def tDGs (K : PySem.W.Frag) (C : Cq) (g : GsF) : TGs := fun vs σ H Q => ∃ S ρ b ds ρ' b', OkS K C S ρ b σ H ∧ DRs K C.ba S vs ds ∧ g ds ρ b = some (ρ', b') ∧ ∀ S' σ' H', Same S S' → OkS K C S' ρ' b' σ' H' → Q σ' H'
theorem pgs_imp {ts : List Expr} {t t' : TGs} (h : PGs X ts t) (f : ∀ vs σ H Q, t' vs σ H Q → t vs σ H Q) : PGs X ts t' := ⟨fun pins s σ H vs us Q I r q => h.run pins s σ H vs us Q I r (f vs σ H Q q)⟩
theorem d_gnil : PGs X [] (tDGs X.K C gsN) := pgs_imp pgs_nil fun vs σ H Q ⟨S, ρ, b, ds, ρ', b', ok, r, e, q⟩ => by
  cases ds with
  | nil => cases r; cases e; exact ⟨rfl, q S σ H (Same.refl _) ok⟩
  | cons d ds => cases e
theorem d_gcons {tg : Expr} {ts : List Expr} {g : GF} {gs : GsF} (h1 : PG X tg (tDG X.K C g)) (h2 : PGs X ts (tDGs X.K C gs)) (hs : (assignEach (tg :: ts) X.env).map (·.2) = assign tg X.env :: (assignEach ts X.env).map (·.2) := by rfl) :
    PGs X (tg :: ts) (tDGs X.K C (gsC g gs)) := pgs_imp (pgs_cons h1 h2 hs) fun vs σ H Q ⟨S, ρ, b, ds, ρ', b', ok, r, e, q⟩ => by
  cases ds with
  | nil => cases e
  | cons d ds =>
    cases r with
    | cons r1 r2 =>
      simp only [gsC, Option.bind_eq_some_iff] at e
      obtain ⟨z, e1, e2⟩ := e
      exact ⟨_, _, rfl, S, ρ, b, d, z.1, z.2, ok, r1, e1, fun S' σ' H' s' ok' => ⟨S', z.1, z.2, ds, ρ', b', ok', r2.up s', e2, fun S2 σ2 H2 s2 ok2 => q S2 σ2 H2 (s'.trans s2) ok2⟩⟩
@[simp] def gT (n : Nat) (gs : GsF) : GF := fun d ρ b => match d with
  | .tup ds => if ds.length = n then gs ds ρ b else none
  | _ => none
theorem d_gtup {es : List Expr} {k n : Nat} {gs : GsF} (hc : X.calm = true) (h : PGs X es (tDGs X.K C gs)) (hn : (assignEach es X.env).length = n := by rfl) (hst : (assignEach es X.env).findIdx? (·.1) = none := by rfl) :
    PG X (.Tuple es k pos) (tDG X.K C (gT n gs)) := pg_imp (pg_tup hc h hn hst) fun v σ H Q ⟨S, ρ, b, d, ρ', b', ok, r, e, q⟩ => by
  cases d with
  | tup ds =>
    cases r with
    | tup h1 h2 =>
      simp only [gT] at e
      by_cases hl : ds.length = n
      · rw [if_pos hl] at e
        exact ⟨_, _, rfl, seqT ok.core.sub h1, by rw [h2.length]; exact hl, S, ρ, b, ds, ρ', b', ok, h2, e, q⟩
      · rw [if_neg hl] at e; cases e
  | non => cases e
  | bl _ => cases e
  | int _ => cases e
  | str _ => cases e
  | lst _ => cases e
  | fl _ => cases e
  | ins _ _ _ => cases e
  | obj _ => cases e
  | bag => cases e
  | dct _ _ => cases e
  | dtp _ _ => cases e
@[simp] def sAsg (F : EF) (g : GF) : SF := fun ρ b => (F ρ b).st ρ fun d b' => match g d ρ b' with
  | some z => .nx z.1 z.2
  | none => .stuck
theorem sAsg_of {F : EF} {g : GF} {E : Ends} {σ : L2.St} {H : Hp} (h : tDS X.K C W (sAsg F g) E σ H) : tAsg (tD X.K C W F) (tDG X.K C g) E σ H := by
  obtain ⟨S, ρ, b, ok, q⟩ := h
  refine ⟨S, ρ, b, ok, q.st.imp fun d b1 S1 H1 s1 ok1 q1 v r => ?_⟩
  cases hg : g d ρ b1 with
  | none => rw [hg] at q1; exact q1.elim
  | some z =>
    rw [hg] at q1
    exact ⟨S1, ρ, b1, d, z.1, z.2, ok1, r, hg, fun S' σ' H' s' ok' => q1 S' σ' H' s' ok'⟩
/-- name = e; any target = e -/
theorem d_set {i : Nat} (h : PS X st (tAsg (tD X.K C W F) (gName i))) : PS X st (tDS X.K C W (sAsg F (gN i))) := ps_imp h fun E σ H q => by
  obtain ⟨S, ρ, b, ok, q⟩ := q
  exact ⟨S, ρ, b, ok, q.st.imp fun d b1 S1 H1 s1 ok1 q1 v r => q1 S1 _ H1 (Same.refl _) (ok1.setSh r)⟩
theorem d_asg {tg : Expr} {g : GF} (he : PE X e (tD X.K C W F)) (hg : PG X tg (tDG X.K C g)) (hs : swapsWithSole [tg] e pos.line X.env = pure false := by rfl) (hw : swappedStores [tg] e X.env = pure none := by rfl)
    (h1 : (assignEach [tg] X.env).map (·.2) = [assign tg X.env] := by rfl) : PS X (.Assign [tg] e pos) (tDS X.K C W (sAsg F g)) := ps_imp (ps_asg he hg hs hw h1) fun _ _ _ h => sAsg_of h
/-- name = a fresh list, owned -/
@[simp] def sOwn (F : EF) (i : Nat) : SF := fun ρ b => (F ρ b).st ρ fun ds b' => .nx (ρ.set i (some (.ow ds))) b'
theorem d_own {i : Nat} (h : PS X st (tAsg (tDF X.K C W F) (gName i))) : PS X st (tDS X.K C W (sOwn F i)) := ps_imp h fun E σ H ⟨S, ρ, b, ok, q⟩ =>
  ⟨S, ρ, b, ok, outF_of q fun ds b S' H' p vs _ q1 o r => q1 S' _ H' (Same.refl _) (o.setOw r)⟩
theorem d_setF {i : Nat} (h : PS X st (tAsg (tDF X.K C W F) (gName i))) : PS X st (tDS X.K C W (sAsg F (gN i))) := ps_imp (ps_lkN h) fun E σ H ⟨S, ρ, b, ok, q⟩ =>
  ⟨S, ρ, b, ok, outF_of (E := E) q fun d b S' H' p u _ q1 o r => by
    rcases r.how with hw | ⟨mu, hw⟩
    · have q' := q1 _ _ _ o.same ((o.shareL (u' := lockU default u)).setSh ((r.up o.same).dr upd_same))
      rw [hw default, upd_at o.at_] at q'
      exact .inl q'
    · refine .inr ⟨p, u, o.at_, mu, fun od => ?_⟩
      have q' := q1 _ _ _ o.same ((o.shareL (u' := lockU od u)).setSh ((r.up o.same).dr upd_same))
      rw [hw od] at q'
      exact q'⟩
/-- an owned slot is shared from here on -/
@[simp] def sFreeze (i : Nat) (G : SF) : SF := fun ρ b => match ρ[i]? with
  | some (some (.ow d)) => G (ρ.set i (some (.sh d))) b
  | _ => G ρ b
theorem tDS_freeze {i : Nat} {E : Ends} {σ : L2.St} {H : Hp} (h : tDS X.K C W (sFreeze i G) E σ H) : LkS (tDS X.K C W G) E σ H := by
  obtain ⟨S, ρ, b, ok, q⟩ := h
  unfold sFreeze at q
  cases hr : ρ[i]? with
  | none => rw [hr] at q; exact .inl ⟨S, ρ, b, ok, q⟩
  | some o =>
    cases o with
    | none => rw [hr] at q; exact .inl ⟨S, ρ, b, ok, q⟩
    | some s =>
      cases s with
      | sh d => rw [hr] at q; exact .inl ⟨S, ρ, b, ok, q⟩
      | ow d =>
        rw [hr] at q
        obtain ⟨p, u, _, hp, r, a1, a2, a3, _, sh⟩ := ok.getOw hr
        rcases r.how with hw | ⟨mu, hw⟩
        · have s' := sh default
          rw [hw default, upd_at hp] at s'
          exact .inl ⟨_, _, b, s', SOk.up q (same_upd a1)⟩
        · refine .inr ⟨p, u, hp, mu, fun od => ?_⟩
          have s' := sh od
          rw [hw od] at s'
          exact ⟨_, _, b, s', SOk.up q (same_upd a1)⟩
theorem d_freeze {i : Nat} (h : PS X st (tDS X.K C W G)) : PS X st (tDS X.K C W (sFreeze i G)) := ps_imp (ps_lk h) fun _ _ _ q => tDS_freeze q
end
end DL

set_option maxHeartbeats 400000
namespace DL
open PySem PySem.Spec PyProof.Rows L2
def tDI (K : PySem.W.Frag) (C : Cq) (W : WX) (F : AF) : TI := fun σ H R => ∃ S ρ b, OkS K C S ρ b σ H ∧ OutG K C W S ρ σ (fun ds _ S' H' => ∀ J, ItD K C.ba J ds S' → R J H') (F ρ b)
def seqOf : D → Option (List D)
  | .lst ds => some ds
  | .fl ds => some ds
  | _ => none
def aSeq (F : EF) : AF := fun ρ b => (F ρ b).bind fun d b' => Out.pureO (seqOf d) b'
def tupOf : D → Option (List D)
  | .tup ds => some ds
  | _ => none
def aTup (F : EF) : AF := fun ρ b => (F ρ b).bind fun d b' => Out.pureO (tupOf d) b'
/-- range(n) -/
def rangeOf (i : Int) : List D := (List.range i.toNat).map fun (k : Nat) => D.int (k : Int)
def aRng (G : AF) : AF := fun ρ b => (G ρ b).bind fun ds b' => match ds with
  | [.int i] => if -1000000 ≤ i ∧ i ≤ 1000000 then .ok (rangeOf i) b' else .stuck
  | _ => .stuck
section
variable {X : Cx} {C : Cq} {W : WX} {tg l e : Expr} {pos : Pos} {F : EF}
theorem seqL {K : PySem.W.Frag} {ba : Option Addr} {S : Hp} {v : V} {d : D} {ds : List D} (r : DR K ba S v d) (h : seqOf d = some ds) : ∃ a xs, v = .ref a ∧ SqL K S a xs ∧ DRs K ba S xs ds := by
  cases d <;> simp [seqOf] at h
  · subst h
    cases r with
    | lst h1 h2 => exact ⟨_, _, rfl, SqL.of h1, h2⟩
  · subst h
    cases r with
    | fl h1 h2 => exact ⟨_, _, rfl, h1, h2⟩
theorem itL {K : PySem.W.Frag} {ba : Option Addr} {S : Hp} {a : Addr} {xs : List V} {ds : List D} (h : SqL K S a xs) (r : DRs K ba S xs ds) : ItD K ba (Itl K a) ds S := fun C hC i S' ρ b σ H e ok => by
  have hS : SqL K H a xs := (e.trans ok.core.sub).seq h
  refine ⟨fun d hd => ?_, fun hl => ⟨xs, hS, by rw [r.length]; exact Nat.le_of_eq hl⟩⟩
  obtain ⟨v, hv, rv⟩ := r.get hd
  refine ⟨⟨xs, v, hS, hv⟩, fun x H' y => ?_⟩
  obtain ⟨e1, y⟩ := y
  subst e1
  have hx := y xs hS
  rw [hv] at hx
  cases hx
  exact ⟨S', Same.refl _, ok, rv.up e, fun _ _ z => z⟩
theorem itT {K : PySem.W.Frag} {ba : Option Addr} {S : Hp} {a : Addr} {xs : List V} {ds : List D} (h : S a = some (.tup xs)) (r : DRs K ba S xs ds) : ItD K ba (Itt K a) ds S := fun C hC i S' ρ b σ H e ok => by
  have hS : SqT K H a xs := seqT (e.trans ok.core.sub) h
  refine ⟨fun d hd => ?_, fun hl => ⟨xs, hS, by rw [r.length]; exact Nat.le_of_eq hl⟩⟩
  obtain ⟨v, hv, rv⟩ := r.get hd
  refine ⟨⟨xs, v, hS, hv⟩, fun x H' y => ?_⟩
  obtain ⟨e1, y⟩ := y
  subst e1
  have hx := y xs hS
  rw [hv] at hx
  cases hx
  exact ⟨S', Same.refl _, ok, rv.up e, fun _ _ z => z⟩
theorem d_ilist (h : PE X l (tD X.K C W F)) : PI X tg l (tDI X.K C W (aSeq F)) := pi_imp (pi_list h) fun σ H R ⟨S, ρ, b, ok, q⟩ => by
  refine ⟨S, ρ, b, ok, q.bind.imp fun d b1 S1 H1 s1 ok1 q1 v r => ?_⟩
  obtain ⟨ds, hd, q2⟩ := q1.pureO
  obtain ⟨a, xs, rfl, h1, h2⟩ := seqL r hd
  exact ⟨a, rfl, ⟨xs, ok1.core.sub.seq h1⟩, q2 S1 H1 (Same.refl _) ok1 _ (itL h1 h2)⟩
theorem d_ituple (h : PE X l (tD X.K C W F)) : PI X tg l (tDI X.K C W (aTup F)) := pi_imp (pi_tup h) fun σ H R ⟨S, ρ, b, ok, q⟩ => by
  refine ⟨S, ρ, b, ok, q.bind.imp fun d b1 S1 H1 s1 ok1 q1 v r => ?_⟩
  obtain ⟨ds, hd, q2⟩ := q1.pureO
  cases d <;> simp [tupOf] at hd
  subst hd
  cases r with
  | tup h1 h2 => exact ⟨_, rfl, ⟨_, seqT ok1.core.sub h1⟩, q2 S1 H1 (Same.refl _) ok1 _ (itT h1 h2)⟩
theorem itR {K : PySem.W.Frag} {ba : Option Addr} {S : Hp} (n : Nat) : ItD K ba (Itr 0 n) ((List.range n).map fun (k : Nat) => D.int (k : Int)) S := fun C hC i S' ρ b σ H e ok => by
  refine ⟨fun d hd => ?_, fun hl => ?_⟩
  · rw [List.getElem?_map] at hd
    by_cases hi : i < n
    · rw [List.getElem?_eq_getElem (by simpa using hi)] at hd
      simp at hd
      subst hd
      refine ⟨hi, fun x H' y => ?_⟩
      obtain ⟨e1, y⟩ := y
      subst e1
      subst y
      refine ⟨S', Same.refl _, ok, ?_, fun _ _ z => z⟩
      rw [Int.zero_add]
      exact .int _
    · rw [List.getElem?_eq_none (by simpa using hi)] at hd
      simp at hd
  · show n ≤ i
    have hl' : n = i := by simpa using hl
    omega
theorem d_irange {a : Expr} {G : AF} {p : Pos} (hg : Gl X "range") (hm : X.mg "range" = none) (ha : PA X [a] (tDA X.K C W G)) (hs : starEach [a] X.env = [(false, eval a X.env)] := by rfl) : PI X tg (.Call (.Name "range" p) [a] [] pos) (tDI X.K C W (aRng G)) :=
  pi_imp (pi_range1 hg hm ha hs) fun σ H R ⟨S, ρ, b, ok, q⟩ => by
  refine ⟨S, ρ, b, ok, q.bind.imp fun ds b1 S1 H1 s1 ok1 q1 vs r => ?_⟩
  split at q1
  · rename_i i
    cases r with
    | cons r1 r2 =>
      cases r2
      cases r1
      by_cases h : -1000000 ≤ i ∧ i ≤ 1000000
      · rw [if_pos h] at q1
        refine ⟨i, rfl, by omega, by omega, q1 S1 H1 (Same.refl _) ok1 _ (itR _)⟩
      · rw [if_neg h] at q1; exact q1.elim
  · exact q1.elim
end
def loopD (g : GF) (B : SF) : List D → Env → Bag → SO
  | [], ρ, b => .nx ρ b
  | d :: ds, ρ, b => match g d ρ b with
    | none => .stuck
    | some z => match B z.1 z.2 with
      | .nx ρ2 b2 => loopD g B ds ρ2 b2
      | .ct ρ2 b2 => loopD g B ds ρ2 b2
      | .bk ρ2 b2 => .nx ρ2 b2
      | .rt d b2 => .rt d b2
      | .ro d b2 => .ro d b2
      | .ex ρ2 c ns es => .ex ρ2 c ns es
      | .stuck => .stuck
def sFor (F : AF) (g : GF) (B : SF) : SF := fun ρ b => (F ρ b).st ρ fun ds b' => loopD g B ds ρ b'
section
variable {X : Cx} {C : Cq} {W : WX} {tg iter : Expr} {pos : Pos} {F : AF} {g : GF} {B : SF}
theorem loop_ok {K : PySem.W.Frag} {J : It} {ds : List D} {S1 : Hp} {E : Ends} {σ : L2.St} {H : Hp} {ρ : Env} {b : Bag} (hJ : ItD K C.ba J ds S1) (ok : OkS K C S1 ρ b σ H) (h : SOk K C W S1 E (loopD g B ds ρ b)) :
    ∃ Wv : Nat → Nat → L2.St → Hp → Prop, (∃ m, Wv 0 m σ H) ∧ ∀ i m σ H, Wv i m σ H → (J.stop i H ∧ E.nx σ H) ∨ (J.go i H ∧ ∃ N : L2.St → Hp → Prop, (∀ σ' H', N σ' H' → ∃ m', m' < m ∧ Wv (i + 1) m' σ' H') ∧
      ∀ x H', J.yld i H x H' → tDG K C g x σ H' fun σ2 H2 => tDS K C W B { E with nx := N, ct := N, bk := E.nx } σ2 H2) := by
  refine ⟨fun i m σ H => m = ds.length - i ∧ i ≤ ds.length ∧ ∃ S' ρ b, Same S1 S' ∧ OkS K C S' ρ b σ H ∧ SOk K C W S' E (loopD g B (ds.drop i) ρ b), ⟨ds.length, by simp, Nat.zero_le _, S1, ρ, b, Same.refl _, ok, by simpa using h⟩, ?_⟩
  rintro i m σ H ⟨rfl, hi, S', ρ, b, e, ok, q⟩
  by_cases hlt : i < ds.length
  · have hd : ds[i]? = some ds[i] := List.getElem?_eq_getElem hlt
    obtain ⟨go, yl⟩ := (hJ C rfl i S' ρ b σ H e ok).1 _ hd
    rw [List.drop_eq_getElem_cons hlt] at q
    unfold loopD at q
    refine .inr ⟨go, fun σ' H' => i + 1 ≤ ds.length ∧ ∃ S2 ρ b, Same S1 S2 ∧ OkS K C S2 ρ b σ' H' ∧ SOk K C W S2 E (loopD g B (ds.drop (i + 1)) ρ b), fun σ' H' n => ⟨ds.length - (i + 1), by omega, rfl, n.1, n.2⟩, fun x H' y => ?_⟩
    obtain ⟨S2, e2, ok2, r, _⟩ := yl x H' y
    cases hg : g ds[i] ρ b with
    | none => rw [hg] at q; exact q.elim
    | some z =>
      rw [hg] at q
      refine ⟨S2, ρ, b, _, z.1, z.2, ok2, r, hg, fun S3 σ3 H3 e3 ok3 => ⟨S3, z.1, z.2, ok3, ?_⟩⟩
      have e13 : Same S1 S3 := (e.trans e2).trans e3
      dsimp only at q
      cases hB : B z.1 z.2 with
      | nx ρ2 b2 =>
        rw [hB] at q
        exact fun S4 σ4 H4 e4 ok4 => ⟨hlt, S4, ρ2, b2, e13.trans e4, ok4, SOk.up q ((e2.trans e3).trans e4)⟩
      | ct ρ2 b2 =>
        rw [hB] at q
        exact fun S4 σ4 H4 e4 ok4 => ⟨hlt, S4, ρ2, b2, e13.trans e4, ok4, SOk.up q ((e2.trans e3).trans e4)⟩
      | bk ρ2 b2 =>
        rw [hB] at q
        exact fun S4 σ4 H4 e4 ok4 => q S4 σ4 H4 ((e2.trans e3).trans e4) ok4
      | rt d b2 => rw [hB] at q; exact SOk.up (o := .rt d b2) q (e2.trans e3)
      | ro d b2 => rw [hB] at q; exact SOk.up (o := .ro d b2) q (e2.trans e3)
      | ex ρ2 c ns es => rw [hB] at q; exact SOk.up (o := .ex ρ2 c ns es) q (e2.trans e3)
      | stuck => rw [hB] at q; exact q
  · have e : i = ds.length := by omega
    subst e
    refine .inl ⟨(hJ C rfl _ S' ρ b σ H (by assumption) ok).2 rfl, ?_⟩
    rw [List.drop_length] at q
    exact q S' σ H (Same.refl _) ok
theorem d_for {body : List Stmt} (hp : PassesOwn (model X.prog X.w) X.A X.env X.xe) (hc : X.calm = true) (hi : PI X tg iter (tDI X.K C W F)) (hg : PG X tg (tDG X.K C g)) (hb : PSs X body (tDS X.K C W B)) (hs : ∀ x, foldedSetIterable iter X.env x = pure x := by intro _; rfl) :
    PS X (.For tg iter body [] pos) (tDS X.K C W (sFor F g B)) := ps_imp (ps_for hp hc hi hg hb hs) fun E σ H ⟨S, ρ, b, ok, q⟩ =>
  ⟨S, ρ, b, ok, q.st.imp fun ds b1 S1 H1 s1 ok1 q1 J hJ => loop_ok hJ ok1 q1⟩
end
def Out.noex {α : Type} (o : Out α) : Out α := match o with
  | .ok a b => .ok a b
  | .ex _ _ _ => .stuck
  | .stuck => .stuck
def lcD (g : GF) (T : BF) (F : EF) : List D → Env → Bag → Out (List D)
  | [], _, b => .ok [] b
  | d :: ds, ρ, b => match g d ρ b with
    | none => .stuck
    | some z => ((T z.1 z.2).noex).bind fun k b1 => if k = true then ((F z.1 b1).noex).bind fun y b2 => (lcD g T F ds ρ b2).bind fun ys b3 => .ok (y :: ys) b3 else lcD g T F ds ρ b1
@[simp] def eLc (Fi : AF) (vs : List Nat) (g : GF) (T : BF) (F : EF) : EF := fun ρ b => (Fi ρ b).bind fun ds b1 => if ds.length ≤ 100000 then (lcD g T F ds (wipeE (unown ρ) vs) b1).bind fun ys b2 => .ok (.lst ys) b2 else .stuck
abbrev W0 : WX := fun _ _ _ _ => False
def tDany (K : PySem.W.Frag) (F : EF) : TE := fun σ H Q => ∃ C, tD K C W0 F σ H Q
def tDtany (K : PySem.W.Frag) (F : BF) : TT := fun σ H Q => ∃ C, tDt K C W0 F σ H Q
theorem d_any {X : Cx} {e : Expr} {F : EF} (h : ∀ C, PE X e (tD X.K C W0 F)) : PE X e (tDany X.K F) := ⟨fun pins s σ H Q I ⟨C, q⟩ => (h C).run pins s σ H Q I q⟩
theorem d_tsany {X : Cx} {es : List Expr} {F : BF} (h : ∀ C, PTs X es (tDt X.K C W0 F)) : PTs X es (tDtany X.K F) := ⟨fun pins s σ H Q I ⟨C, q⟩ => (h C).run pins s σ H Q I q⟩
/-- a target of a comprehension's own names -/
def CTg (K : PySem.W.Frag) (g : TG) (f : GF) (vs : List Nat) : Prop := ∀ (C : Cq) (S : Hp) (ρ : Env) (b : Bag) (σ : L2.St) (H : Hp) (v : V) (d : D) (ρ' : Env) (b' : Bag) (Q : L2.St → Hp → Prop), OkS K C S ρ b σ H → DR K C.ba S v d → f d ρ b = some (ρ', b') →
  (∀ σ', wipe σ' vs = wipe σ vs → OkS K C S ρ' b' σ' H → Q σ' H) → g v σ H Q
theorem wipe_get : ∀ (vs : List Nat) (σ : L2.St) (j : Nat), (wipe σ vs)[j]? = if j ∈ vs ∧ j < σ.length then some none else σ[j]?
  | [], σ, j => by simp [wipe]
  | v :: vs, σ, j => by
    unfold wipe
    by_cases h : v = j
    · subst h
      by_cases hl : v < σ.length
      · rw [List.getElem?_set_self (by rw [wipe_length]; exact hl), if_pos ⟨List.mem_cons_self, hl⟩]
      · rw [List.getElem?_eq_none (by rw [List.length_set, wipe_length]; omega), if_neg (fun z => hl z.2), List.getElem?_eq_none (by omega)]
    · rw [List.getElem?_set_ne h, wipe_get vs σ j]
      have : (j ∈ v :: vs) ↔ j ∈ vs := by simp only [List.mem_cons]; exact ⟨fun z => z.elim (fun q => absurd q.symm h) id, .inr⟩
      simp only [this]
theorem wipe_set {vs : List Nat} {σ : L2.St} {i : Nat} {x : Option V} (h : i ∈ vs) : wipe (σ.set i x) vs = wipe σ vs := by
  apply List.ext_getElem?
  intro j
  rw [wipe_get, wipe_get, List.length_set]
  by_cases hj : j ∈ vs ∧ j < σ.length
  · rw [if_pos hj, if_pos hj]
  · rw [if_neg hj, if_neg hj]
    by_cases e : i = j
    · subst e
      have hl : σ.length ≤ i := by
        have : ¬ i < σ.length := fun z => hj ⟨h, z⟩
        omega
      rw [List.getElem?_eq_none (by rw [List.length_set]; exact hl), List.getElem?_eq_none hl]
    · rw [List.getElem?_set_ne e]
theorem ctg_name {K : PySem.W.Frag} {i : Nat} {vs : List Nat} (h : i ∈ vs) : CTg K (gName i) (gN i) vs := fun C S ρ b σ H v d ρ' b' Q ok r e q => by
  cases e
  exact q _ (wipe_set h) (ok.setSh r)
theorem gT2_of {i j : Nat} {d : D} {ρ ρ' : Env} {b b' : Bag} (e : gT 2 (gsC (gN i) (gsC (gN j) gsN)) d ρ b = some (ρ', b')) : ∃ x y, d = .tup [x, y] ∧ ρ' = (ρ.set i (some (.sh x))).set j (some (.sh y)) ∧ b' = b := by
  cases d with
  | tup ds =>
    unfold gT at e
    dsimp only at e
    cases ds with
    | nil => rw [if_neg (by decide)] at e; cases e
    | cons x ds =>
      cases ds with
      | nil => rw [if_neg (by simp)] at e; cases e
      | cons y ds =>
        cases ds with
        | nil =>
          rw [if_pos (by rfl)] at e
          have e' : some ((ρ.set i (some (.sh x))).set j (some (.sh y)), b) = some (ρ', b') := e
          cases e'
          exact ⟨x, y, rfl, rfl, rfl⟩
        | cons z ds => rw [if_neg (by simp)] at e; cases e
  | non => cases e
  | bl _ => cases e
  | int _ => cases e
  | str _ => cases e
  | lst _ => cases e
  | fl _ => cases e
  | ins _ _ _ => cases e
  | obj _ => cases e
  | bag => cases e
  | dct _ _ => cases e
  | dtp _ _ => cases e
theorem ctg_pair {K : PySem.W.Frag} {i j : Nat} {vs : List Nat} (h : i ∈ vs) (h' : j ∈ vs) : CTg K (gTup K 2 (gCons (gName i) (gCons (gName j) gNil))) (gT 2 (gsC (gN i) (gsC (gN j) gsN))) vs := fun C S ρ b σ H v d ρ' b' Q ok r e q => by
  obtain ⟨x, y, rfl, rfl, rfl⟩ := gT2_of e
  cases r with
  | tup h1 h2 =>
    cases h2 with
    | cons r1 h3 =>
      cases h3 with
      | cons r2 h4 =>
        cases h4
        exact ⟨_, _, rfl, seqT ok.core.sub h1, rfl, _, _, rfl, _, _, rfl, rfl, q _ ((wipe_set h').trans (wipe_set h)) ((ok.setSh r1).setSh r2)⟩
theorem wipe_idem {σ : L2.St} {vs : List Nat} : wipe (wipe σ vs) vs = wipe σ vs := by
  apply List.ext_getElem?
  intro j
  rw [wipe_get, wipe_length]
  by_cases hj : j ∈ vs ∧ j < σ.length
  · rw [if_pos hj, wipe_get, if_pos hj]
  · rw [if_neg hj]
section
variable {X : Cx} {C : Cq} {W : WX} {e : Expr} {Fi : AF} {g : TG} {f : GF} {T : BF} {F : EF} {vs : List Nat}
/-- one more item on a fresh list -/
theorem OkF.push {K : PySem.W.Frag} {S S' H H' : Hp} {ρ : Env} {b b' : Bag} {σ : L2.St} {p : Addr} {xs : List V} {y : V} (o : OkF K C S ρ b σ H p (.lst xs)) (d : Core (inner C S H) S' b' H') (es : Same S S') :
    H' p = some (.lst xs) ∧ OkF K C S' ρ b' σ (upd H' p (.lst (xs ++ [y]))) p (.lst (xs ++ [y])) ∧ OkF K C S' ρ b' σ H' p (.lst xs) := by
  obtain ⟨c, h1, h2, h3, h4, O, s, w, n⟩ := o
  have hp : H' p = some (.lst xs) := d.fr p _ h1 h4
  have sn : S' p = none := by
    cases q : S' p with
    | none => rfl
    | some u =>
      rcases d.new p u q with h | h | ⟨ys, h⟩
      · have z : S p = some u := h
        rw [h2] at z; cases z
      · have z : H p = none := h
        rw [h1] at z; cases z
      · have z := d.sub _ _ q
        rw [hp, h] at z; cases z
  obtain ⟨c', O', s', w'⟩ := OkS.frame ⟨c, O, s, w⟩ d es
  have fr := OkS.frame ⟨c, O, s, w⟩ d es
  have sl : Slots K C.ba S' H' σ ρ O := s.mono es (fun q hq u h => d.fr q u h (w.al q hq).2.2)
  have ow : Own C S' O := by
    refine ⟨w.nd, fun q hq => ⟨?_, (w.al q hq).2⟩⟩
    cases z : S' q with
    | none => rfl
    | some u =>
      rcases d.new q u z with h | h | ⟨ys, h⟩
      · have y : S q = some u := h
        rw [(w.al q hq).1] at y
        cases y
      · obtain ⟨u', hu⟩ := s.there q hq
        have y : H q = none := h
        rw [hu] at y
        cases y
      · obtain ⟨u', hu, nt⟩ := s.thereO q hq
        have y := d.sub _ _ z
        rw [d.fr q u' hu (w.al q hq).2.2, h] at y
        exact absurd (Option.some.inj y) (nt ys)
  refine ⟨hp, ⟨fr.core.write sn h3 h4, upd_same, sn, h3, h4, O, sl.mono (Same.refl _) (fun q hq u h => ?_), ow, n⟩, fr.core, hp, sn, h3, h4, O, sl, ow, n⟩
  rw [upd_ne (fun z => n (by rw [← z]; exact hq))]
  exact h
theorem noex_out {K : PySem.W.Frag} {S : Hp} {ρ : Env} {σ : L2.St} {α : Type} {R : α → Bag → Hp → Hp → Prop} {o : Out α} {a : α} {b : Bag} (h : o.noex = .ok a b) (q : ∀ S' H', Same S S' → OkS K C S' ρ b σ H' → R a b S' H') : OutG K C W0 S ρ σ R o := by
  cases o with
  | ok a' b' => cases h; exact q
  | ex c ns ds => cases h
  | stuck => cases h
theorem bind_ok {α β : Type} {o : Out α} {k : α → Bag → Out β} {z : β} {b : Bag} (h : o.bind k = .ok z b) : ∃ a b1, o = .ok a b1 ∧ k a b1 = .ok z b := by
  cases o with
  | ok a b1 => exact ⟨a, b1, rfl, h⟩
  | ex c ns ds => cases h
  | stuck => cases h
theorem lcD_noex : ∀ {ds : List D} {ρ : Env} {b : Bag} {c : Addr} {ns : List Str} {es : List D}, lcD f T F ds ρ b ≠ .ex c ns es
  | [], _, _, _, _, _, h => by cases h
  | d :: ds, ρ, b, c, ns, es, h => by
    unfold lcD at h
    split at h
    · cases h
    · rename_i z _
      cases hT : T z.1 z.2 with
      | ex _ _ _ => rw [hT] at h; cases h
      | stuck => rw [hT] at h; cases h
      | ok k b1 =>
        rw [hT] at h
        have h : (if k = true then ((F z.1 b1).noex).bind fun y b2 => (lcD f T F ds ρ b2).bind fun ys b3 => .ok (y :: ys) b3 else lcD f T F ds ρ b1) = Out.ex c ns es := h
        cases k with
        | false => rw [if_neg Bool.false_ne_true] at h; exact lcD_noex h
        | true =>
          rw [if_pos rfl] at h
          cases hF : F z.1 b1 with
          | ex _ _ _ => rw [hF] at h; cases h
          | stuck => rw [hF] at h; cases h
          | ok y b2 =>
            rw [hF] at h
            have h : ((lcD f T F ds ρ b2).bind fun ys b3 => .ok (y :: ys) b3) = Out.ex c ns es := h
            cases hL : lcD f T F ds ρ b2 with
            | ok _ _ => rw [hL] at h; cases h
            | stuck => rw [hL] at h; cases h
            | ex _ _ _ => exact lcD_noex hL
/-- [elt for target in iter if ..] -/
theorem lc_of (hT : CTg X.K g f vs) {σ : L2.St} {H : Hp} {Q : VK} (hh : tDF X.K C W (eLc Fi vs f T F) σ H Q) : tLc (tDI X.K C W Fi) g (tDtany X.K T) (tDany X.K F) vs σ H Q := by
  obtain ⟨S, ρ, b, ok, q⟩ := hh
  refine ⟨S, ρ, b, ok, ?_⟩
  unfold eLc at q
  cases hF : Fi ρ b with
  | stuck => rw [hF] at q; exact q.elim
  | ex c ns ds => rw [hF] at q; exact q
  | ok ds b1 =>
    rw [hF] at q
    have q : OutF X.K C W S ρ σ Q (if ds.length ≤ 100000 then (lcD f T F ds (wipeE (unown ρ) vs) b1).bind fun ys b2 => .ok (.lst ys) b2 else .stuck) := q
    by_cases hl : ds.length ≤ 100000
    · rw [if_pos hl] at q
      intro S1 H1 e1 ok1 J hJ Dd hD
      cases hL : lcD f T F ds (wipeE (unown ρ) vs) b1 with
      | stuck => rw [hL] at q; exact q.elim
      | ex c ns es => exact absurd hL lcD_noex
      | ok ys b2 =>
        rw [hL] at q
        have q : ∀ S' H' p u, Same S S' → OkF X.K C S' ρ b2 σ H' p u → ODR X.K C.ba S' u (.lst ys) → Q (.ref p) H' := q
        refine ⟨fun i m H => m = ds.length - i ∧ i ≤ ds.length ∧ ∃ S' b xs pre rest, Same S1 S' ∧ OkF X.K C S' ρ b σ H Dd (.lst xs) ∧ DRs X.K C.ba S' xs pre ∧ xs.length ≤ i ∧ lcD f T F (ds.drop i) (wipeE (unown ρ) vs) b = .ok rest b2 ∧ pre ++ rest = ys,
          ⟨ds.length, by simp, Nat.zero_le _, S1, b1, [], [], ys, Same.refl _, ok1.fresh hD, .nil, Nat.zero_le _, by simpa using hL, rfl⟩, ?_⟩
        rintro i m H ⟨rfl, hi, S', b', xs, pre, rest, e', of, rx, hxl, hr, hys⟩
        by_cases hlt : i < ds.length
        · have hd : ds[i]? = some ds[i] := List.getElem?_eq_getElem hlt
          have oks := of.ok
          obtain ⟨go, yl⟩ := (hJ C rfl i S' ρ b' σ H e' oks).1 _ hd
          rw [List.drop_eq_getElem_cons hlt] at hr
          unfold lcD at hr
          refine .inr ⟨go, fun H => i + 1 ≤ ds.length ∧ ∃ S' b xs pre rest, Same S1 S' ∧ OkF X.K C S' ρ b σ H Dd (.lst xs) ∧ DRs X.K C.ba S' xs pre ∧ xs.length ≤ i + 1 ∧ lcD f T F (ds.drop (i + 1)) (wipeE (unown ρ) vs) b = .ok rest b2 ∧ pre ++ rest = ys,
            fun H' n => ⟨ds.length - (i + 1), by omega, rfl, n.1, n.2⟩, fun x H' y => ?_⟩
          -- the item, seen from within
          have oki := (oks.inner).wipe vs
          have okw : OkS X.K (inner C S' H) S' (wipeE (unown ρ) vs) b' (wipe σ vs) H := oki
          obtain ⟨_, yl2⟩ := (hJ (inner C S' H) rfl i S' _ b' _ H e' okw).1 _ hd
          obtain ⟨S2, e2, ok2, r2, k2⟩ := yl2 x H' y
          split at hr
          · cases hr
          · rename_i z hg
            refine hT (inner C S' H) S2 _ b' _ H' x _ z.1 z.2 _ ok2 r2 hg fun σ2 hw ok3 => ⟨by rw [hw]; exact wipe_idem, ?_⟩
            obtain ⟨k, b3, hk, hr⟩ := bind_ok hr
            refine ⟨inner C S' H, S2, z.1, z.2, ok3, noex_out hk fun S4 H4 e4 ok4 => ?_⟩
            cases k with
            | false =>
              rw [if_neg Bool.false_ne_true] at hr ⊢
              obtain ⟨_, _, o3⟩ := of.push (y := x) ok4.core (e2.trans e4)
              exact ⟨hlt, S4, b3, xs, pre, rest, (e'.trans e2).trans e4, o3, rx.up (e2.trans e4), by omega, hr, hys⟩
            | true =>
              rw [if_pos rfl] at hr ⊢
              obtain ⟨y0, b5, hy, hr⟩ := bind_ok hr
              obtain ⟨ys', b6, hr1, hr2⟩ := bind_ok hr
              cases hr2
              refine ⟨inner C S' H, S4, z.1, b3, ok4, noex_out hy fun S5 H5 e5 ok5 v5 r5 => ?_⟩
              have e25 : Same S' S5 := (e2.trans e4).trans e5
              obtain ⟨a1, a2, _⟩ := of.push (y := v5) ok5.core e25
              refine ⟨xs, a1, small_lt (by omega), hlt, S5, b5, xs ++ [v5], pre ++ [y0], ys', e'.trans e25, a2, (rx.up e25).app (.cons r5 .nil), by simp; omega, hr1, ?_⟩
              rw [← hys]
              simp
        · have e : i = ds.length := by omega
          subst e
          rw [List.drop_length] at hr
          cases hr
          refine .inl ⟨(hJ C rfl _ S' ρ _ σ H e' of.ok).2 rfl, ?_⟩
          rw [List.append_nil] at hys
          subst hys
          exact q S' H Dd _ (e1.trans e') of (.lst rx)
    · rw [if_neg hl] at q
      exact q.elim
theorem d_lc (hT : CTg X.K g f vs) (h : PE X e (tLc (tDI X.K C W Fi) g (tDtany X.K T) (tDany X.K F) vs)) : PE X e (tDF X.K C W (eLc Fi vs f T F)) := pe_imp h fun _ _ _ hh => lc_of hT hh
theorem d_setlc {st : Stmt} {i : Nat} (hT : CTg X.K g f vs) (h : PS X st (tAsg (tLc (tDI X.K C W Fi) g (tDtany X.K T) (tDany X.K F) vs) (gName i))) : PS X st (tAsg (tDF X.K C W (eLc Fi vs f T F)) (gName i)) := ps_imp h fun _ _ _ hh => lc_of hT hh
end
end DL

set_option maxHeartbeats 1000000
namespace DL
open PySem PySem.Spec PyProof.Rows L2
abbrev DFn := List D → Bag → Out D
def OutD (K : PySem.W.Frag) (C : Cq) (S : Hp) (Q : VK) (E : XK) : Out D → Prop
  | .ok d b => ∀ S' H v, Same S S' → Core C S' b H → DR K C.ba S' v d → Q v H
  | .ex c ns ds => ∀ (dx : Option Addr) S' H b, Same S S' → Core C S' b H → XR K C.ba S' dx ns ds → E (.ref c) dx H
  | .stuck => False
/-- a def's promise by its function of data -/
def spD (K : PySem.W.Frag) (F : DFn) : Sp := fun vs H Q E => ∃ (S : Hp) (ba : Option Addr) (b : Bag) (ds : List D), Core ⟨H, S, ba⟩ S b H ∧ DRs K ba S vs ds ∧ OutD K ⟨H, S, ba⟩ S Q E (F ds b)
/-- .. that hands back a fresh object -/
def OutDF (K : PySem.W.Frag) (C : Cq) (S : Hp) (Q : VK) : Out D → Prop
  | .ok d b => ∀ S' H p u, Same S S' → Core C S' b H → H p = some u → S' p = none → C.H0 p = none → C.ba ≠ some p → ODR K C.ba S' u d → Q (.ref p) H
  | .ex _ _ _ => False
  | .stuck => False
def spDF (K : PySem.W.Frag) (F : DFn) : Sp := fun vs H Q _ => ∃ (S : Hp) (ba : Option Addr) (b : Bag) (ds : List D), Core ⟨H, S, ba⟩ S b H ∧ DRs K ba S vs ds ∧ OutDF K ⟨H, S, ba⟩ S Q (F ds b)
@[simp] def startE (n : Nat) (ds : List D) : Env := ds.map (fun d => some (.sh d)) ++ List.replicate (n - ds.length) none
def SO.out : SO → Out D
  | .rt d b => .ok d b
  | .nx _ b => .ok .non b
  | .ex _ c ns ds => .ex c ns ds
  | _ => .stuck
def SO.outF : SO → Out D
  | .ro d b => .ok d b
  | _ => .stuck
/-- n names, m parameters -/
@[simp] def runD (n m : Nat) (G : SF) : DFn := fun ds b => if ds.length = m then (G (startE n ds) b).out else .stuck
@[simp] def runF (n m : Nat) (G : SF) : DFn := fun ds b => if ds.length = m then (G (startE n ds) b).outF else .stuck
theorem slots_none {K : PySem.W.Frag} {ba : Option Addr} {S H : Hp} : ∀ k : Nat, Slots K ba S H (List.replicate k none) (List.replicate k none) []
  | 0 => .nil
  | k + 1 => .no (slots_none k)
theorem slots_start {K : PySem.W.Frag} {ba : Option Addr} {S H : Hp} (k : Nat) : ∀ (ds : List D) (vs : List V), DRs K ba S vs ds → Slots K ba S H (vs.map some ++ List.replicate k none) (ds.map (fun d => some (.sh d)) ++ List.replicate k none) []
  | [], _, r => by cases r; exact slots_none k
  | d :: ds, _, r => by
    cases r with
    | cons r1 r2 => exact .sh r1 (slots_start k ds _ r2)
theorem okS_start {K : PySem.W.Frag} {ba : Option Addr} {S H : Hp} {vs : List V} {ds : List D} {b : Bag} {N : List Str} (c : Core ⟨H, S, ba⟩ S b H) (r : DRs K ba S vs ds) : OkS K ⟨H, S, ba⟩ S (startE N.length ds) b (start N vs) H := by
  refine ⟨c, [], ?_, List.nodup_nil, fun _ h => by cases h⟩
  unfold startE L2.start
  rw [r.length]
  exact slots_start _ _ _ r
abbrev WD (E : XK) : WX := fun cls d _ H => E cls d H
variable {Gd Gd' : Around → Prop}
section
variable {P : Program} {w : World} {K : PySem.W.Frag} {mg : Str → Option Value} {base : Heap}
theorem spD_len {m : Nat} {G : SF} {n : Nat} {vs : List V} {H : Hp} {Q : VK} {E : XK} (h : spD K (runD n m G) vs H Q E) : vs.length = m := by
  obtain ⟨S, ba, b, ds, c, r, o⟩ := h
  by_cases hl : ds.length = m
  · rw [r.length, hl]
  · unfold runD at o
    rw [if_neg hl] at o
    exact o.elim
theorem spDF_len {m : Nat} {G : SF} {n : Nat} {vs : List V} {H : Hp} {Q : VK} {E : XK} (h : spDF K (runF n m G) vs H Q E) : vs.length = m := by
  obtain ⟨S, ba, b, ds, c, r, o⟩ := h
  by_cases hl : ds.length = m
  · rw [r.length, hl]
  · unfold runF at o
    rw [if_neg hl] at o
    exact o.elim
/-- THE RULE for a def -/
theorem d_def {x qual : Str} {st : Stmt} {f : Addr} {fd : FuncData} {N ps : List Str} {k : Nat} {G : SF} (F : Fun K x qual st f fd) (Sc : FnScope N ps (defScope st))
    (body : ∀ (cdv : Value) (A : Around) (outer : List PySem.Env) (s : Shared) (H : Hp) (E : XK) (C : Cq), Room k (A.deeper (envOfC qual (defScope st) s.heap.objs.size f cdv)) → Gd A →
      PSs (cxOf (L2.CX P w) P w K mg base N qual (defScope st) f cdv A outer s H E) (defBody st) (tDS K C (WD E) G)) : FnG P w K mg base Gd (k + 1) f fd ps (spD K (runD N.length ps.length G)) := by
  refine FnG.body F Sc (fun vs H Q E h => spD_len h) (fun cdv A outer s H vs Q E hr hg h => ?_)
  obtain ⟨S, ba, b, ds, c, r, o⟩ := h
  refine ⟨_, body cdv A outer s H E ⟨H, S, ba⟩ hr hg, S, startE N.length ds, b, okS_start c r, ?_⟩
  unfold runD at o
  by_cases hl : ds.length = ps.length
  · rw [if_pos hl] at o
    cases hG : G (startE N.length ds) b with
    | nx ρ b' => rw [hG] at o; exact fun S' σ H' e ok => o S' H' .non e ok.core .non
    | rt d b' => rw [hG] at o; exact fun S' H' v e ok r => o S' H' v e ok r
    | ro d b' => rw [hG] at o; exact o.elim
    | bk ρ b' => rw [hG] at o; exact o.elim
    | ct ρ b' => rw [hG] at o; exact o.elim
    | ex ρ c ns es => rw [hG] at o; exact fun dx S' σ H' b e ok x => o dx S' H' b e ok.core x
    | stuck => rw [hG] at o; exact o
  · rw [if_neg hl] at o
    exact o.elim
theorem d_defF {x qual : Str} {st : Stmt} {f : Addr} {fd : FuncData} {N ps : List Str} {k : Nat} {G : SF} (F : Fun K x qual st f fd) (Sc : FnScope N ps (defScope st))
    (body : ∀ (cdv : Value) (A : Around) (outer : List PySem.Env) (s : Shared) (H : Hp) (E : XK) (C : Cq), Room k (A.deeper (envOfC qual (defScope st) s.heap.objs.size f cdv)) → Gd A →
      PSs (cxOf (L2.CX P w) P w K mg base N qual (defScope st) f cdv A outer s H E) (defBody st) (tDS K C (WD E) G)) : FnG P w K mg base Gd (k + 1) f fd ps (spDF K (runF N.length ps.length G)) := by
  refine FnG.body F Sc (fun vs H Q E h => spDF_len h) (fun cdv A outer s H vs Q E hr hg h => ?_)
  obtain ⟨S, ba, b, ds, c, r, o⟩ := h
  refine ⟨_, body cdv A outer s H E ⟨H, S, ba⟩ hr hg, S, startE N.length ds, b, okS_start c r, ?_⟩
  unfold runF at o
  by_cases hl : ds.length = ps.length
  · rw [if_pos hl] at o
    cases hG : G (startE N.length ds) b with
    | nx ρ b' => rw [hG] at o; exact o.elim
    | rt d b' => rw [hG] at o; exact o.elim
    | ro d b' => rw [hG] at o; exact fun S' H' p u e ok h1 h2 h3 h4 r => o S' H' p u e ok h1 h2 h3 h4 r
    | bk ρ b' => rw [hG] at o; exact o.elim
    | ct ρ b' => rw [hG] at o; exact o.elim
    | ex ρ c ns es => rw [hG] at o; exact o.elim
    | stuck => rw [hG] at o; exact o
  · rw [if_neg hl] at o
    exact o.elim
end
@[simp] def eCall (F : DFn) (G : AF) : EF := fun ρ b => (G ρ b).bind fun ds b' => F ds b'
section
variable {X : Cx} {C : Cq} {W : WX} {e a b : Expr} {pos : Pos} {F Fa Fb : EF} {G : AF}
theorem spD_of {K : PySem.W.Frag} {Fn : DFn} {S : Hp} {ρ : Env} {b : Bag} {σ : L2.St} {H : Hp} {vs : List V} {ds : List D} {Q : VK} (ok : OkS K C S ρ b σ H) (r : DRs K C.ba S vs ds)
    (q : OutG K C W S ρ σ (fun d _ S' H' => ∀ v, DR K C.ba S' v d → Q v H') (Fn ds b)) : spD K Fn vs H Q (fun cls d H' => W cls d σ H') := by
  refine ⟨S, C.ba, b, ds, ok.core.inner, r, ?_⟩
  cases hF : Fn ds b with
  | ok d b' => rw [hF] at q; exact fun S' H' v e c r => q S' H' e (ok.frame c e) v r
  | ex c ns es => rw [hF] at q; exact fun dx S' H' b e c x => q dx S' H' b e (ok.frame c e) x
  | stuck => rw [hF] at q; exact q
/-- f(..), as a reading -/
def tCG (sp : Sp) (W : WX) (t : TA) : TE := fun σ H Q => t σ H fun vs H1 => sp vs H1 Q (fun c d H' => W c d σ H')
theorem pe_callG {k : Nat} {f : Addr} {fd : FuncData} {ps : List Str} {sp : Sp} {x : Str} {p : Pos} {es : List Expr} {t : TA} (FO : FnG X.prog X.w X.K X.mg X.base Gd k f fd ps sp) (hr : Room k X.A) (hgd : Gd X.A) (hg : Gl X x) (hm : X.mg x = some (.ref f)) (hk : PySem.W.keepIn X.K (.ref f) = true)
    (hb : Binds X.K fd ps []) (tk : Takes X W) (ha : PA X (e :: es) t) (hdb : (x == ("__debug__" : Str)) = false) (he : starEach (e :: es) X.env = (false, eval e X.env) :: starEach es X.env) (hpl : (backTo pos (starEach es X.env)).any (·.1) = false) :
    PE X (.Call (.Name x p) (e :: es) [] pos) (tCG sp W t) := ⟨fun pins s σ H Q I h =>
  wpAny_Call_Name_kw (ld_glob I hg hm (PySem.W.callWith_K (h₀ := X.base) I.ok.mod.kin hk (thn (ha.run pos pins s σ H _ I h) fun us s1 z => by
    obtain ⟨vs, H1, J, r, q⟩ := z
    have hl : us.length = ps.length := by rw [← r.length]; exact FO.many _ _ _ _ q
    have bt := hb s1 us J.kIn (by rw [List.append_nil]; exact hl)
    rw [List.append_nil] at bt
    exact ⟨J.kIn, FO.at_ hr hgd tk J bt r q⟩) he hpl) hdb)⟩
theorem d_call {k : Nat} {f : Addr} {fd : FuncData} {ps : List Str} {Fn : DFn} {x : Str} {p : Pos} {es : List Expr} (FO : FnG X.prog X.w X.K X.mg X.base Gd k f fd ps (spD X.K Fn)) (hr : Room k X.A) (hgd : Gd X.A) (hg : Gl X x) (hm : X.mg x = some (.ref f)) (hk : PySem.W.keepIn X.K (.ref f) = true)
    (hb : Binds X.K fd ps []) (tk : Takes X W) (ha : PA X (e :: es) (tDA X.K C W G)) (hdb : (x == ("__debug__" : Str)) = false := by decide) (he : starEach (e :: es) X.env = (false, eval e X.env) :: starEach es X.env := by rfl)
    (hpl : (backTo pos (starEach es X.env)).any (·.1) = false := by rfl) : PE X (.Call (.Name x p) (e :: es) [] pos) (tD X.K C W (eCall Fn G)) :=
  pe_imp (pe_callG FO hr hgd hg hm hk hb tk ha hdb he hpl) fun σ H Q ⟨S, ρ, b, ok, q⟩ =>
    ⟨S, ρ, b, ok, q.bind.imp fun ds b1 S1 H1 s1 ok1 q1 vs r => spD_of ok1 r q1⟩
/-- f(g(..)): g hands back a fresh list of three ints, which f takes as its bag -/
def eBag (Fn Bn : DFn) (G : AF) : EF := fun ρ b => (G ρ b).bind fun ds b' => match Bn ds b' with
  | .ok (.lst [.int x, .int y, .int z]) b2 => (match Fn [.bag] ⟨x, y, z⟩ with
    | .ok (.bl k) _ => .ok (.bl k) b2
    | _ => .stuck)
  | _ => .stuck
theorem outDF_three {K : PySem.W.Frag} {ba : Option Addr} {S : Hp} {u : HO} {x y z : Int} (r : ODR K ba S u (.lst [.int x, .int y, .int z])) : u = .lst [.int x, .int y, .int z] := by
  cases r with
  | lst r =>
    cases r with
    | cons r1 r =>
      cases r with
      | cons r2 r =>
        cases r with
        | cons r3 r =>
          cases r; cases r1; cases r2; cases r3
          rfl
theorem d_callBag {k kb : Nat} {f fb : Addr} {fd fdb : FuncData} {ps psb : List Str} {Fn Bn : DFn} {x xb : Str} {p pb posb : Pos} {e2 : Expr} {es : List Expr} (FO : FnG X.prog X.w X.K X.mg X.base Gd k f fd ps (spD X.K Fn)) (hr : Room k X.A) (hgd : Gd X.A) (hg : Gl X x) (hm : X.mg x = some (.ref f)) (hk : PySem.W.keepIn X.K (.ref f) = true)
    (hb : Binds X.K fd ps []) (tk : Takes X W) (FB : FnG X.prog X.w X.K X.mg X.base Gd' kb fb fdb psb (spDF X.K Bn)) (hrb : Room kb X.A) (hgd' : Gd' X.A) (hgb : Gl X xb) (hmb : X.mg xb = some (.ref fb)) (hkb : PySem.W.keepIn X.K (.ref fb) = true)
    (hbb : Binds X.K fdb psb []) (ha : PA X (e2 :: es) (tDA X.K C W G)) (hdb : (x == ("__debug__" : Str)) = false := by decide) (hdb2 : (xb == ("__debug__" : Str)) = false := by decide)
    (he2 : starEach (e2 :: es) X.env = (false, eval e2 X.env) :: starEach es X.env := by rfl) (hpl2 : (backTo posb (starEach es X.env)).any (·.1) = false := by rfl)
    (he : starEach [.Call (.Name xb pb) (e2 :: es) [] posb] X.env = (false, eval (.Call (.Name xb pb) (e2 :: es) [] posb) X.env) :: starEach [] X.env := by rfl) (hpl : (backTo pos (starEach [] X.env)).any (·.1) = false := by rfl) :
    PE X (.Call (.Name x p) [.Call (.Name xb pb) (e2 :: es) [] posb] [] pos) (tD X.K C W (eBag Fn Bn G)) :=
  pe_imp (pe_callG FO hr hgd hg hm hk hb tk (pa_cons (pe_callG FB hrb hgd' hgb hmb hkb hbb tk ha hdb2 he2 hpl2) pa_nil he) hdb he hpl) fun σ H Q ⟨S, ρ, b, ok, q⟩ => by
  refine ⟨S, ρ, b, ok, q.bind.imp fun ds b1 S1 H1 s1 ok1 q1 vs r => ?_⟩
  refine ⟨S1, C.ba, b1, ds, ok1.core.inner, r, ?_⟩
  split at q1
  · rename_i x y z b2 hB
    rw [hB]
    intro S2 H2 p2 u e2 c2 h1 h2 h3 h4 ro
    have hu := outDF_three ro
    subst hu
    split at q1
    · rename_i k b3 hF
      -- the callee sees nothing shared but has its bag at p2
      refine ⟨fun _ => none, some p2, ⟨x, y, z⟩, [.bag], ⟨fun a o e => (by cases e), fun a o e _ => e, fun a e => ?_, fun a o e => (by cases e)⟩, .cons (.bag rfl) .nil, ?_⟩
      · cases e; exact ⟨h1, rfl⟩
      · rw [hF]
        intro S3 H3 v3 e3 c3 r3
        cases r3
        have hfr : ∀ a o, H2 a = some o → a ≠ p2 → H3 a = some o := fun a o h n => c3.fr a o h (fun z => n (Option.some.inj z).symm)
        have c4 : Core (inner C S1 H1) S2 b2 H3 := by
          refine ⟨fun a o e => hfr a o (c2.sub a o e) (ne_of_none e h2), fun a o e hb => hfr a o (c2.fr a o e hb) (ne_of_none e h3), fun a e => ?_, c2.new⟩
          obtain ⟨g1, g2⟩ := c2.bag a e
          exact ⟨hfr a _ g1 (fun z => h4 (by rw [← z]; exact e)), g2⟩
        have ok3 : OkS X.K C S2 ρ b2 σ H3 := ok1.frame c4 e2
        exact q1 S2 H3 e2 ok3 _ (.bl k)
    · exact q1.elim
  · exact q1.elim
end
end DL

set_option maxHeartbeats 1000000
namespace DL
open PySem PySem.Spec PyProof.Rows L2
theorem tuple_once (l : Addr) (items : Array Value) (n : Nat) (dd : Option Addr) (sl : Array (Option Value)) (u : Tok) (c1 : (items.isEmpty || (1 : Int) == 1) = true) :
    Meets (Builtin.«tuple.__mul__» ⟨[.ref l, .int 1 u], []⟩) (fun _ R s => s.heap.get? l = some { cls := .type "tuple", dict := dd, data := .seq items n, slots := sl } ∧ R (.ok (.ret (Value.ref l))) s) :=
  .of_wp fun prog w A R s h => by
    obtain ⟨hp, g, d, tk, os⟩ := s
    obtain ⟨hl, h⟩ := h
    have f1 := AutoSeq1.idx_int
    wp_walk using wpAny_loadPart' hl
    repeat (first
      | (refine wpAny_ite_false (by decide) ?_; wp_walk using wpAny_loadPart' hl)
      | (refine wpAny_ite_true c1 ?_; wp_walk using wpAny_loadPart' hl)
      | (refine wpAny_ite_true (by simp) ?_; wp_walk using wpAny_loadPart' hl))
    all_goals exact ⟨_, rfl, h⟩
def rOnce (K : PySem.W.Frag) : R2 := fun x y H Q => ∃ l xs, x = .ref l ∧ y = .int 1 ∧ SqT K H l xs ∧ Q (.ref l) H
theorem op_once {X : Cx} : OpR X (binaryOp .Mult) (rOnce X.K) := by
  intro pins s σ H x y v u Q I rx ry ⟨l, xs, hx, hy, hT, q⟩
  subst hx hy
  cases rx
  obtain ⟨t, rfl⟩ := ry
  obtain ⟨its, r, ⟨⟨cls, dd, data, sl⟩, ho, hc, n, hd⟩, hs⟩ := I.tuple hT
  simp only at hc hd
  subst hc hd
  refine wpAny_binaryOp_repeat_ref (T := "tuple") (U := "int") (by decide) ⟨_, ho, rfl⟩ (fun s' => typeIs_int s' 1 t) noFill_tuple_mul F.fills_int_mul F.slot_int_rmul
    repeat_tuple F.slot_int_index.lookup (call_meets F.slot_int_rmul (typeIs_int s 1 t) F.entry_int_rmul (F.args_int_rmul_2 _ _) (int_rmul_tuple 1 t l its.toArray n dd sl) ?_)
  refine ⟨ho, rfl, ⟨_, ho, rfl⟩, call_meets F.slot_tuple_mul ⟨_, ho, rfl⟩ F.entry_tuple_mul (F.args_tuple_mul_2 _ _) (tuple_once l its.toArray n dd sl t (by simp)) ⟨ho, ?_⟩⟩
  exact ⟨.ref l, H, I, rfl, q⟩
theorem big_le {n : Nat} (h : n ≤ 100000) : n ≤ sizeLine := by rw [sizeLine_eq]; omega
@[simp] def addF : D → D → Option D
  | .int i, .int j => some (.int (i + j))
  | .str x, .str y => if x.length + y.length ≤ 100000 then some (.str (x ++ y)) else none
  | .lst a, .lst b => if a.length + b.length ≤ 100000 then some (.lst (a ++ b)) else none
  | .tup a, .tup b => if a.length + b.length ≤ 100000 then some (.tup (a ++ b)) else none
  | _, _ => none
@[simp] def subF : D → D → Option D
  | .int i, .int j => some (.int (i - j))
  | _, _ => none
@[simp] def mulF : D → D → Option D
  | .str x, .int k => if x.length ≤ 1000 ∧ -1000 ≤ k ∧ k ≤ 1000 then some (.str (Txt.mul x k)) else none
  | .int i, .int j => if (-(2 ^ 64) < i ∧ i < 2 ^ 64) ∨ (-(2 ^ 64) < j ∧ j < 2 ^ 64) then some (.int (i * j)) else none
  | .tup a, .int k => if 1 ≤ k ∧ k ≤ 1000 ∧ a.length ≤ 1000 ∧ 0 < a.length then some (.tup (List.replicate k.toNat a).flatten) else none
  | .lst a, .int k => if -1000 ≤ k ∧ k ≤ 1000 ∧ a.length ≤ 100 then some (.lst (List.replicate k.toNat a).flatten) else none
  | _, _ => none
@[simp] def modF : D → D → Option D
  | .int i, .int j => if 0 < j then some (.int (i % j)) else none
  | _, _ => none
@[simp] def fdivF : D → D → Option D
  | .int i, .int j => if 0 < j ∧ j < 1073741824 then some (.int (i / j)) else none
  | _, _ => none
def powF : D → D → Option D
  | .int i, .int j => if 0 ≤ j ∧ j ≤ 1000 ∧ i.natAbs < 2 ^ 64 then some (.int (i ^ j.toNat)) else none
  | _, _ => none
@[simp] def ltF : D → D → Option D
  | .int i, .int j => some (.bl (decide (i < j)))
  | .str i, .str j => some (.bl (decide (i.cps.toList < j.cps.toList)))
  | _, _ => none
@[simp] def leF : D → D → Option D
  | .int i, .int j => some (.bl (decide (i ≤ j)))
  | .str i, .str j => some (.bl (!decide (j.cps.toList < i.cps.toList)))
  | _, _ => none
@[simp] def gtF : D → D → Option D
  | .int i, .int j => some (.bl (decide (j < i)))
  | _, _ => none
@[simp] def geF : D → D → Option D
  | .int i, .int j => some (.bl (decide (j ≤ i)))
  | _, _ => none
def eqF (d e : D) : Option D := match d.pd, e.pd with
  | some p, some q => if SeqAt.shaped p = true ∧ SeqAt.shaped q = true then some (.bl (PyData.eqv p q)) else none
  | _, _ => none
def neF (d e : D) : Option D := match d.pd, e.pd with
  | some p, some q => if SeqAt.shaped p = true ∧ SeqAt.shaped q = true then some (.bl (!PyData.eqv p q)) else none
  | _, _ => none
theorem DRs.rep {K : PySem.W.Frag} {ba : Option Addr} {S : Hp} {vs : List V} {ds : List D} (h : DRs K ba S vs ds) : ∀ k : Nat, DRs K ba S (List.replicate k vs).flatten (List.replicate k ds).flatten
  | 0 => by simpa using DRs.nil
  | k + 1 => by
    rw [List.replicate_succ, List.replicate_succ, List.flatten_cons, List.flatten_cons]
    exact h.app (DRs.rep h k)
section
variable {X : Cx} {C : Cq} {W : WX} {e a b : Expr} {pos : Pos} {F Fa Fb : EF} {G : AF}
def rAddA (K : PySem.W.Frag) : R2 := fun x y H Q => (rI0 fun i j => .int (i + j)) x y H Q ∨ (∃ i j, x = .str i ∧ y = .str j ∧ i.length + j.length ≤ sizeLine ∧ Q (.str (i ++ j)) H) ∨ rCat x y H Q ∨ rCatA K x y H Q
theorem op_addA : OpR X (binaryOp .Add) (rAddA X.K) := op_add.or (op_add_str.or (op_cat.or op_catA))
theorem add2 {K : PySem.W.Frag} : Op2 K C (rAddA K) addF := by
  intro S ρ b σ H v w d e z Q ok r1 r2 hz q
  cases d with
  | int i =>
    cases e with
    | int j =>
      cases hz; cases r1; cases r2
      exact .inl ⟨i, j, rfl, rfl, q _ S H (Same.refl _) ok (.int _)⟩
    | _ => cases hz
  | str x =>
    cases e with
    | str y =>
      simp only [addF] at hz
      by_cases h : x.length + y.length ≤ 100000
      · rw [if_pos h] at hz
        cases hz; cases r1; cases r2
        exact .inr (.inl ⟨x, y, rfl, rfl, big_le h, q _ S H (Same.refl _) ok (.str _)⟩)
      · rw [if_neg h] at hz; cases hz
    | _ => cases hz
  | lst x =>
    cases e with
    | lst y =>
      simp only [addF] at hz
      by_cases h : x.length + y.length ≤ 100000
      · rw [if_pos h] at hz
        cases hz
        cases r1 with
        | lst h1 h2 =>
          cases r2 with
          | lst h3 h4 =>
            refine .inr (.inr (.inl ⟨_, _, _, _, rfl, rfl, ok.core.sub _ _ h1, ok.core.sub _ _ h3, by rw [h2.length, h4.length]; exact big_le h, fun p hp => ?_⟩))
            exact q _ _ _ (ok.same hp) (ok.alloc hp) (.lst upd_same ((h2.app h4).up (ok.same hp)))
      · rw [if_neg h] at hz; cases hz
    | _ => cases hz
  | tup x =>
    cases e with
    | tup y =>
      simp only [addF] at hz
      by_cases h : x.length + y.length ≤ 100000
      · rw [if_pos h] at hz
        cases hz
        cases r1 with
        | tup h1 h2 =>
          cases r2 with
          | tup h3 h4 =>
            refine .inr (.inr (.inr ⟨_, _, _, _, rfl, rfl, seqT ok.core.sub h1, seqT ok.core.sub h3, by rw [h2.length, h4.length]; exact big_le h, fun e0 => ?_, fun _ e0 => ?_, fun _ _ p hp => ?_⟩))
            · subst e0
              cases h2
              exact q _ S H (Same.refl _) ok (.tup h3 h4)
            · subst e0
              cases h4
              rw [List.append_nil] at q
              exact q _ S H (Same.refl _) ok (.tup h1 h2)
            · exact q _ _ _ (ok.same hp) (ok.alloc hp) (.tup upd_same ((h2.app h4).up (ok.same hp)))
      · rw [if_neg h] at hz; cases hz
    | _ => cases hz
  | _ => cases hz
theorem d_add (ha : PE X a (tD X.K C W Fa)) (hb : PE X b (tD X.K C W Fb)) : PE X (.BinOp a .Add b pos) (tD X.K C W (e2 addF Fa Fb)) := d_op op_addA add2 ha hb
theorem rI_of0 {f : Value → Value → Sem Value} {g : Int → Int → V} (h : OpR X f (rI0 g)) : OpR X f (rI (fun _ _ => True) g) := fun pins s σ H x y v u Q I rx ry ⟨i, j, e1, e2, _, q⟩ => h pins s σ H x y v u Q I rx ry ⟨i, j, e1, e2, q⟩
theorem d_sub (ha : PE X a (tD X.K C W Fa)) (hb : PE X b (tD X.K C W Fb)) : PE X (.BinOp a .Sub b pos) (tD X.K C W (e2 subF Fa Fb)) :=
  d_op (rI_of0 op_sub) (i2 (g' := fun i j => .int (i - j)) (fun d e z h => by
    unfold subF at h
    split at h
    · cases h; exact ⟨_, _, rfl, rfl, trivial, rfl⟩
    · cases h) fun _ _ _ => .int _) ha hb
theorem d_mod (ha : PE X a (tD X.K C W Fa)) (hb : PE X b (tD X.K C W Fb)) : PE X (.BinOp a .Mod b pos) (tD X.K C W (e2 modF Fa Fb)) :=
  d_op op_mod (i2 (g' := fun i j => .int (i % j)) (fun d e z h => by
    unfold modF at h
    split at h
    · split at h
      · cases h; exact ⟨_, _, rfl, rfl, by assumption, rfl⟩
      · cases h
    · cases h) fun _ _ _ => .int _) ha hb
theorem d_fdiv (ha : PE X a (tD X.K C W Fa)) (hb : PE X b (tD X.K C W Fb)) : PE X (.BinOp a .FloorDiv b pos) (tD X.K C W (e2 fdivF Fa Fb)) :=
  d_op op_fdiv (i2 (g' := fun i j => .int (i / j)) (fun d e z h => by
    unfold fdivF at h
    split at h
    · split at h
      · cases h; exact ⟨_, _, rfl, rfl, by assumption, rfl⟩
      · cases h
    · cases h) fun _ _ _ => .int _) ha hb
theorem d_pow (ha : PE X a (tD X.K C W Fa)) (hb : PE X b (tD X.K C W Fb)) : PE X (.BinOp a .Pow b pos) (tD X.K C W (e2 powF Fa Fb)) :=
  d_op op_pow (i2 (g' := fun i j => .int (i ^ j.toNat)) (fun d e z h => by
    unfold powF at h
    split at h
    · split at h
      · rename_i q
        cases h; exact ⟨_, _, rfl, rfl, ⟨q.1, by omega, q.2.2⟩, rfl⟩
      · cases h
    · cases h) fun _ _ _ => .int _) ha hb
def rMulS : R2 := fun x y H Q => ∃ (a : Str) (k : Int), x = .str a ∧ y = .int k ∧ a.length ≤ 1000 ∧ -1000 ≤ k ∧ k ≤ 1000 ∧ Q (.str (Txt.mul a k)) H
theorem mulOk_of {a : Str} {k : Int} (h1 : a.length ≤ 1000) (h2 : -1000 ≤ k) (h3 : k ≤ 1000) : MulOk a k := by
  refine ⟨?_, fun hk _ => ?_, fun hk _ => ?_⟩
  · simp only [Bool.or_eq_false_iff, decide_eq_false_iff_not]
    omega
  · have : (1000 : Int) ≤ (2 ^ 63 - 1) / k := by
      rw [Int.le_ediv_iff_mul_le (by omega)]
      omega
    omega
  · have hm : a.length * k.toNat ≤ 1000 * 1000 := Nat.mul_le_mul h1 (by omega)
    unfold PySem.Builtin.Str.tooLong
    rw [sizeLine_eq]
    simp only [decide_eq_false_iff_not]
    omega
theorem op_mulS : OpR X (binaryOp .Mult) rMulS := by
  intro pins s σ H x y v u Q I rx ry ⟨a, k, hx, hy, h1, h2, h3, q⟩
  subst hx hy
  obtain ⟨t, rfl⟩ := rx
  obtain ⟨t', rfl⟩ := ry
  exact SB.mul (mulOk_of h1 h2 h3) fun t' k => ⟨.str _, H, I.tok k, ⟨t', rfl⟩, q⟩
theorem mul2 {K : PySem.W.Frag} : Op2 K C (fun x y H Q => (rI CMul (fun i j => .int (i * j)) x y H Q ∨ rRep x y H Q) ∨ rMulS x y H Q ∨ rOnce K x y H Q ∨ rRepT K x y H Q) mulF := by
  intro S ρ b σ H v w d e z Q ok r1 r2 hz q
  unfold mulF at hz
  split at hz
  · split at hz
    · rename_i x k h
      cases hz; cases r1; cases r2
      exact .inr (.inl ⟨_, _, rfl, rfl, h.1, h.2.1, h.2.2, q _ S H (Same.refl _) ok (.str _)⟩)
    · cases hz
  · split at hz
    · rename_i i j h
      cases hz; cases r1; cases r2
      exact .inl (.inl ⟨_, _, rfl, rfl, h, q _ S H (Same.refl _) ok (.int _)⟩)
    · cases hz
  · split at hz
    · rename_i x k h
      cases hz
      cases r2
      cases r1 with
      | @tup l xs _ h1 h2 =>
        have hl := h2.length
        by_cases hk : k = 1
        · subst hk
          refine .inr (.inr (.inl ⟨_, _, rfl, rfl, seqT ok.core.sub h1, ?_⟩))
          have e1 : (List.replicate (1 : Int).toNat x).flatten = x := by simp
          rw [e1] at q
          exact q _ S H (Same.refl _) ok (.tup h1 h2)
        · refine .inr (.inr (.inr ⟨_, _, _, rfl, rfl, seqT ok.core.sub h1, fun z => ?_, by omega, h.2.1, by omega, fun p hp => ?_⟩))
          · rw [z] at hl
            have := h.2.2.2
            rw [← hl] at this
            exact absurd this (by simp)
          · exact q _ _ _ (ok.same hp) (ok.alloc hp) (.tup upd_same ((h2.rep _).up (ok.same hp)))
    · cases hz
  · split at hz
    · rename_i x k h
      cases hz
      cases r2
      cases r1 with
      | lst h1 h2 =>
        refine .inl (.inr ⟨_, _, _, rfl, rfl, ok.core.sub _ _ h1, by omega, by omega, ?_, fun p hp => ?_⟩)
        · rw [h2.length]
          have hk : k.toNat ≤ 1000 := by omega
          exact Nat.le_trans (Nat.mul_le_mul h.2.2 hk) (big_le (by decide))
        · exact q _ _ _ (ok.same hp) (ok.alloc hp) (.lst upd_same ((h2.rep _).up (ok.same hp)))
    · cases hz
  · cases hz
theorem d_mul (ha : PE X a (tD X.K C W Fa)) (hb : PE X b (tD X.K C W Fb)) : PE X (.BinOp a .Mult b pos) (tD X.K C W (e2 mulF Fa Fb)) := d_op ((op_mul.or op_rep).or (op_mulS.or (op_once.or op_repT))) mul2 ha hb
theorem d_lt2 {K : PySem.W.Frag} : Op2 K C (fun x y H Q => rI0 (fun i j => .bl (decide (i < j))) x y H Q ∨ (∃ i j, x = .str i ∧ y = .str j ∧ Q (.bl (decide (i.cps.toList < j.cps.toList))) H)) ltF := by
  intro S ρ b σ H v w d e z Q ok r1 r2 hz q
  unfold ltF at hz
  split at hz
  · cases hz; cases r1; cases r2
    exact .inl ⟨_, _, rfl, rfl, q _ S H (Same.refl _) ok (.bl _)⟩
  · cases hz; cases r1; cases r2
    exact .inr ⟨_, _, rfl, rfl, q _ S H (Same.refl _) ok (.bl _)⟩
  · cases hz
theorem d_le2 {K : PySem.W.Frag} : Op2 K C (fun x y H Q => rI0 (fun i j => .bl (decide (i ≤ j))) x y H Q ∨ (∃ i j, x = .str i ∧ y = .str j ∧ Q (.bl (!decide (j.cps.toList < i.cps.toList))) H)) leF := by
  intro S ρ b σ H v w d e z Q ok r1 r2 hz q
  unfold leF at hz
  split at hz
  · cases hz; cases r1; cases r2
    exact .inl ⟨_, _, rfl, rfl, q _ S H (Same.refl _) ok (.bl _)⟩
  · cases hz; cases r1; cases r2
    exact .inr ⟨_, _, rfl, rfl, q _ S H (Same.refl _) ok (.bl _)⟩
  · cases hz
theorem d_gt2 {K : PySem.W.Frag} : Op2 K C (rI (fun _ _ => True) (fun i j => .bl (decide (j < i)))) gtF := i2 (g' := fun i j => .bl (decide (j < i))) (fun d e z h => by
    unfold gtF at h
    split at h
    · cases h; exact ⟨_, _, rfl, rfl, trivial, rfl⟩
    · cases h) fun _ _ _ => .bl _
theorem d_ge2 {K : PySem.W.Frag} : Op2 K C (rI (fun _ _ => True) (fun i j => .bl (decide (j ≤ i)))) geF := i2 (g' := fun i j => .bl (decide (j ≤ i))) (fun d e z h => by
    unfold geF at h
    split at h
    · cases h; exact ⟨_, _, rfl, rfl, trivial, rfl⟩
    · cases h) fun _ _ _ => .bl _
theorem o_lt : OpR X (compareOp .Lt) (fun x y H Q => rI0 (fun i j => .bl (decide (i < j))) x y H Q ∨ (∃ i j, x = .str i ∧ y = .str j ∧ Q (.bl (decide (i.cps.toList < j.cps.toList))) H)) := op_lt.or op_lt_str
theorem o_le : OpR X (compareOp .LtE) (fun x y H Q => rI0 (fun i j => .bl (decide (i ≤ j))) x y H Q ∨ (∃ i j, x = .str i ∧ y = .str j ∧ Q (.bl (!decide (j.cps.toList < i.cps.toList))) H)) := op_le.or op_le_str
theorem d_eq2 {K : PySem.W.Frag} : Op2 K C (rEqD K) eqF := by
  intro S ρ b σ H v w d e z Q ok r1 r2 hz q
  unfold eqF at hz
  split at hz
  · rename_i p p' h1 h2
    split at hz
    · rename_i hs
      cases hz
      exact ⟨p, p', DR.dp ok.core.sub d v p r1 h1, DR.dp ok.core.sub e w p' r2 h2, hs.1, hs.2, q _ S H (Same.refl _) ok (.bl _)⟩
    · cases hz
  · cases hz
theorem d_ne2 {K : PySem.W.Frag} : Op2 K C (rNeD K) neF := by
  intro S ρ b σ H v w d e z Q ok r1 r2 hz q
  unfold neF at hz
  split at hz
  · rename_i p p' h1 h2
    split at hz
    · rename_i hs
      cases hz
      exact ⟨p, p', DR.dp ok.core.sub d v p r1 h1, DR.dp ok.core.sub e w p' r2 h2, hs.1, hs.2, q _ S H (Same.refl _) ok (.bl _)⟩
    · cases hz
  · cases hz
theorem d_ne (hu : X.A.units + 64 < cLine) (ha : PE X a (tD X.K C W Fa)) (hb : PE X b (tD X.K C W Fb)) : PE X (.Compare a [.NotEq] [b] pos) (tD X.K C W (e2 neF Fa Fb)) := d_cmp (op_neD hu) d_ne2 ha hb (nomark _)
theorem d_lt (ha : PE X a (tD X.K C W Fa)) (hb : PE X b (tD X.K C W Fb)) : PE X (.Compare a [.Lt] [b] pos) (tD X.K C W (e2 ltF Fa Fb)) := d_cmp o_lt d_lt2 ha hb (nomark _)
theorem t_eq (hu : X.A.units + 64 < cLine) (ha : PE X a (tD X.K C W Fa)) (hb : PE X b (tD X.K C W Fb)) : PT X (.Compare a [.Eq] [b] pos) (tDt X.K C W (bB (e2 eqF Fa Fb))) := d_tcmp (op_eqD hu) d_eq2 ha hb (nomark _)
theorem t_ne (hu : X.A.units + 64 < cLine) (ha : PE X a (tD X.K C W Fa)) (hb : PE X b (tD X.K C W Fb)) : PT X (.Compare a [.NotEq] [b] pos) (tDt X.K C W (bB (e2 neF Fa Fb))) := d_tcmp (op_neD hu) d_ne2 ha hb (nomark _)
theorem t_lt (ha : PE X a (tD X.K C W Fa)) (hb : PE X b (tD X.K C W Fb)) : PT X (.Compare a [.Lt] [b] pos) (tDt X.K C W (bB (e2 ltF Fa Fb))) := d_tcmp o_lt d_lt2 ha hb (nomark _)
theorem t_gt (ha : PE X a (tD X.K C W Fa)) (hb : PE X b (tD X.K C W Fb)) : PT X (.Compare a [.Gt] [b] pos) (tDt X.K C W (bB (e2 gtF Fa Fb))) := d_tcmp (rI_of0 op_gt) d_gt2 ha hb (nomark _)
theorem t_ge (ha : PE X a (tD X.K C W Fa)) (hb : PE X b (tD X.K C W Fb)) : PT X (.Compare a [.GtE] [b] pos) (tDt X.K C W (bB (e2 geF Fa Fb))) := d_tcmp (rI_of0 op_ge) d_ge2 ha hb (nomark _)
/-- a < b < c: both asked -/
@[simp] def e3 (f f' : D → D → Option D) (Fa Fb Fc : EF) : EF := fun ρ b => (Fa ρ b).bind fun x b1 => (Fb ρ b1).bind fun y b2 => match f x y with
  | some (.bl true) => (Fc ρ b2).bind fun z b3 => Out.pureO (f' y z) b3
  | some (.bl false) => .ok (.bl false) b2
  | _ => .stuck
/-- -n -/
@[simp] def negF : D → Option D
  | .int i => some (.int (-i))
  | _ => none
theorem d_neg (ha : PE X a (tD X.K C W Fa)) : PE X (.UnaryOp .USub a pos) (tD X.K C W (e1 negF Fa)) := pe_imp (pe_un un_neg ha) fun σ H Q ⟨S, ρ, b, ok, q⟩ => by
  refine ⟨S, ρ, b, ok, q.bind.imp fun d b1 S1 H1 s1 ok1 q1 v r => ?_⟩
  obtain ⟨z, hz, q2⟩ := q1.pureO
  cases d with
  | int i => cases hz; cases r; exact ⟨i, rfl, q2 S1 H1 (Same.refl _) ok1 _ (.int _)⟩
  | _ => cases hz
end
end DL

set_option maxHeartbeats 1000000
namespace DL
open PySem PySem.Spec PyProof.Rows L2
section
variable {X : Cx} {C : Cq} {W : WX} {e a b : Expr} {pos : Pos} {F Fa Fb : EF} {G : AF}
@[simp] def ixF (b : Bag) : D → D → Option D
  | .lst ds, .int i => atI ds i
  | .fl ds, .int i => atI ds i
  | .tup ds, .int i => atI ds i
  | .str x, .int i => if x.length ≤ 100000 then (atI x.cps.toList i).map fun c => .str ⟨#[c]⟩ else none
  | .bag, .int i => atI b.ds i
  | _, _ => none
@[simp] def eIx (Fa Fb : EF) : EF := fun ρ b => (Fa ρ b).bind fun x b1 => (Fb ρ b1).bind fun y b2 => Out.pureO (ixF b2 x y) b2
theorem d_ix (ha : PE X a (tD X.K C W Fa)) (hb : PE X b (tD X.K C W Fb)) (hs : PlainIx b) : PE X (.Subscript a b pos) (tD X.K C W (eIx Fa Fb)) := pe_imp (pe_ix ix_seq ha hb hs) fun σ H Q ⟨S, ρ, b0, ok, q⟩ => by
  refine ⟨S, ρ, b0, ok, q.bind.imp fun x b1 S1 H1 s1 ok1 q1 v r1 => ⟨S1, ρ, b1, ok1, q1.bind.imp fun y b2 S2 H2 s2 ok2 q2 w r2 => ?_⟩⟩
  obtain ⟨z, hz, q3⟩ := q2.pureO
  have r1 := r1.up s2
  cases y with
  | int i =>
    cases r2
    cases x with
    | lst ds =>
      cases r1 with
      | lst h1 h2 =>
        obtain ⟨u, hu, ru⟩ := h2.atI hz
        exact .inl ⟨_, _, i, u, rfl, rfl, SqL.of (ok2.core.sub _ _ h1), hu, q3 S2 H2 (Same.refl _) ok2 u ru⟩
    | fl ds =>
      cases r1 with
      | fl h1 h2 =>
        obtain ⟨u, hu, ru⟩ := h2.atI hz
        exact .inl ⟨_, _, i, u, rfl, rfl, ok2.core.sub.seq h1, hu, q3 S2 H2 (Same.refl _) ok2 u ru⟩
    | tup ds =>
      cases r1 with
      | tup h1 h2 =>
        obtain ⟨u, hu, ru⟩ := h2.atI hz
        exact .inr (.inl ⟨_, _, i, u, rfl, rfl, seqT ok2.core.sub h1, hu, q3 S2 H2 (Same.refl _) ok2 u ru⟩)
    | str x =>
      cases r1
      simp only [ixF] at hz
      by_cases hl : x.length ≤ 100000
      · rw [if_pos hl] at hz
        simp only [Option.map_eq_some_iff] at hz
        obtain ⟨c, hc, rfl⟩ := hz
        exact .inr (.inr ⟨_, i, c, rfl, rfl, big_le hl, hc, q3 S2 H2 (Same.refl _) ok2 _ (.str _)⟩)
      · rw [if_neg hl] at hz; cases hz
    | bag =>
      cases r1 with
      | bag hb =>
        obtain ⟨h1, _⟩ := ok2.core.bag _ hb
        have rb : DRs X.K C.ba S2 [V.int b2.x, V.int b2.y, V.int b2.z] b2.ds := .cons (.int _) (.cons (.int _) (.cons (.int _) .nil))
        obtain ⟨u, hu, ru⟩ := rb.atI hz
        exact .inl ⟨_, _, i, u, rfl, rfl, SqL.of h1, hu, q3 S2 H2 (Same.refl _) ok2 u ru⟩
    | non => cases hz
    | bl _ => cases hz
    | int _ => cases hz
    | ins _ _ _ => cases hz
    | obj _ => cases hz
    | dct _ _ => cases hz
    | dtp _ _ => cases hz
  | _ => cases x <;> cases hz
abbrev OF := Env → Bag → Out (Option Int)
def tDO (K : PySem.W.Frag) (C : Cq) (W : WX) (F : OF) : TO := fun σ H Q => ∃ S ρ b, OkS K C S ρ b σ H ∧ OutG K C W S ρ σ (fun o _ _ H' => Q o H') (F ρ b)
theorem po_imp {o : Option Expr} {t t' : TO} (h : PO X o t) (f : ∀ σ H Q, t' σ H Q → t σ H Q) : PO X o t' := ⟨fun pins s σ H Q I q => h.run pins s σ H Q I (f σ H Q q)⟩
def oNo : OF := fun _ b => .ok none b
def oSome (F : EF) : OF := fun ρ b => (F ρ b).bind fun d b' => match d with
  | .int i => .ok (some i) b'
  | _ => .stuck
theorem d_ono : PO X none (tDO X.K C W oNo) := po_imp po_none fun σ H Q ⟨S, ρ, b, ok, q⟩ => q S H (Same.refl _) ok
theorem d_osome (h : PE X e (tD X.K C W F)) : PO X (some e) (tDO X.K C W (oSome F)) := po_imp (po_some h) fun σ H Q ⟨S, ρ, b, ok, q⟩ => by
  refine ⟨S, ρ, b, ok, q.bind.imp fun d b1 S1 H1 s1 ok1 q1 v r => ?_⟩
  cases d with
  | int i => cases r; exact ⟨i, rfl, q1 S1 H1 (Same.refl _) ok1⟩
  | _ => exact q1.elim
def cutD (xs : List D) (lo hi : Option Int) : List D := (xs.drop (HT.sIx xs.length 0 lo)).take (HT.sIx xs.length xs.length hi - HT.sIx xs.length 0 lo)
def slF (lo hi : Option Int) : D → Option D
  | .lst ds => some (.lst (cutD ds lo hi))
  | .fl ds => some (.lst (cutD ds lo hi))
  | .tup ds => some (.tup (cutD ds lo hi))
  | .str x => if x.length ≤ 100000 then some (.str (cutS x lo hi)) else none
  | _ => none
def eSl (F : EF) (lo hi : OF) : EF := fun ρ b => (F ρ b).bind fun d b1 => (lo ρ b1).bind fun l b2 => (hi ρ b2).bind fun h b3 => Out.pureO (slF l h d) b3
theorem cut_dr {K : PySem.W.Frag} {ba : Option Addr} {S : Hp} {vs : List V} {ds : List D} (h : DRs K ba S vs ds) (lo hi : Option Int) : DRs K ba S (cutV vs lo hi) (cutD ds lo hi) := by
  unfold cutV cutD
  rw [h.length]
  exact (h.drop _).take _
def rSlAll (K : PySem.W.Frag) : V → Option Int → Option Int → Hp → VK → Prop := fun x lo hi H Q => rSlL K x lo hi H Q ∨ rSlA K x lo hi H Q ∨ rSlS x lo hi H Q
theorem sl_all : SlR X (rSlAll X.K) := sl_list.or (sl_tupA.or sl_str)
theorem d_slice {lo hi : Option Expr} {Ol Oh : OF} {p2 : Pos} (he : PE X e (tD X.K C W F)) (hl : PO X lo (tDO X.K C W Ol)) (hh : PO X hi (tDO X.K C W Oh)) : PE X (.Subscript e (.Slice lo hi none p2) pos) (tD X.K C W (eSl F Ol Oh)) :=
  pe_imp (pe_slice sl_all he hl hh) fun σ H Q ⟨S, ρ, b, ok, q⟩ => by
  refine ⟨S, ρ, b, ok, q.bind.imp fun d b1 S1 H1 s1 ok1 q1 v r => ⟨S1, ρ, b1, ok1, q1.bind.imp fun l b2 S2 H2 s2 ok2 q2 => ⟨S2, ρ, b2, ok2, q2.bind.imp fun h b3 S3 H3 s3 ok3 q3 => ?_⟩⟩⟩
  obtain ⟨z, hz, q4⟩ := q3.pureO
  have r := r.up (s2.trans s3)
  cases d with
  | lst ds =>
    cases hz
    cases r with
    | lst h1 h2 =>
      refine .inl ⟨_, _, rfl, SqL.of (ok3.core.sub _ _ h1), fun p hp => ?_⟩
      exact q4 _ _ (ok3.same hp) (ok3.alloc hp) _ (.lst upd_same ((cut_dr h2 l h).up (ok3.same hp)))
  | fl ds =>
    cases hz
    cases r with
    | fl h1 h2 =>
      refine .inl ⟨_, _, rfl, ok3.core.sub.seq h1, fun p hp => ?_⟩
      exact q4 _ _ (ok3.same hp) (ok3.alloc hp) _ (.lst upd_same ((cut_dr h2 l h).up (ok3.same hp)))
  | tup ds =>
    cases hz
    cases r with
    | tup h1 h2 =>
      refine .inr (.inl ⟨_, _, rfl, seqT ok3.core.sub h1, fun hw => ?_, fun _ p hp => ?_⟩)
      · have e1 : cutD ds l h = ds := by
          unfold cutD
          rw [h2.length] at hw
          rw [hw.1, hw.2, List.drop_zero, Nat.sub_zero, List.take_length]
        rw [e1] at q4
        exact q4 S3 H3 (Same.refl _) ok3 _ (.tup h1 h2)
      · exact q4 _ _ (ok3.same hp) (ok3.alloc hp) _ (.tup upd_same ((cut_dr h2 l h).up (ok3.same hp)))
  | str x =>
    cases r
    simp only [slF] at hz
    by_cases hx : x.length ≤ 100000
    · rw [if_pos hx] at hz
      cases hz
      exact .inr (.inr ⟨x, rfl, big_le hx, q4 S3 H3 (Same.refl _) ok3 _ (.str _)⟩)
    · rw [if_neg hx] at hz; cases hz
  | _ => cases hz
@[simp] def eB (f : List D → Option D) (G : AF) : EF := fun ρ b => (G ρ b).bind fun ds b' => Out.pureO (f ds) b'
def CallD (K : PySem.W.Frag) (C : Cq) (r : List V → Hp → VK → Prop) (f : List D → Option D) : Prop := ∀ (S : Hp) (ρ : Env) (b : Bag) (σ : L2.St) (H : Hp) (vs : List V) (ds : List D) (z : D) (Q : VK), OkS K C S ρ b σ H → DRs K C.ba S vs ds → f ds = some z →
  (∀ u S' H', Same S S' → OkS K C S' ρ b σ H' → DR K C.ba S' u z → Q u H') → r vs H Q
theorem tCB_of {r : List V → Hp → VK → Prop} {f : List D → Option D} (hf : CallD X.K C r f) {σ : L2.St} {H : Hp} {Q : VK} (h : tD X.K C W (eB f G) σ H Q) : tCB r (tDA X.K C W G) σ H Q := by
  obtain ⟨S, ρ, b, ok, q⟩ := h
  refine ⟨S, ρ, b, ok, q.bind.imp fun ds b1 S1 H1 s1 ok1 q1 vs rs => ?_⟩
  obtain ⟨z, hz, q2⟩ := q1.pureO
  exact hf S1 ρ b1 σ H1 vs ds z Q ok1 rs hz fun u S' H' e o r => q2 S' H' e o u r
theorem d_callB {id : String} {r : List V → Hp → VK → Prop} {f : List D → Option D} {x : Str} {p : Pos} {es : List Expr} (hc : CallR X (.builtin id) r) (hf : CallD X.K C r f) (hg : Gl X x) (hm : X.mg x = none) (hv : bootBuiltins x = some (.builtin id)) (ha : PA X (e :: es) (tDA X.K C W G))
    (hn : x ≠ "__name__" := by decide) (hdb : (x == ("__debug__" : Str)) = false := by decide) (he : starEach (e :: es) X.env = (false, eval e X.env) :: starEach es X.env := by rfl) (hpl : (backTo pos (starEach es X.env)).any (·.1) = false := by rfl) :
    PE X (.Call (.Name x p) (e :: es) [] pos) (tD X.K C W (eB f G)) := pe_imp (pe_callB hc hg hm hv ha hn hdb he hpl) fun _ _ _ h => tCB_of hf h
theorem d_callTy {T : String} {r : List V → Hp → VK → Prop} {f : List D → Option D} {x : Str} {p : Pos} {es : List Expr} (hc : CallR X (.type T) r) (hf : CallD X.K C r f) (hg : Gl X x) (hm : X.mg x = none) (hv : bootBuiltins x = some (.type T)) (ha : PA X (e :: es) (tDA X.K C W G))
    (hn : x ≠ "__name__" := by decide) (hdb : (x == ("__debug__" : Str)) = false := by decide) (he : starEach (e :: es) X.env = (false, eval e X.env) :: starEach es X.env := by rfl) (hpl : (backTo pos (starEach es X.env)).any (·.1) = false := by rfl) :
    PE X (.Call (.Name x p) (e :: es) [] pos) (tD X.K C W (eB f G)) := pe_imp (pe_callTy hc hg hm hv ha hn hdb he hpl) fun _ _ _ h => tCB_of hf h
@[simp] def lenF : List D → Option D
  | [.lst ds] => some (.int ds.length)
  | [.fl ds] => some (.int ds.length)
  | [.tup ds] => some (.int ds.length)
  | [.str x] => if x.length ≤ 100000 then some (.int x.length) else none
  | _ => none
theorem c_len {K : PySem.W.Frag} : CallD K C (fun xs H Q => ∃ x n, xs = [x] ∧ LenV K x H n ∧ Q (.int n) H) lenF := by
  intro S ρ b σ H vs ds z Q ok rs hz q
  unfold lenF at hz
  split at hz
  · cases hz
    cases rs with
    | cons r1 r2 =>
      cases r2
      cases r1 with
      | lst h1 h2 => exact ⟨_, _, rfl, .inl ⟨_, SqL.of (ok.core.sub _ _ h1), h2.length.symm⟩, q _ S H (Same.refl _) ok (.int _)⟩
  · cases hz
    cases rs with
    | cons r1 r2 =>
      cases r2
      cases r1 with
      | fl h1 h2 => exact ⟨_, _, rfl, .inl ⟨_, ok.core.sub.seq h1, h2.length.symm⟩, q _ S H (Same.refl _) ok (.int _)⟩
  · cases hz
    cases rs with
    | cons r1 r2 =>
      cases r2
      cases r1 with
      | tup h1 h2 => exact ⟨_, _, rfl, .inr ⟨_, seqT ok.core.sub h1, h2.length.symm⟩, q _ S H (Same.refl _) ok (.int _)⟩
  · split at hz
    · rename_i hl
      cases hz
      cases rs with
      | cons r1 r2 =>
        cases r2
        cases r1
        exact ⟨_, _, rfl, ⟨big_le hl, rfl⟩, q _ S H (Same.refl _) ok (.int _)⟩
    · cases hz
  · cases hz
theorem d_len {p : Pos} (hg : Gl X "len") (hm : X.mg "len" = none) (ha : PA X [a] (tDA X.K C W G)) (he : starEach [a] X.env = (false, eval a X.env) :: starEach [] X.env := by rfl) (hpl : (backTo pos (starEach [] X.env)).any (·.1) = false := by rfl) :
    PE X (.Call (.Name "len" p) [a] [] pos) (tD X.K C W (eB lenF G)) := d_callB call_len c_len hg hm PySem.boot_len ha (by decide) (by decide) he hpl
/-- functions of ints alone -/
theorem c_int1 {K : PySem.W.Frag} {g : Int → Int} {f : List D → Option D} (hf : ∀ ds z, f ds = some z → ∃ i, ds = [.int i] ∧ z = .int (g i)) : CallD K C (fun xs H Q => ∃ i, xs = [.int i] ∧ Q (.int (g i)) H) f := by
  intro S ρ b σ H vs ds z Q ok rs hz q
  obtain ⟨i, rfl, rfl⟩ := hf _ _ hz
  cases rs with
  | cons r1 r2 => cases r2; cases r1; exact ⟨i, rfl, q _ S H (Same.refl _) ok (.int _)⟩
@[simp] def absF : List D → Option D
  | [.int i] => some (.int (if i < 0 then -i else i))
  | _ => none
theorem d_abs {p : Pos} (hg : Gl X "abs") (hm : X.mg "abs" = none) (ha : PA X [a] (tDA X.K C W G)) (he : starEach [a] X.env = (false, eval a X.env) :: starEach [] X.env := by rfl) (hpl : (backTo pos (starEach [] X.env)).any (·.1) = false := by rfl) :
    PE X (.Call (.Name "abs" p) [a] [] pos) (tD X.K C W (eB absF G)) := d_callB call_abs (c_int1 (g := fun i => if i < 0 then -i else i) fun ds z h => by
      unfold absF at h
      split at h
      · cases h; exact ⟨_, rfl, rfl⟩
      · cases h) hg hm (by decide +kernel) ha (by decide) (by decide) he hpl
@[simp] def intF : List D → Option D
  | [.int i] => some (.int i)
  | [.bl k] => some (.int (if k then 1 else 0))
  | _ => none
theorem c_intc {K : PySem.W.Frag} : CallD K C (fun xs H Q => (∃ i, xs = [.int i] ∧ Q (.int i) H) ∨ ∃ k, xs = [.bl k] ∧ Q (.int (if k then 1 else 0)) H) intF := by
  intro S ρ b σ H vs ds z Q ok rs hz q
  unfold intF at hz
  split at hz
  · cases hz
    cases rs with
    | cons r1 r2 => cases r2; cases r1; exact .inl ⟨_, rfl, q _ S H (Same.refl _) ok (.int _)⟩
  · cases hz
    cases rs with
    | cons r1 r2 => cases r2; cases r1; exact .inr ⟨_, rfl, q _ S H (Same.refl _) ok (.int _)⟩
  · cases hz
theorem d_int {p : Pos} (hg : Gl X "int") (hm : X.mg "int" = none) (ha : PA X [a] (tDA X.K C W G)) (he : starEach [a] X.env = (false, eval a X.env) :: starEach [] X.env := by rfl) (hpl : (backTo pos (starEach [] X.env)).any (·.1) = false := by rfl) : PE X (.Call (.Name "int" p) [a] [] pos) (tD X.K C W (eB intF G)) := d_callTy call_int1 c_intc hg hm (by decide +kernel) ha (by decide) (by decide) he hpl
def maxF : List D → Option D
  | [.int i, .int j] => some (.int (if j > i then j else i))
  | _ => none
def minF : List D → Option D
  | [.int i, .int j] => some (.int (if j < i then j else i))
  | _ => none
theorem c_int2 {K : PySem.W.Frag} {g : Int → Int → Int} {f : List D → Option D} (hf : ∀ ds z, f ds = some z → ∃ i j, ds = [.int i, .int j] ∧ z = .int (g i j)) : CallD K C (fun xs H Q => ∃ i j, xs = [.int i, .int j] ∧ Q (.int (g i j)) H) f := by
  intro S ρ b σ H vs ds z Q ok rs hz q
  obtain ⟨i, j, rfl, rfl⟩ := hf _ _ hz
  cases rs with
  | cons r1 r2 =>
    cases r2 with
    | cons r2 r3 => cases r3; cases r1; cases r2; exact ⟨i, j, rfl, q _ S H (Same.refl _) ok (.int _)⟩
theorem d_max2 {p : Pos} (hc : X.calm = true) (hg : Gl X "max") (hm : X.mg "max" = none) (ha : PA X [a, b] (tDA X.K C W G)) (he : starEach [a, b] X.env = (false, eval a X.env) :: starEach [b] X.env := by rfl) (hpl : (backTo pos (starEach [b] X.env)).any (·.1) = false := by rfl) :
    PE X (.Call (.Name "max" p) [a, b] [] pos) (tD X.K C W (eB maxF G)) := d_callB (call_max2 hc) (c_int2 (g := fun i j => if j > i then j else i) fun ds z h => by
      unfold maxF at h
      split at h
      · cases h; exact ⟨_, _, rfl, rfl⟩
      · cases h) hg hm (by decide +kernel) ha (by decide) (by decide) he hpl
theorem d_min2 {p : Pos} (hc : X.calm = true) (hg : Gl X "min") (hm : X.mg "min" = none) (ha : PA X [a, b] (tDA X.K C W G)) (he : starEach [a, b] X.env = (false, eval a X.env) :: starEach [b] X.env := by rfl) (hpl : (backTo pos (starEach [b] X.env)).any (·.1) = false := by rfl) :
    PE X (.Call (.Name "min" p) [a, b] [] pos) (tD X.K C W (eB minF G)) := d_callB (call_min2 hc) (c_int2 (g := fun i j => if j < i then j else i) fun ds z h => by
      unfold minF at h
      split at h
      · cases h; exact ⟨_, _, rfl, rfl⟩
      · cases h) hg hm (by decide +kernel) ha (by decide) (by decide) he hpl
@[simp] def divmodF : List D → Option D
  | [.int i, .int j] => if 0 < j ∧ j < 1073741824 then some (.tup [.int (i / j), .int (i % j)]) else none
  | _ => none
theorem c_divmod {K : PySem.W.Frag} : CallD K C (fun xs H Q => ∃ i j, xs = [.int i, .int j] ∧ CDiv i j ∧ ∀ p, H p = none → Q (.ref p) (upd H p (.tup [.int (i / j), .int (i % j)]))) divmodF := by
  intro S ρ b σ H vs ds z Q ok rs hz q
  unfold divmodF at hz
  split at hz
  · split at hz
    · rename_i h
      cases hz
      cases rs with
      | cons r1 r2 =>
        cases r2 with
        | cons r2 r3 =>
          cases r3; cases r1; cases r2
          exact ⟨_, _, rfl, h, fun p hp => q _ _ _ (ok.same hp) (ok.alloc hp) (.tup upd_same (.cons (.int _) (.cons (.int _) .nil)))⟩
    · cases hz
  · cases hz
theorem d_divmod {p : Pos} (hg : Gl X "divmod") (hm : X.mg "divmod" = none) (ha : PA X [a, b] (tDA X.K C W G)) (he : starEach [a, b] X.env = (false, eval a X.env) :: starEach [b] X.env := by rfl) (hpl : (backTo pos (starEach [b] X.env)).any (·.1) = false := by rfl) :
    PE X (.Call (.Name "divmod" p) [a, b] [] pos) (tD X.K C W (eB divmodF G)) := d_callB call_divmod c_divmod hg hm (by decide +kernel) ha (by decide) (by decide) he hpl
def tupleF : List D → Option D
  | [.lst ds] => some (.tup ds)
  | [.fl ds] => some (.tup ds)
  | [.tup ds] => some (.tup ds)
  | _ => none
theorem c_tuple {K : PySem.W.Frag} : CallD K C (fun xs H Q => ∃ p ys, xs = [.ref p] ∧ ((SqL K H p ys ∧ ∀ l, H l = none → Q (.ref l) (upd H l (.tup ys))) ∨ (SqT K H p ys ∧ Q (.ref p) H))) tupleF := by
  intro S ρ b σ H vs ds z Q ok rs hz q
  unfold tupleF at hz
  split at hz
  · cases hz
    cases rs with
    | cons r1 r2 =>
      cases r2
      cases r1 with
      | lst h1 h2 => exact ⟨_, _, rfl, .inl ⟨SqL.of (ok.core.sub _ _ h1), fun p hp => q _ _ _ (ok.same hp) (ok.alloc hp) (.tup upd_same (h2.up (ok.same hp)))⟩⟩
  · cases hz
    cases rs with
    | cons r1 r2 =>
      cases r2
      cases r1 with
      | fl h1 h2 => exact ⟨_, _, rfl, .inl ⟨ok.core.sub.seq h1, fun p hp => q _ _ _ (ok.same hp) (ok.alloc hp) (.tup upd_same (h2.up (ok.same hp)))⟩⟩
  · cases hz
    cases rs with
    | cons r1 r2 =>
      cases r2
      cases r1 with
      | tup h1 h2 => exact ⟨_, _, rfl, .inr ⟨seqT ok.core.sub h1, q _ S H (Same.refl _) ok (.tup h1 h2)⟩⟩
  · cases hz
theorem d_tuple {p : Pos} (hg : Gl X "tuple") (hm : X.mg "tuple" = none) (ha : PA X [a] (tDA X.K C W G)) (he : starEach [a] X.env = (false, eval a X.env) :: starEach [] X.env := by rfl) (hpl : (backTo pos (starEach [] X.env)).any (·.1) = false := by rfl) : PE X (.Call (.Name "tuple" p) [a] [] pos) (tD X.K C W (eB tupleF G)) := d_callTy call_tuple_of c_tuple hg hm (by decide +kernel) ha (by decide) (by decide) he hpl
/-- all of a list of truths -/
def truths : List D → Option (List Bool)
  | [] => some []
  | .bl k :: ds => (truths ds).map (k :: ·)
  | _ :: _ => none
def allF : List D → Option D
  | [.lst ds] => (truths ds).map fun ks => .bl (ks.all id)
  | _ => none
theorem truths_dr {K : PySem.W.Frag} {ba : Option Addr} {S : Hp} : ∀ {ds : List D} {vs : List V} {ks : List Bool}, DRs K ba S vs ds → truths ds = some ks → vs = ks.map V.bl
  | [], _, _, r, h => by cases r; cases h; rfl
  | .bl k :: ds, _, _, r, h => by
    simp only [truths, Option.map_eq_some_iff] at h
    obtain ⟨ks, h1, rfl⟩ := h
    cases r with
    | cons r1 r2 => cases r1; rw [truths_dr r2 h1]; rfl
  | .non :: _, _, _, _, h => by cases h
  | .int _ :: _, _, _, _, h => by cases h
  | .str _ :: _, _, _, _, h => by cases h
  | .tup _ :: _, _, _, _, h => by cases h
  | .lst _ :: _, _, _, _, h => by cases h
  | .fl _ :: _, _, _, _, h => by cases h
  | .ins _ _ _ :: _, _, _, _, h => by cases h
  | .obj _ :: _, _, _, _, h => by cases h
  | .bag :: _, _, _, _, h => by cases h
  | .dct _ _ :: _, _, _, _, h => by cases h
  | .dtp _ _ :: _, _, _, _, h => by cases h
theorem c_all {K : PySem.W.Frag} : CallD K C (rAll K) allF := by
  intro S ρ b σ H vs ds z Q ok rs hz q
  unfold allF at hz
  split at hz
  · simp only [Option.map_eq_some_iff] at hz
    obtain ⟨ks, hk, rfl⟩ := hz
    cases rs with
    | cons r1 r2 =>
      cases r2
      cases r1 with
      | lst h1 h2 =>
        have e := truths_dr h2 hk
        subst e
        exact ⟨_, ks, rfl, SqL.of (ok.core.sub _ _ h1), q _ S H (Same.refl _) ok (.bl _)⟩
  · cases hz
theorem d_all {p : Pos} (hc : X.calm = true) (hg : Gl X "all") (hm : X.mg "all" = none) (ha : PA X [a] (tDA X.K C W G)) (he : starEach [a] X.env = (false, eval a X.env) :: starEach [] X.env := by rfl) (hpl : (backTo pos (starEach [] X.env)).any (·.1) = false := by rfl) :
    PE X (.Call (.Name "all" p) [a] [] pos) (tD X.K C W (eB allF G)) := d_callB (cr_all hc) c_all hg hm (by decide +kernel) ha (by decide) (by decide) he hpl
end
end DL

set_option maxHeartbeats 1000000
namespace DL
open PySem PySem.Spec PyProof.Rows L2
section
variable {X : Cx} {C : Cq} {W : WX} {st : Stmt} {e a b o : Expr} {es : List Expr} {pos apos cpos : Pos} {F Fa Fb : EF} {G : AF}
def reprF : List D → Option D
  | [.lst ds] => (D.lst ds).pd.bind fun p => if p.showable = true ∧ p.hasDict = false ∧ p.depth ≤ 60 ∧ p.shown.length ≤ 1000000 then some (.str p.shown) else none
  | [.tup ds] => (D.tup ds).pd.bind fun p => if p.showable = true ∧ p.hasDict = false ∧ p.depth ≤ 60 ∧ p.shown.length ≤ 1000000 then some (.str p.shown) else none
  | [.int i] => if i.natAbs.log2 < 1920 then some (.str (toString i)) else none
  | _ => none
def rRepr (K : PySem.W.Frag) : List V → Hp → VK → Prop := fun vs H Q => (∃ i, vs = [.int i] ∧ i.natAbs.log2 < 1920 ∧ Q (.str (toString i)) H) ∨
  ∃ a p, vs = [.ref a] ∧ Dp K H (.ref a) p ∧ p.showable = true ∧ p.hasDict = false ∧ p.depth ≤ 60 ∧ p.shown.length ≤ 1000000 ∧ Q (.str p.shown) H
theorem cr_repr (hg : X.A.guards = some []) (hu : X.A.units + 64 < cLine) : CallR X (.builtin "repr") (rRepr X.K) := by
  intro pins s σ H xs us Q I r h
  rcases h with ⟨i, rfl, hz, q⟩ | ⟨a, p, rfl, hd, h1, h2, h3, h4, q⟩
  · cases r with
    | cons r1 r2 =>
      cases r2
      obtain ⟨t, rfl⟩ := r1
      exact PySem.P.repr_of_int hz ⟨.str _, H, I.tok _, ⟨_, rfl⟩, q⟩
  · cases r with
    | cons r1 r2 =>
      cases r2
      cases r1
      obtain ⟨as, rd⟩ := Dp.reads I p (.ref a) (.ref a) hd rfl
      exact repr_of_reads' rd h1 (PyData.noDict_hsm h2) hg (by omega) (fun _ _ z => z) (fun h' u tk hk => ⟨.str p.shown, H, I.kept hk, ⟨u, rfl⟩, q⟩) (by rw [sizeLine_eq]; omega)
theorem c_repr {K : PySem.W.Frag} : CallD K C (rRepr K) reprF := by
  intro S ρ b σ H vs ds z Q ok rs hz q
  unfold reprF at hz
  split at hz
  · simp only [Option.bind_eq_some_iff] at hz
    obtain ⟨p, hp, hz⟩ := hz
    split at hz
    · rename_i hc
      cases hz
      cases rs with
      | cons r1 r2 =>
        cases r2
        have hd := DR.dp ok.core.sub _ _ p r1 hp
        cases r1 with
        | lst h1 h2 => exact .inr ⟨_, p, rfl, hd, hc.1, hc.2.1, hc.2.2.1, hc.2.2.2, q _ S H (Same.refl _) ok (.str _)⟩
    · cases hz
  · simp only [Option.bind_eq_some_iff] at hz
    obtain ⟨p, hp, hz⟩ := hz
    split at hz
    · rename_i hc
      cases hz
      cases rs with
      | cons r1 r2 =>
        cases r2
        have hd := DR.dp ok.core.sub _ _ p r1 hp
        cases r1 with
        | tup h1 h2 => exact .inr ⟨_, p, rfl, hd, hc.1, hc.2.1, hc.2.2.1, hc.2.2.2, q _ S H (Same.refl _) ok (.str _)⟩
    · cases hz
  · split at hz
    · rename_i hc
      cases hz
      cases rs with
      | cons r1 r2 => cases r2; cases r1; exact .inl ⟨_, rfl, hc, q _ S H (Same.refl _) ok (.str _)⟩
    · cases hz
  · cases hz
theorem d_repr {p : Pos} (hgd : X.A.guards = some []) (hu : X.A.units + 64 < cLine) (hg : Gl X "repr") (hm : X.mg "repr" = none) (ha : PA X [a] (tDA X.K C W G)) (he : starEach [a] X.env = (false, eval a X.env) :: starEach [] X.env := by rfl) (hpl : (backTo pos (starEach [] X.env)).any (·.1) = false := by rfl) :
    PE X (.Call (.Name "repr" p) [a] [] pos) (tD X.K C W (eB reprF G)) := d_callB (cr_repr hgd hu) c_repr hg hm (by decide +kernel) ha (by decide) (by decide) he hpl
/-- xs.append(e), xs an owned list in slot i -/
@[simp] def sPush (i : Nat) (F : EF) : SF := fun ρ b => match ρ[i]? with
  | some (some (.ow (.lst ds))) => (F ρ b).st ρ fun d b' => if ds.length ≤ 100000 then .nx (ρ.set i (some (.ow (.lst (ds ++ [d]))))) b' else .stuck
  | _ => .stuck
theorem d_push {i : Nat} {x : Str} {px : Pos} (hx : PE X (.Name x px) (tVar i)) (he : PE X e (tD X.K C W F))
    (hbase : attributeBase (.Name x px) "append" X.env (eval (.Name x px) X.env) = eval (.Name x px) X.env := by rfl)
    (hfew : ((backTo cpos (starEach [e] X.env)).all (fun x => !x.1) && (backToKw cpos (keywordEach [] X.env)).all (fun x => x.1.isSome)
      && decide ([e].length + ([] : List Keyword).length + (if ([] : List Keyword).isEmpty then 0 else 1) < 30)) = true := by rfl)
    (hline : (apos.endLine == cpos.line) = true := by rfl) (hs : starEach [e] X.env = (false, eval e X.env) :: starEach [] X.env := by rfl) (hplain : (backTo cpos (starEach [] X.env)).any (·.1) = false := by rfl)
    (hsw : swapsWith (.Call (.Attribute (.Name x px) "append" apos) [e] [] cpos) none pos.line X.env = pure false := by rfl) :
    PS X (.Expr (.Call (.Attribute (.Name x px) "append" apos) [e] [] cpos) pos) (tDS X.K C W (sPush i F)) :=
  ps_imp (ps_expr (pe_bm PySem.F.plainAttrs_list PySem.F.slot_list_append PySem.F.type_list_append mt_append hx (pa_cons he pa_nil hs) hbase hfew hline hs hplain) hsw) fun E σ H ⟨S, ρ, b, ok, q⟩ => by
  unfold sPush at q
  split at q
  · rename_i ds hr
    obtain ⟨p, u, e1, hp, r, _⟩ := ok.getOw hr
    cases r with
    | lst r =>
      refine ⟨_, e1, .inl ⟨rfl, _, SqL.of hp⟩, S, ρ, b, ok, q.st.imp fun d b1 S1 H1 s1 ok1 q1 v rv => ?_⟩
      obtain ⟨p', u', e1', hp', r', _, _, _, wr, _⟩ := ok1.getOw hr
      rw [e1] at e1'
      cases e1'
      cases r' with
      | @lst xs' _ r' =>
        by_cases hl : ds.length ≤ 100000
        · rw [if_pos hl] at q1
          refine ⟨p, xs', v, rfl, rfl, hp', small_lt (by rw [r'.length]; exact hl), ?_⟩
          exact q1 S1 σ _ (Same.refl _) (wr _ _ (.lst (r'.app (.cons rv .nil))))
        · rw [if_neg hl] at q1
          exact q1.elim
  · exact q.elim
/-- .. into the bag in slot i -/
@[simp] def Bag.set (b : Bag) (k : Int) (z : Int) : Option Bag := if k = 0 then some ⟨z, b.y, b.z⟩ else if k = 1 then some ⟨b.x, z, b.z⟩ else if k = 2 then some ⟨b.x, b.y, z⟩ else none
@[simp] def gBag (i : Nat) (k : Int) : GF := fun d ρ b => match ρ[i]?, d with
  | some (some (.sh .bag)), .int z => (b.set k z).map fun b' => (ρ, b')
  | _, _ => none
theorem d_gbag {i : Nat} {x : Expr} {k : Int} (h : PG X (.Subscript x a pos) (gSub (tVar i) (tC (.int k)) rSetL)) : PG X (.Subscript x a pos) (tDG X.K C (gBag i k)) := pg_imp h fun v σ H Q ⟨S, ρ, b, d, ρ', b', ok, r, e, q⟩ => by
  unfold gBag at e
  split at e
  · rename_i z hr
    simp only [Option.map_eq_some_iff] at e
    obtain ⟨b2, hb, e⟩ := e
    cases e
    cases r
    obtain ⟨u, hu, ru⟩ := ok.get hr
    cases ru with
    | @bag p hp =>
      obtain ⟨h1, h2⟩ := ok.core.bag p hp
      have fin : ∀ j, ixN 3 k = some j → [V.int b.x, V.int b.y, V.int b.z].set j (.int z) = [V.int b'.x, V.int b'.y, V.int b'.z] → gSub (tVar i) (tC (.int k)) rSetL (.int z) σ H Q := fun j hj he => by
        refine ⟨_, hu, p, _, k, j, rfl, rfl, h1, hj, ?_⟩
        rw [he]
        exact q S σ _ (Same.refl _) (ok.bagW hp)
      unfold Bag.set at hb
      by_cases h0 : k = 0
      · subst h0
        rw [if_pos rfl] at hb
        cases hb
        exact fin 0 rfl rfl
      · rw [if_neg h0] at hb
        by_cases h1 : k = 1
        · subst h1
          rw [if_pos rfl] at hb
          cases hb
          exact fin 1 rfl rfl
        · rw [if_neg h1] at hb
          by_cases h2 : k = 2
          · subst h2
            rw [if_pos rfl] at hb
            cases hb
            exact fin 2 rfl rfl
          · rw [if_neg h2] at hb
            cases hb
  · cases e
def sPar2 (i j : Nat) (G : AF) : SF := fun ρ b => (G ρ b).st ρ fun ds b' => match ds with
  | [d, e] => .nx ((ρ.set i (some (.sh d))).set j (some (.sh e))) b'
  | _ => .stuck
theorem d_par2 {i j : Nat} (h : PS X st (tPar i j (tDA X.K C W G))) : PS X st (tDS X.K C W (sPar2 i j G)) := ps_imp h fun E σ H ⟨S, ρ, b, ok, q⟩ => by
  refine ⟨S, ρ, b, ok, q.st.imp fun ds b1 S1 H1 s1 ok1 q1 vs r => ?_⟩
  split at q1
  · cases r with
    | cons r1 r =>
      cases r with
      | cons r2 r =>
        cases r
        exact ⟨_, _, rfl, q1 S1 _ H1 (Same.refl _) ((ok1.setSh r1).setSh r2)⟩
  · exact q1.elim
/-- an expression within: in an inner run, without the owned -/
def tDin (K : PySem.W.Frag) (F : EF) : TE := fun σ H Q => ∃ C, tD K C W0 F σ H Q
end
end DL

set_option maxHeartbeats 2000000
namespace PySem
open AutoSeq1 (wpAny_loadPart')
/-- enumerate of what begins an iterator, from 0 -/
theorem enum0_made {v : Value} {o : Obj} {G : Heap → Prop} (B : Begins v o G) :
    Meets (Builtin.«enumerate.__new__» ⟨[.type "enumerate", v], []⟩) (fun _ R s => G s.heap ∧
      R (.ok (.ret (.ref (s.heap.push o).objs.size))) { s with heap := (s.heap.push o).push { cls := .type "enumerate", data := .fields #[.none, .bool false, .ref s.heap.objs.size, rawInt 0, .none, .none] } }) :=
  .of_wp fun prog w A R s z => by
    obtain ⟨hp, gs, dr, tk, os⟩ := s
    obtain ⟨z1, z2⟩ := z
    have sub := sub_enumerate
    have begin_ : ∀ {A' : Around} {E : Value → Shared → Prop} {Q : Value → Shared → Prop}, Q (.ref hp.objs.size) ⟨hp.push o, gs, dr, tk, os⟩ → wpAny (model prog w) A' (pyIter v) Q E ⟨hp, gs, dr, tk, os⟩ := fun {A' E Q} q =>
      B.iter prog w A' E ⟨hp, gs, dr, tk, os⟩ Q z1 q
    wp_walk using begin_
    refine wpAny_stack_any fun st => wpAny_pure ?_
    split
    · rename_i c _ _ _ _ _
      cases (c == Value.type "enumerate") <;> (wp_walk using begin_; exact ⟨_, rfl, z2⟩)
    · wp_walk using begin_
      exact ⟨_, rfl, z2⟩
theorem enum0_begins {prog : Program} {w : World} {A : Around} {E : Value → Shared → Prop} {s : Shared} {v : Value} {o : Obj} {G : Heap → Prop} {Q : Value → Shared → Prop} (B : Begins v o G) (z : G s.heap)
    (h : ∀ h', IsEnum h' (s.heap.objs.size + 1) s.heap.objs.size 0 .none → h'.get? s.heap.objs.size = some o → h'.objs.size = s.heap.objs.size + 2 →
      (∀ b ob, s.heap.get? b = some ob → h'.get? b = some ob) → Q (.ref (s.heap.objs.size + 1)) { s with heap := h' }) : wpAny (model prog w) A (call (.type "enumerate") [v]) Q E s := by
  refine callType_new F.called_enumerate (by decide) (F.typeCall_enumerate_1 _) (F.newCall_enumerate_1 _) (fun ob => F.args_object_init_2 ob _) F.entry_enumerate_new (enum0_made B) ⟨z, ?_⟩
  have sz : (s.heap.push o).objs.size = s.heap.objs.size + 1 := Heap.size_push ..
  have at_ : IsEnum ((s.heap.push o).push { cls := .type "enumerate", data := .fields #[.none, .bool false, .ref s.heap.objs.size, rawInt 0, .none, .none] }) (s.heap.objs.size + 1) s.heap.objs.size 0 .none := by
    rw [← sz]
    exact Heap.get?_push_size _ rfl
  show _ ∧ _
  rw [sz]
  exact ⟨⟨_, at_, rfl⟩, h _ at_ (Heap.get?_push_of_some _ (Heap.get?_push_size _ B.free)) (by rw [Heap.size_push, sz]) fun b ob q => Heap.get?_push_of_some _ (Heap.get?_push_of_some _ q)⟩
end PySem
namespace DL
open PySem PySem.Spec PyProof.Rows L2
/-- enumerate(t), t a tuple: each item in a new pair -/
def Itet (K : PySem.W.Frag) (a : Addr) : It :=
  ⟨fun i H => ∃ (xs : List V) (x : V), SqT K H a xs ∧ xs[i]? = some x, fun i H v H' => ∃ T x, v = .ref T ∧ H T = none ∧ H' = upd H T (.tup [.int (i : Nat), x]) ∧ ∀ xs, SqT K H a xs → xs[i]? = some x, fun i H => ∃ xs : List V, SqT K H a xs ∧ xs.length = i⟩
theorem turn_enumT {P : Program} {w : World} {K : PySem.W.Frag} {elts : List Expr} {kk : Nat} {tpos : Pos} (a e it : Addr) (hei : e ≠ it) :
    Turn P w K (.Tuple elts kk tpos) (Itet K a) [e, it] e (fun i h => (∃ old, IsEnum h e it ((i : Nat) : Int) old) ∧ h.IsTupleIter it a i) where
  mem := by simp
  obj := fun i h st b hb => by
    obtain ⟨⟨old, he⟩, ⟨o, ho, hc, hd⟩⟩ := st
    rcases (show b = e ∨ b = it by simpa using hb) with z | z
    · subst z; exact ⟨_, he, fun v q => by cases q⟩
    · subst z; exact ⟨o, ho, fun v q => by rw [hd] at q; cases q⟩
  keep := fun i h h' st k => ⟨st.1.elim fun old he => ⟨old, k e (by simp) _ he⟩, st.2.at fun o q => k it (by simp) o q⟩
  item := by
    intro X hP hw hK hc i pins s σ H E I hf st hg
    subst hP hw hK
    obtain ⟨xs, x, hq, hx⟩ := hg
    obtain ⟨its, rv, p, hz⟩ := I.tuple hq
    obtain ⟨u, hu, ru⟩ := rv.get hx
    obtain ⟨⟨old, he⟩, hit⟩ := st
    have hle : e < s.heap.objs.size := Heap.lt_size he
    have hli : it < s.heap.objs.size := by obtain ⟨_, q, _⟩ := hit; exact Heap.lt_size q
    have hta : a ≠ it := fun z => by
      subst z
      obtain ⟨o1, g1, g2, _⟩ := hit
      obtain ⟨o2, g3, g4, _⟩ := p
      rw [g1] at g3
      cases g3
      rw [g2] at g4
      exact absurd g4 (by decide)
    have hne : a ≠ e := fun z => by
      subst z
      obtain ⟨o2, g3, g4, _⟩ := p
      have he' : s.heap.get? a = some _ := he
      rw [he'] at g3
      cases g3
      exact absurd (show Value.type "enumerate" = Value.type "tuple" from g4) (by decide)
    have G := GoesN.enumFrom (elts := elts) (x1 := kk) (pos := tpos) 0 (Draws.tuple (prog := X.prog) (w := X.w) (A := X.A.in1) (I.ok.hd hc) it a hta its.toArray) e hei (by simp [hei, hne.symm]) (by simp)
    have hil : i < its.length := (List.getElem?_eq_some_iff.mp hu).1
    have st' : (∃ old, IsEnum s.heap e it (0 + ((i : Nat) : Int)) old) ∧ s.heap.IsTupleIter it a i ∧ s.heap.IsTuple a its.toArray := ⟨⟨old, by rw [Int.zero_add]; exact he⟩, hit, p⟩
    refine wpAny_mono (G.goes i s (fun v s2 => ∃ x H', Inv X pins σ H' s2 ∧ RelV x v ∧ (Itet X.K a).yld i H x H' ∧ ((∃ old, IsEnum s2.heap e it ((i + 1 : Nat) : Int) old) ∧ s2.heap.IsTupleIter it a (i + 1)) ∧ ∀ b ∈ [e, it], H' b = none) E (by simpa using hil) st' fun v h' tk hY hst hk htk => ?_)
      (fun r s1 h1 => h1) fun _ _ z => z
    obtain ⟨T, t, y, rfl, hT, hy, hTup⟩ := hY
    have ey : y = u := by
      have hy' : its[i]? = some y := by simpa using hy
      rw [hu] at hy'
      exact (Option.some.inj hy').symm
    subst ey
    have hnb : ∀ b ∈ [e, it], b < s.heap.objs.size := fun b hb => by
      rcases (show b = e ∨ b = it by simpa using hb) with z | z
      · subst z; exact hle
      · subst z; exact hli
    have new : ObjOk X.prog X.w (upd H T (.tup [.int (i : Nat), x])) h' T (.tup [.int (i : Nat), x]) :=
      ⟨by show 2 ≤ sizeLine; decide, [.int (0 + (i : Nat)) t, y], .cons ⟨t, by rw [Int.zero_add]⟩ (.cons ru .nil), hTup⟩
    have J := I.turnedNew (t' := tk) (ch := [e, it]) hk hf hT new
    refine ⟨.ref T, _, J, rfl, ⟨T, x, rfl, I.hok.fresh hT, rfl, fun ys hy => by rw [I.tuple_inj hy hq]; exact hx⟩, ⟨?_, hst.2.1⟩, fun b hb => ?_⟩
    · obtain ⟨old', he'⟩ := hst.1
      have e0 : (0 : Int) + ((i + 1 : Nat) : Int) = ((i + 1 : Nat) : Int) := Int.zero_add _
      rw [e0] at he'
      exact ⟨old', he'⟩
    · rw [upd_ne (Nat.ne_of_lt (Nat.lt_of_lt_of_le (hnb b hb) hT))]
      exact (hf b hb).1
  done := by
    intro X hP hw hK hc i pins s σ H E I hf st hg
    subst hP hw hK
    obtain ⟨xs, hq, hx⟩ := hg
    obtain ⟨its, rv, p, hz⟩ := I.tuple hq
    obtain ⟨⟨old, he⟩, hit⟩ := st
    have hta : a ≠ it := fun z => by
      subst z
      obtain ⟨o1, g1, g2, _⟩ := hit
      obtain ⟨o2, g3, g4, _⟩ := p
      rw [g1] at g3
      cases g3
      rw [g2] at g4
      exact absurd g4 (by decide)
    have hne : a ≠ e := fun z => by
      subst z
      obtain ⟨o2, g3, g4, _⟩ := p
      have he' : s.heap.get? a = some _ := he
      rw [he'] at g3
      cases g3
      exact absurd (show Value.type "enumerate" = Value.type "tuple" from g4) (by decide)
    have G := GoesN.enumFrom (elts := elts) (x1 := kk) (pos := tpos) 0 (Draws.tuple (prog := X.prog) (w := X.w) (A := X.A.in1) (I.ok.hd hc) it a hta its.toArray) e hei (by simp [hei, hne.symm]) (by simp)
    have hl : its.toArray.size = i := by
      rw [List.size_toArray, ← rv.length]
      exact hx
    subst hl
    exact G.stops s (fun s1 => Inv X pins σ H s1) E ⟨⟨old, by rw [Int.zero_add]; exact he⟩, hit, p⟩ fun h' tk hk _ => I.turnedL (t' := tk) (ch := [e, it]) hk hf
  self := fun A i s Q E st h => st.1.elim fun _ he => wpAny_pyIter_enum he h
def iEnumT (K : PySem.W.Frag) (ta : TA) : TI := fun σ H R => ta σ H fun vs H1 => ∃ a xs, vs = [.ref a] ∧ SqT K H1 a xs ∧ R (Itet K a) H1
theorem pi_enumT {X : Cx} {e : Expr} {ta : TA} {p pos tpos : Pos} {elts : List Expr} {kk : Nat} (hg : Gl X "enumerate") (hm : X.mg "enumerate" = none) (ha : PA X [e] ta) (hs : starEach [e] X.env = [(false, eval e X.env)] := by rfl) :
    PI X (.Tuple elts kk tpos) (.Call (.Name "enumerate" p) [e] [] pos) (iEnumT X.K ta) := ⟨fun pins s σ H R I h => by
  refine Call_ (ld_blt I hg hm boot_enumerate (PyProof.Rows.callWith_type1 (thn (ha.run pos pins s σ H _ I h) fun us s1 z => ?_) hs rfl))
  obtain ⟨vs, H1, J, r, a, xs, rfl, hq, q⟩ := z
  cases r with
  | cons r rr =>
    cases rr
    cases r
    obtain ⟨its, rv, p', hz⟩ := J.tuple hq
    refine enum0_begins (begins_tuple a its.toArray) p' fun h' he hit hsz hk => wpAny_pyIter_enum he ?_
    refine ⟨s1.heap.objs.size + 1, [s1.heap.objs.size + 1, s1.heap.objs.size], _, _, H1, rfl, J.kept (t' := s1.toks) hk, turn_enumT a (s1.heap.objs.size + 1) s1.heap.objs.size (Nat.succ_ne_self _), ⟨⟨.none, he⟩, _, hit, rfl, rfl⟩, fun b hb => ?_, q⟩
    have le : s1.heap.objs.size ≤ b := by
      rcases (show b = s1.heap.objs.size + 1 ∨ b = s1.heap.objs.size by simpa using hb) with y | y
      · rw [y]; exact Nat.le_succ _
      · rw [y]; exact Nat.le_refl _
    exact J.fpOk le (J.hok.fresh le)⟩
def Itzs (x y : Str) : It :=
  ⟨fun i _ => i < min x.cps.size y.cps.size, fun i H v H' => ∃ T c d, v = .ref T ∧ H T = none ∧ H' = upd H T (.tup [.str ⟨#[c]⟩, .str ⟨#[d]⟩]) ∧ x.cps[i]? = some c ∧ y.cps[i]? = some d, fun i _ => i = min x.cps.size y.cps.size⟩
theorem turn_zipS {P : Program} {w : World} {K : PySem.W.Frag} {elts : List Expr} {kk : Nat} {tpos : Pos} {x y : Str} {t u : Tok} {z TI TO i1 i2 : Addr} (S : ZipSep2 z TI TO i1 i2 [i1] [i2]) :
    Turn P w K (.Tuple elts kk tpos) (Itzs x y) [z, TI, TO, i1, i2] z (fun i h => IsZip h z TI TO .none ∧ IsTupOf2 h TI (.ref i1) (.ref i2) ∧ (∃ a1 a2, IsTupOf2 h TO a1 a2) ∧ h.IsStrIter i1 (strIterType x) x t i ∧ h.IsStrIter i2 (strIterType y) y u i) where
  mem := by simp
  obj := fun i h st c hc => by
    obtain ⟨hz, hTI, ⟨a1, a2, hTO⟩, ⟨o1, e1, _, d1⟩, ⟨o2, e2, _, d2⟩⟩ := st
    rcases (show c = z ∨ c = TI ∨ c = TO ∨ c = i1 ∨ c = i2 by simpa using hc) with q | q | q | q | q
    · rw [q]; exact ⟨_, hz, fun v y => by cases y⟩
    · rw [q]; exact ⟨_, hTI, fun v y => by cases y⟩
    · rw [q]; exact ⟨_, hTO, fun v y => by cases y⟩
    · rw [q]; exact ⟨o1, e1, fun v y => by rw [d1] at y; cases y⟩
    · rw [q]; exact ⟨o2, e2, fun v y => by rw [d2] at y; cases y⟩
  keep := fun i h h' st k => by
    obtain ⟨hz, hTI, ⟨a1, a2, hTO⟩, ⟨o1, e1, r1⟩, ⟨o2, e2, r2⟩⟩ := st
    exact ⟨k z (by simp) _ hz, k TI (by simp) _ hTI, ⟨a1, a2, k TO (by simp) _ hTO⟩, ⟨o1, k i1 (by simp) _ e1, r1⟩, ⟨o2, k i2 (by simp) _ e2, r2⟩⟩
  item := by
    intro X hP hw hK hc i pins s σ H E I hf st hg
    subst hP hw hK
    have hh : X.A.in1.handled = none := I.ok.hd hc
    have G := GoesN.zip2 (elts := elts) (x1 := kk) (pos := tpos) S (Draws.text (prog := X.prog) (w := X.w) (A := X.A.in1) hh i1 x t) (Draws.text (prog := X.prog) (w := X.w) (A := X.A.in1) hh i2 y u)
    have alive : ∀ b ∈ [z, TI, TO, i1, i2], b < s.heap.objs.size := fun b hb => by
      obtain ⟨hz, hTI, ⟨a1, a2, hTO⟩, ⟨o1, e1, _, d1⟩, ⟨o2, e2, _, d2⟩⟩ := st
      rcases (show b = z ∨ b = TI ∨ b = TO ∨ b = i1 ∨ b = i2 by simpa using hb) with q | q | q | q | q
      · rw [q]; exact Heap.lt_size hz
      · rw [q]; exact Heap.lt_size hTI
      · rw [q]; exact Heap.lt_size hTO
      · rw [q]; exact Heap.lt_size e1
      · rw [q]; exact Heap.lt_size e2
    refine wpAny_mono (G.goes i s (fun v s2 => ∃ w H', Inv X pins σ H' s2 ∧ RelV w v ∧ (Itzs x y).yld i H w H' ∧ (IsZip s2.heap z TI TO .none ∧ IsTupOf2 s2.heap TI (.ref i1) (.ref i2) ∧ (∃ a1 a2, IsTupOf2 s2.heap TO a1 a2) ∧ s2.heap.IsStrIter i1 (strIterType x) x t (i + 1) ∧ s2.heap.IsStrIter i2 (strIterType y) y u (i + 1)) ∧ ∀ b ∈ [z, TI, TO, i1, i2], H' b = none) E hg st fun v h' tk hY hst hk htk => ?_)
      (fun r s1 h1 => h1) fun _ _ q => q
    obtain ⟨T, v1, v2, rfl, hT, ⟨c, t1, hc1, rfl⟩, ⟨d, t2, hd1, rfl⟩, hTup⟩ := hY
    have new : ObjOk X.prog X.w (upd H T (.tup [.str ⟨#[c]⟩, .str ⟨#[d]⟩])) h' T (.tup [.str ⟨#[c]⟩, .str ⟨#[d]⟩]) :=
      ⟨by show 2 ≤ sizeLine; decide, [.str ⟨#[c]⟩ t1, .str ⟨#[d]⟩ t2], .cons ⟨t1, rfl⟩ (.cons ⟨t2, rfl⟩ .nil), hTup⟩
    have J := I.turnedNew (t' := tk) (ch := [z, TI, TO, i1, i2]) (fun b o hb q => hk b o (fun m => hb (by
      rcases (show b = z ∨ b = TO ∨ b = i1 ∨ b = i2 by simpa using m) with y | y | y | y <;> simp [y])) q) hf hT new
    refine ⟨.ref T, _, J, rfl, ⟨T, c, d, rfl, I.hok.fresh hT, rfl, hc1, hd1⟩, hst, fun b hb => ?_⟩
    rw [upd_ne (Nat.ne_of_lt (Nat.lt_of_lt_of_le (alive b hb) hT))]
    exact (hf b hb).1
  done := by
    intro X hP hw hK hc i pins s σ H E I hf st hg
    subst hP hw hK
    have hh : X.A.in1.handled = none := I.ok.hd hc
    have G := GoesN.zip2 (elts := elts) (x1 := kk) (pos := tpos) S (Draws.text (prog := X.prog) (w := X.w) (A := X.A.in1) hh i1 x t) (Draws.text (prog := X.prog) (w := X.w) (A := X.A.in1) hh i2 y u)
    have hi : i = min x.cps.size y.cps.size := hg
    subst hi
    exact G.stops s (fun s1 => Inv X pins σ H s1) E st fun h' tk hk _ => I.turnedL (t' := tk) (ch := [z, TI, TO, i1, i2]) (fun b o hb q => hk b o (fun m => hb (by
      rcases (show b = z ∨ b = TO ∨ b = i1 ∨ b = i2 by simpa using m) with y | y | y | y <;> simp [y])) q) hf
  self := fun A i s Q E st h => wpAny_pyIter_zip st.1 h
def iZipS (ta : TA) : TI := fun σ H R => ta σ H fun vs H1 => ∃ x y, vs = [.str x, .str y] ∧ R (Itzs x y) H1
theorem pi_zipS {X : Cx} {e e2 : Expr} {ta : TA} {p pos tpos : Pos} {elts : List Expr} {kk : Nat} (hg : Gl X "zip") (hm : X.mg "zip" = none) (ha : PA X [e, e2] ta)
    (hs : starEach [e, e2] X.env = (false, eval e X.env) :: starEach [e2] X.env := by rfl) (hpl : (backTo pos (starEach [e2] X.env)).any (·.1) = false := by rfl) :
    PI X (.Tuple elts kk tpos) (.Call (.Name "zip" p) [e, e2] [] pos) (iZipS ta) := ⟨fun pins s σ H R I h => by
  refine Call_ (ld_blt I hg hm PyProof.Rows.boot_zip (PyProof.Rows.callWith_type1 (thn (ha.run pos pins s σ H _ I h) fun us s1 w => ?_) hs hpl))
  obtain ⟨vs, H1, J, r, x, y, rfl, q⟩ := w
  cases r with
  | cons r rr =>
    cases rr with
    | cons r' rr =>
      cases rr
      obtain ⟨t, rfl⟩ := r
      obtain ⟨u, rfl⟩ := r'
      refine zip_begins2 (begins_text x t) (begins_text y u) trivial trivial fun h' hz hTI hTO h1 h2 hsz hk => wpAny_pyIter_zip hz ?_
      refine ⟨s1.heap.objs.size + 4, [s1.heap.objs.size + 4, s1.heap.objs.size + 2, s1.heap.objs.size + 3, s1.heap.objs.size, s1.heap.objs.size + 1], _, _, H1, rfl, J.kept (t' := s1.toks) hk,
        turn_zipS (x := x) (y := y) (t := t) (u := u) (zip_sep2 (fp1 := []) (fp2 := []) (by simp) (by simp)), ⟨hz, hTI, ⟨_, _, hTO⟩, ⟨_, h1, rfl, rfl⟩, ⟨_, h2, rfl, rfl⟩⟩, fun b hb => ?_, q⟩
      have le : s1.heap.objs.size ≤ b := by
        rcases (show b = s1.heap.objs.size + 4 ∨ b = s1.heap.objs.size + 2 ∨ b = s1.heap.objs.size + 3 ∨ b = s1.heap.objs.size ∨ b = s1.heap.objs.size + 1 by simpa using hb) with w | w | w | w | w
        · rw [w]; exact Nat.le_add_right _ _
        · rw [w]; exact Nat.le_add_right _ _
        · rw [w]; exact Nat.le_add_right _ _
        · rw [w]; exact Nat.le_refl _
        · rw [w]; exact Nat.le_add_right _ _
      exact J.fpOk le (J.hok.fresh le)⟩
end DL

set_option maxHeartbeats 1000000
namespace DL
open PySem PySem.Spec PyProof.Rows L2
section
variable {X : Cx} {C : Cq} {W : WX} {st : Stmt} {e a b c o tg l : Expr} {es : List Expr} {pos apos cpos : Pos} {F Fa Fb Fc : EF} {G : AF}
def signsOf (x : Str) : List D := x.cps.toList.map fun c => .str ⟨#[c]⟩
def aSigns (F : EF) : AF := fun ρ b => (F ρ b).bind fun d b' => match d with
  | .str x => .ok (signsOf x) b'
  | _ => .stuck
theorem itS {K : PySem.W.Frag} {ba : Option Addr} {S : Hp} (x : Str) : ItD K ba (Its x) (signsOf x) S := fun C hC i S' ρ b σ H e ok => by
  have hl : (signsOf x).length = x.cps.size := by simp [signsOf]
  refine ⟨fun d hd => ?_, fun h => ?_⟩
  · have hi : i < x.cps.size := by rw [← hl]; exact (List.getElem?_eq_some_iff.mp hd).1
    refine ⟨hi, fun v H' y => ?_⟩
    obtain ⟨e1, k, hk, rfl⟩ := y
    subst e1
    have hd' : (signsOf x)[i]? = some (.str ⟨#[k]⟩) := by
      unfold signsOf
      rw [List.getElem?_map, Array.getElem?_toList, hk]
      rfl
    rw [hd] at hd'
    cases hd'
    exact ⟨S', Same.refl _, ok, .str _, fun _ _ z => z⟩
  · show x.cps.size ≤ i
    omega
theorem d_istr (h : PE X l (tD X.K C W F)) : PI X tg l (tDI X.K C W (aSigns F)) := pi_imp (pi_str h) fun σ H R ⟨S, ρ, b, ok, q⟩ => by
  refine ⟨S, ρ, b, ok, q.bind.imp fun d b1 S1 H1 s1 ok1 q1 v r => ?_⟩
  cases d with
  | str x => cases r; exact ⟨x, rfl, q1 S1 H1 (Same.refl _) ok1 _ (itS x)⟩
  | _ => exact q1.elim
def enumOf (ds : List D) : List D := (List.range ds.length).zipWith (fun (k : Nat) d => D.tup [.int k, d]) ds
def aEnumT (G : AF) : AF := fun ρ b => (G ρ b).bind fun ds b' => match ds with
  | [.tup ds] => .ok (enumOf ds) b'
  | _ => .stuck
theorem pair_of {K : PySem.W.Frag} {S : Hp} {ρ : Env} {b : Bag} {σ : L2.St} {H : Hp} {T : Addr} {v w : V} {d e : D} (ok : OkS K C S ρ b σ H) (hT : H T = none) (r1 : DR K C.ba S v d) (r2 : DR K C.ba S w e) :
    Same S (upd S T (.tup [v, w])) ∧ OkS K C (upd S T (.tup [v, w])) ρ b σ (upd H T (.tup [v, w])) ∧ DR K C.ba (upd S T (.tup [v, w])) (.ref T) (.tup [d, e]) :=
  ⟨ok.same hT, ok.alloc hT, .tup upd_same (.cons (r1.up (ok.same hT)) (.cons (r2.up (ok.same hT)) .nil))⟩
theorem keep_upd {H : Hp} {T : Addr} {u : HO} (hT : H T = none) : ∀ p o, H p = some o → upd H T u p = some o := fun p o e => by
  rw [upd_ne (ne_of_none e hT)]; exact e
theorem itE {K : PySem.W.Frag} {ba : Option Addr} {S : Hp} {a : Addr} {xs : List V} {ds : List D} (h : S a = some (.tup xs)) (r : DRs K ba S xs ds) : ItD K ba (Itet K a) (enumOf ds) S := fun C hC i S' ρ b σ H e ok => by
  subst hC
  have hS : SqT K H a xs := seqT (e.trans ok.core.sub) h
  have hl : (enumOf ds).length = ds.length := by simp [enumOf]
  refine ⟨fun d hd => ?_, fun hl' => ⟨xs, hS, by rw [r.length, ← hl]; exact hl'⟩⟩
  have hi : i < ds.length := by rw [← hl]; exact (List.getElem?_eq_some_iff.mp hd).1
  have hdi : ds[i]? = some ds[i] := List.getElem?_eq_getElem hi
  obtain ⟨v, hv, rv⟩ := r.get hdi
  refine ⟨⟨xs, v, hS, hv⟩, fun x H' y => ?_⟩
  obtain ⟨T, x0, rfl, hT, rfl, y⟩ := y
  have hx := y xs hS
  rw [hv] at hx
  cases hx
  have hd' : (enumOf ds)[i]? = some (.tup [.int (i : Nat), ds[i]]) := by
    unfold enumOf
    rw [List.getElem?_zipWith, hdi, List.getElem?_range hi]
  rw [hd] at hd'
  cases hd'
  obtain ⟨p1, p2, p3⟩ := pair_of ok hT (.int (i : Nat)) (rv.up e)
  exact ⟨_, p1, p2, p3, keep_upd hT⟩
theorem d_ienumT {elts : List Expr} {kk : Nat} {p tpos : Pos} (hg : Gl X "enumerate") (hm : X.mg "enumerate" = none) (ha : PA X [a] (tDA X.K C W G)) (hs : starEach [a] X.env = [(false, eval a X.env)] := by rfl) :
    PI X (.Tuple elts kk tpos) (.Call (.Name "enumerate" p) [a] [] pos) (tDI X.K C W (aEnumT G)) := pi_imp (pi_enumT hg hm ha hs) fun σ H R ⟨S, ρ, b, ok, q⟩ => by
  refine ⟨S, ρ, b, ok, q.bind.imp fun ds b1 S1 H1 s1 ok1 q1 vs r => ?_⟩
  split at q1
  · cases r with
    | cons r1 r2 =>
      cases r2
      cases r1 with
      | tup h1 h2 => exact ⟨_, _, rfl, seqT ok1.core.sub h1, q1 S1 H1 (Same.refl _) ok1 _ (itE h1 h2)⟩
  · exact q1.elim
def zipOf (xs ys : List D) : List D := xs.zipWith (fun d e => D.tup [d, e]) ys
def aZipS (G : AF) : AF := fun ρ b => (G ρ b).bind fun ds b' => match ds with
  | [.str x, .str y] => .ok (zipOf (signsOf x) (signsOf y)) b'
  | _ => .stuck
theorem itZ {K : PySem.W.Frag} {ba : Option Addr} {S : Hp} (x y : Str) : ItD K ba (Itzs x y) (zipOf (signsOf x) (signsOf y)) S := fun C hC i S' ρ b σ H e ok => by
  subst hC
  have hl : (zipOf (signsOf x) (signsOf y)).length = min x.cps.size y.cps.size := by simp [zipOf, signsOf]
  refine ⟨fun d hd => ?_, fun h => ?_⟩
  · have hi : i < min x.cps.size y.cps.size := by rw [← hl]; exact (List.getElem?_eq_some_iff.mp hd).1
    refine ⟨hi, fun v H' w => ?_⟩
    obtain ⟨T, k, m, rfl, hT, rfl, hk, hm⟩ := w
    have hd' : (zipOf (signsOf x) (signsOf y))[i]? = some (.tup [.str ⟨#[k]⟩, .str ⟨#[m]⟩]) := by
      unfold zipOf signsOf
      rw [List.getElem?_zipWith, List.getElem?_map, List.getElem?_map, Array.getElem?_toList, Array.getElem?_toList, hk, hm]
      rfl
    rw [hd] at hd'
    cases hd'
    obtain ⟨p1, p2, p3⟩ := pair_of ok hT (.str ⟨#[k]⟩) (.str ⟨#[m]⟩)
    exact ⟨_, p1, p2, p3, keep_upd hT⟩
  · show i = min x.cps.size y.cps.size
    omega
theorem d_izipS {elts : List Expr} {kk : Nat} {p tpos : Pos} (hg : Gl X "zip") (hm : X.mg "zip" = none) (ha : PA X [a, b] (tDA X.K C W G)) (hs : starEach [a, b] X.env = (false, eval a X.env) :: starEach [b] X.env := by rfl) (hpl : (backTo pos (starEach [b] X.env)).any (·.1) = false := by rfl) :
    PI X (.Tuple elts kk tpos) (.Call (.Name "zip" p) [a, b] [] pos) (tDI X.K C W (aZipS G)) := pi_imp (pi_zipS hg hm ha hs hpl) fun σ H R ⟨S, ρ, b, ok, q⟩ => by
  refine ⟨S, ρ, b, ok, q.bind.imp fun ds b1 S1 H1 s1 ok1 q1 vs r => ?_⟩
  split at q1
  · cases r with
    | cons r1 r2 =>
      cases r2 with
      | cons r2 r3 => cases r3; cases r1; cases r2; exact ⟨_, _, rfl, q1 S1 H1 (Same.refl _) ok1 _ (itZ _ _)⟩
  · exact q1.elim
theorem tChain_of {r r' : R2} {f f' : D → D → Option D} (hf : Op2 X.K C r f) (hf' : Op2 X.K C r' f') {σ : L2.St} {H : Hp} {Q : VK} (h : tD X.K C W (e3 f f' Fa Fb Fc) σ H Q) : tChain r r' (tD X.K C W Fa) (tD X.K C W Fb) (tD X.K C W Fc) σ H Q := by
  obtain ⟨S, ρ, b, ok, q⟩ := h
  refine ⟨S, ρ, b, ok, q.bind.imp fun x b1 S1 H1 s1 ok1 q1 v r1 => ⟨S1, ρ, b1, ok1, q1.bind.imp fun y b2 S2 H2 s2 ok2 q2 w r2 => ?_⟩⟩
  split at q2
  · rename_i hz
    refine hf S2 ρ b2 σ H2 v w x y _ _ ok2 (r1.up s2) r2 hz fun u S3 H3 e3 o3 r3 => ?_
    cases r3
    refine ⟨true, rfl, ?_⟩
    rw [if_pos rfl]
    refine ⟨S3, ρ, b2, o3, (OutG.up q2 e3).bind.imp fun z b3 S4 H4 s4 ok4 q4 w' r4 => ?_⟩
    obtain ⟨z', hz', q5⟩ := q4.pureO
    exact hf' S4 ρ b3 σ H4 w w' y z z' Q ok4 (r2.up (e3.trans s4)) r4 hz' fun u S5 H5 e5 o5 r5 => q5 S5 H5 e5 o5 u r5
  · rename_i hz
    refine hf S2 ρ b2 σ H2 v w x y _ _ ok2 (r1.up s2) r2 hz fun u S3 H3 e3 o3 r3 => ?_
    cases r3
    refine ⟨false, rfl, ?_⟩
    rw [if_neg (by decide)]
    exact q2 S3 H3 e3 o3 _ (.bl _)
  · exact q2.elim
theorem d_chain {op op' : CmpOp} {r r' : R2} {f f' : D → D → Option D} (ho : OpR X (compareOp op) r) (ho' : OpR X (compareOp op') r') (hf : Op2 X.K C r f) (hf' : Op2 X.K C r' f') (ha : PE X a (tD X.K C W Fa)) (hb : PE X b (tD X.K C W Fb)) (hc : PE X c (tD X.K C W Fc))
    (hm : lastMarks [op, op'] [b, c] = false := by with_unfolding_all rfl) : PE X (.Compare a [op, op'] [b, c] pos) (tD X.K C W (e3 f f' Fa Fb Fc)) := pe_imp (pe_chain ho ho' ha hb hc hm) fun _ _ _ h => tChain_of hf hf' h
theorem t_chain {op op' : CmpOp} {r r' : R2} {f f' : D → D → Option D} (ho : OpR X (compareOp op) r) (ho' : OpR X (compareOp op') r') (hf : Op2 X.K C r f) (hf' : Op2 X.K C r' f') (ha : PE X a (tD X.K C W Fa)) (hb : PE X b (tD X.K C W Fb)) (hc : PE X c (tD X.K C W Fc))
    (hm : lastMarks [op, op'] [b, c] = false := by with_unfolding_all rfl) : PT X (.Compare a [op, op'] [b, c] pos) (tDt X.K C W (bB (e3 f f' Fa Fb Fc))) := pt_imp (pt_chain ho ho' ha hb hc hm) fun _ _ _ h => by
  have h' := tTest_of h
  exact tChain_of hf hf' h'
theorem t_lele (ha : PE X a (tD X.K C W Fa)) (hb : PE X b (tD X.K C W Fb)) (hc : PE X c (tD X.K C W Fc)) (hm : lastMarks [.LtE, .LtE] [b, c] = false := by with_unfolding_all rfl) : PT X (.Compare a [.LtE, .LtE] [b, c] pos) (tDt X.K C W (bB (e3 leF leF Fa Fb Fc))) := t_chain o_le o_le d_le2 d_le2 ha hb hc hm
theorem d_lele (ha : PE X a (tD X.K C W Fa)) (hb : PE X b (tD X.K C W Fb)) (hc : PE X c (tD X.K C W Fc)) (hm : lastMarks [.LtE, .LtE] [b, c] = false := by with_unfolding_all rfl) : PE X (.Compare a [.LtE, .LtE] [b, c] pos) (tD X.K C W (e3 leF leF Fa Fb Fc)) := d_chain o_le o_le d_le2 d_le2 ha hb hc hm
end
end DL

set_option maxHeartbeats 1000000
namespace DL
open PySem PySem.Spec PyProof.Rows L2
section
variable {X : Cx} {C : Cq} {W : WX} {st : Stmt} {e a b c o tg l : Expr} {es : List Expr} {pos apos cpos : Pos} {F Fa Fb Fc : EF} {G : AF}
theorem d_tyn {x : Str} {n : String} (hg : Gl X x) (hm : X.mg x = none) (hv : bootBuiltins x = some (.type n)) (hn : x ≠ "__name__" := by decide) (hd : (x == ("__debug__" : Str)) = false := by decide) : PE X (.Name x pos) (tD X.K C W (eC (.obj (.ty n)))) :=
  d_const (pe_bltn (v := .ty n) hg hm hv rfl hn hd) fun _ => .obj _
theorem d_clsn {x : Str} {A : Addr} (hg : Gl X x) (hm : X.mg x = some (.ref A)) (hd : (x == ("__debug__" : Str)) = false := by decide) : PE X (.Name x pos) (tD X.K C W (eC (.obj (.ref A)))) :=
  d_const (pe_glob (v := .ref A) hg hm rfl hd) fun _ => .obj _
theorem d_intn {x : Str} {i : Int} {t : Tok} (hg : Gl X x) (hm : X.mg x = some (.int i t)) (hd : (x == ("__debug__" : Str)) = false := by decide) : PE X (.Name x pos) (tD X.K C W (eC (.int i))) :=
  d_const (v := .int i) (pe_glob hg hm ⟨_, rfl⟩ hd) fun _ => .int _
theorem d_strn {x y : Str} {t : Tok} (hg : Gl X x) (hm : X.mg x = some (.str y t)) (hd : (x == ("__debug__" : Str)) = false := by decide) : PE X (.Name x pos) (tD X.K C W (eC (.str y))) :=
  d_const (v := .str y) (pe_glob hg hm ⟨_, rfl⟩ hd) fun _ => .str _
structure ClsI (K : PySem.W.Frag) (C : Addr) : Prop where
  cl : Cls K C
  ha : PySem.W.findIn K (.ref C) "__class__" = some (some (.builtin "object.__class__"))
  hn : PySem.W.specialIn K (.builtin "object.__class__") "__get__" = some (some (.builtin "getset_descriptor.__get__"))
  htk : PySem.W.takesIn K (.builtin "object.__class__") = some true
  hm : PySem.W.mroIn K C (.type "object") = some true
@[simp] def tyD : D → Option (String ⊕ Addr)
  | .non => some (.inl "NoneType")
  | .bl _ => some (.inl "bool")
  | .int _ => some (.inl "int")
  | .str _ => some (.inl "str")
  | .tup _ => some (.inl "tuple")
  | .lst _ => some (.inl "list")
  | .fl _ => some (.inl "list")
  | .ins C _ _ => some (.inr C)
  | .obj _ => none
  | .bag => none
  | .dct _ _ => none
  | .dtp _ _ => none
def isiF (c : V) (kb : String → Option Bool) (own : Addr → Option Bool) : List D → Option D
  | [d, .obj c'] => if c' = c then (match tyD d with
    | some (.inl n) => (kb n).map .bl
    | some (.inr A) => (own A).map .bl
    | none => none) else none
  | _ => none
theorem tyx_seqT {K : PySem.W.Frag} {H : Hp} {a : Addr} {xs : List V} (h : SqT K H a xs) : TyX K H (.ref a) (.type "tuple") := by
  rcases h with (h | ⟨o, h⟩) | ⟨o, _, _, h1, h2, _⟩
  · exact .base (.tup h)
  · exact .fTuple h
  · exact .kTuple h1 h2
theorem tyx_seqL {K : PySem.W.Frag} {H : Hp} {a : Addr} {xs : List V} (h : SqL K H a xs) : TyX K H (.ref a) (.type "list") := by
  rcases h with (h | ⟨o, h⟩) | ⟨o, _, _, h1, h2, _⟩
  · exact .base (.lst h)
  · exact .base (.frz h)
  · exact .kList h1 h2
theorem c_isi {K : PySem.W.Frag} {c : V} {u : Value} {kb : String → Option Bool} {own : Addr → Option Bool} (hc : ClsV c u) (hb : ∀ n b, kb n = some b → PySem.W.kitOne K (.type n) u = some b) (ho : ∀ A b, own A = some b → ClsI K A ∧ PySem.W.kitOne K (.ref A) u = some b) : CallD K C (rIsi K) (isiF c kb own) := by
  intro S ρ b σ H vs ds z Q ok rs hz q
  unfold isiF at hz
  split at hz
  · rename_i d c'
    split at hz
    · rename_i hcc
      subst hcc
      cases rs with
      | cons r1 r2 =>
        cases r2 with
        | cons r2 r3 =>
          cases r3; cases r2
          have base : ∀ (n : String), tyD d = some (.inl n) → (∀ v, DR K C.ba S v d → TyX K H v (.type n)) → ∃ (x c : V) (t u : Value) (b : Bool), [_, c'] = [x, c] ∧ ClsV c u ∧ TyX K H x t ∧ PySem.W.kitOne K t u = some b ∧ Q (.bl b) H := fun n hn hty => by
            rw [hn] at hz
            simp only [Option.map_eq_some_iff] at hz
            obtain ⟨k, hk, rfl⟩ := hz
            exact ⟨_, _, _, _, k, rfl, hc, hty _ r1, hb _ _ hk, q _ S H (Same.refl _) ok (.bl _)⟩
          cases d with
          | non => exact base _ rfl fun v r => by cases r; exact .base .non
          | bl k => exact base _ rfl fun v r => by cases r; exact .base (.bl _)
          | int k => exact base _ rfl fun v r => by cases r; exact .base (.int _)
          | str k => exact base _ rfl fun v r => by cases r; exact .base (.str _)
          | tup ds => exact base _ rfl fun v r => (by
              cases r with
              | tup h1 h2 => exact tyx_seqT (seqT ok.core.sub h1))
          | lst ds => exact base _ rfl fun v r => (by
              cases r with
              | lst h1 h2 => exact tyx_seqL (SqL.of (ok.core.sub _ _ h1)))
          | fl ds => exact base _ rfl fun v r => (by
              cases r with
              | fl h1 h2 => exact tyx_seqL (ok.core.sub.seq h1))
          | ins A ns ds =>
            simp only [tyD, Option.map_eq_some_iff] at hz
            obtain ⟨k, hk, rfl⟩ := hz
            obtain ⟨i, hi⟩ := ho _ _ hk
            cases r1 with
            | ins h1 h2 h3 => exact ⟨_, _, _, _, k, rfl, hc, .base (.ins (ok.core.sub _ _ h1) i.cl i.ha i.hn i.htk i.hm), hi, q _ S H (Same.refl _) ok (.bl _)⟩
          | obj v => simp [tyD] at hz
          | bag => simp [tyD] at hz
          | dct _ _ => simp [tyD] at hz
          | dtp _ _ => simp [tyD] at hz
    · cases hz
  · cases hz
theorem d_isi {p : Pos} {cv : V} {u : Value} {kb : String → Option Bool} {own : Addr → Option Bool} (hc : ClsV cv u) (hb : ∀ n b, kb n = some b → PySem.W.kitOne X.K (.type n) u = some b) (ho : ∀ A b, own A = some b → ClsI X.K A ∧ PySem.W.kitOne X.K (.ref A) u = some b)
    (hg : Gl X "isinstance") (hm : X.mg "isinstance" = none) (ha : PA X [a, b] (tDA X.K C W G)) (he : starEach [a, b] X.env = (false, eval a X.env) :: starEach [b] X.env := by rfl) (hpl : (backTo pos (starEach [b] X.env)).any (·.1) = false := by rfl) :
    PE X (.Call (.Name "isinstance" p) [a, b] [] pos) (tD X.K C W (eB (isiF cv kb own) G)) := d_callB call_isi (c_isi hc hb ho) hg hm PyProof.Rows.boot_isinstance ha (by decide) (by decide) he hpl
def inF : D → D → Option D
  | .str x, .str z => match x.cps.toList with
    | [c] => some (.bl (decide (c ∈ z.cps.toList)))
    | _ => none
  | _, _ => none
theorem one_cp {x : Str} {c : Nat} (h : x.cps.toList = [c]) : x = ⟨#[c]⟩ := by
  cases x with
  | mk cps =>
    have h : cps.toList = [c] := h
    have : cps = #[c] := by
      apply Array.ext'
      exact h
    rw [this]
theorem in2 {K : PySem.W.Frag} : Op2 K C (fun x y H Q => ∃ (c : Nat) (z : Str), x = .str ⟨#[c]⟩ ∧ y = .str z ∧ Q (.bl (decide (c ∈ z.cps.toList))) H) inF := by
  intro S ρ b σ H v w d e z Q ok r1 r2 hz q
  unfold inF at hz
  split at hz
  · split at hz
    · rename_i hc
      cases hz; cases r1; cases r2
      exact ⟨_, _, by rw [one_cp hc], rfl, q _ S H (Same.refl _) ok (.bl _)⟩
    · cases hz
  · cases hz
theorem d_in (ha : PE X a (tD X.K C W Fa)) (hb : PE X b (tD X.K C W Fb)) (hm : behindInMarks .In b = false := by with_unfolding_all rfl) : PE X (.Compare a [.In] [b] pos) (tD X.K C W (e2 inF Fa Fb)) := d_cmp op_in_sign in2 ha hb hm
def eM (f : Str → List D → Option D) (Fo : EF) (G : AF) : EF := fun ρ b => (Fo ρ b).bind fun d b1 => match d with
  | .str x => (G ρ b1).bind fun ds b2 => Out.pureO (f x ds) b2
  | _ => .stuck
def MtD (K : PySem.W.Frag) (C : Cq) (r : V → List V → Hp → VK → Prop) (f : Str → List D → Option D) : Prop := ∀ (S : Hp) (ρ : Env) (b : Bag) (σ : L2.St) (H : Hp) (x : Str) (vs : List V) (ds : List D) (z : D) (Q : VK), OkS K C S ρ b σ H → DRs K C.ba S vs ds → f x ds = some z →
  (∀ u S' H', Same S S' → OkS K C S' ρ b σ H' → DR K C.ba S' u z → Q u H') → r (.str x) vs H Q
theorem d_bm {name : Str} {id : String} {r : V → List V → Hp → VK → Prop} {f : Str → List D → Option D} (slot : Slot "str" name id) (hty : typeOf (.builtin id) = pure (.type "method_descriptor")) (hm : MtR X id r) (hf : MtD X.K C r f) (ho : PE X o (tD X.K C W F)) (ha : PA X (e :: es) (tDA X.K C W G))
    (hbase : attributeBase o name X.env (eval o X.env) = eval o X.env := by rfl)
    (hfew : ((backTo cpos (starEach (e :: es) X.env)).all (fun x => !x.1) && (backToKw cpos (keywordEach [] X.env)).all (fun x => x.1.isSome)
      && decide ((e :: es).length + ([] : List Keyword).length + (if ([] : List Keyword).isEmpty then 0 else 1) < 30)) = true := by rfl)
    (hline : (apos.endLine == cpos.line) = true := by rfl) (hs : starEach (e :: es) X.env = (false, eval e X.env) :: starEach es X.env := by rfl) (hplain : (backTo cpos (starEach es X.env)).any (·.1) = false := by rfl) :
    PE X (.Call (.Attribute o name apos) (e :: es) [] cpos) (tD X.K C W (eM f F G)) :=
  pe_imp (pe_bm PySem.F.plainAttrs_str slot hty hm ho ha hbase hfew hline hs hplain) fun σ H Q ⟨S, ρ, b, ok, q⟩ => by
  refine ⟨S, ρ, b, ok, q.bind.imp fun d b1 S1 H1 s1 ok1 q1 v r => ?_⟩
  cases d with
  | str x =>
    cases r
    refine ⟨rfl, S1, ρ, b1, ok1, q1.bind.imp fun ds b2 S2 H2 s2 ok2 q2 vs rs => ?_⟩
    obtain ⟨z, hz, q3⟩ := q2.pureO
    exact hf S2 ρ b2 σ H2 x vs ds z Q ok2 rs hz fun u S' H' e o r => q3 S' H' e o u r
  | _ => exact q1.elim
def sidxF (x : Str) : List D → Option D
  | [.str y] => match Builtin.Str.occurrences x y 0 x.length 1 with
    | i :: _ => some (.int (i : Nat))
    | [] => none
  | _ => none
theorem m_sidx {K : PySem.W.Frag} : MtD K C (fun x xs H Q => ∃ a b i rest, x = .str a ∧ xs = [.str b] ∧ Builtin.Str.occurrences a b 0 a.length 1 = i :: rest ∧ Q (.int (i : Nat)) H) sidxF := by
  intro S ρ b σ H x vs ds z Q ok rs hz q
  unfold sidxF at hz
  split at hz
  · split at hz
    · rename_i hi
      cases hz
      cases rs with
      | cons r1 r2 => cases r2; cases r1; exact ⟨x, _, _, _, rfl, rfl, hi, q _ S H (Same.refl _) ok (.int _)⟩
    · cases hz
  · cases hz
def seqD : D → Option (List D)
  | .lst ds => some ds
  | .tup ds => some ds
  | .fl ds => some ds
  | _ => none
def lkD : List Str → List D → Str → Option D
  | n :: ns, d :: ds, f => if (f == n) = true then some d else lkD ns ds f
  | _, _, _ => none
theorem lk_dr {K : PySem.W.Frag} {ba : Option Addr} {S : Hp} {f : Str} : ∀ {fs : List (Str × V)} {ns : List Str} {ds : List D} {d : D}, fs.map (·.1) = ns → DRs K ba S (fs.map (·.2)) ds → lkD ns ds f = some d → ∃ v, fs.lookup f = some v ∧ DR K ba S v d
  | [], _, _, _, h, r, e => by subst h; cases r; simp [lkD] at e
  | (n, v) :: fs, _, ds, d, h, r, e => by
    subst h
    cases r with
    | cons r1 r2 =>
      simp only [List.map_cons, lkD] at e
      unfold List.lookup
      split at e
      · rename_i hh
        cases e
        exact ⟨v, by rw [hh], r1⟩
      · rename_i hh
        have hh : (f == n) = false := by simpa using hh
        rw [hh]
        exact lk_dr rfl r2 e
def fldF (A : Addr) (f : Str) : D → Option D
  | .ins A' ns ds => if A' = A then lkD ns ds f else none
  | _ => none
theorem ins_of {K : PySem.W.Frag} {ba : Option Addr} {S : Hp} {A : Addr} {f : Str} {d z : D} {v : V} (r : DR K ba S v d) (h : fldF A f d = some z) : ∃ a dx fs u, v = .ref a ∧ S a = some (.ins A dx fs) ∧ fs.lookup f = some u ∧ DR K ba S u z := by
  cases d with
  | ins A' ns ds =>
    simp only [fldF] at h
    split at h
    · rename_i hA
      subst hA
      cases r with
      | ins h1 h2 h3 =>
        obtain ⟨u, h4, h5⟩ := lk_dr h2 h3 h
        exact ⟨_, _, _, u, rfl, h1, h4, h5⟩
    · cases h
  | _ => cases h
theorem d_fld {A : Addr} {f : Str} (he : PE X e (tD X.K C W F)) (c : Cls X.K A) (n : NoAttr X.K A f) (hb : attributeBase e f X.env (eval e X.env) = eval e X.env := by rfl) : PE X (.Attribute e f pos) (tD X.K C W (e1 (fldF A f) F)) := pe_imp (pe_fld he hb) fun σ H Q ⟨S, ρ, b, ok, q⟩ => by
  refine ⟨S, ρ, b, ok, q.bind.imp fun d b1 S1 H1 s1 ok1 q1 v r => ?_⟩
  obtain ⟨z, hz, q2⟩ := q1.pureO
  obtain ⟨a, dx, fs, u, rfl, h1, h2, h3⟩ := ins_of r hz
  exact ⟨a, A, dx, fs, u, rfl, ok1.core.sub _ _ h1, c, n, h2, q2 S1 H1 (Same.refl _) ok1 u h3⟩
theorem d_prop {A p g : Addr} {f pr : Str} {fd : FuncData} {k : Nat} (he : PE X e (tD X.K C W F)) (c : Cls X.K A) (hp : PropOf X.K A pr p g) (FO : FnOk X.prog X.w X.K X.mg X.base CX0 k g fd ["self"] (getSp A f)) (hr : Room (k + 1) X.A) (hb : Binds X.K fd ["self"] [])
    (hab : attributeBase e pr X.env (eval e X.env) = eval e X.env := by rfl) : PE X (.Attribute e pr pos) (tD X.K C W (e1 (fldF A f) F)) := pe_imp (pe_prop he c hp FO hr hb .nil pass0 hab) fun σ H Q ⟨S, ρ, b, ok, q⟩ => by
  refine ⟨S, ρ, b, ok, q.bind.imp fun d b1 S1 H1 s1 ok1 q1 v r => ?_⟩
  obtain ⟨z, hz, q2⟩ := q1.pureO
  obtain ⟨a, dx, fs, u, rfl, h1, h2, h3⟩ := ins_of r hz
  exact ⟨a, dx, fs, rfl, ok1.core.sub _ _ h1, a, dx, fs, u, rfl, ok1.core.sub _ _ h1, h2, q2 S1 H1 (Same.refl _) ok1 u h3⟩
end
end DL

set_option maxHeartbeats 1000000
namespace DL
open PySem PySem.Spec PyProof.Rows L2
theorem FnG.fnok {P : Program} {w : World} {K : PySem.W.Frag} {mg : Str → Option Value} {base : Heap} {k : Nat} {f : Addr} {fd : FuncData} {ps : List Str} {sp : Sp} (F : FnG P w K mg base (fun _ => True) k f fd ps sp) : FnOk P w K mg base (L2.CX P w) k f fd ps sp :=
  ⟨F.many, fun A fr s H ar us vs Q E hr he hb hv hs => F.go A fr s H ar us vs Q E hr trivial he hb hv hs⟩
section
variable {K : PySem.W.Frag} {C : Cq} {S S' H H' : Hp} {ρ : Env} {b : Bag} {σ : L2.St} {p : Addr} {u u' : HO}
theorem OkF.setU (o : OkF K C S ρ b σ H p u) : OkF K C S ρ b σ (upd H p u') p u' := by
  obtain ⟨c, h1, h2, h3, h4, O, s, w, n⟩ := o
  refine ⟨c.write h2 h3 h4, upd_same, h2, h3, h4, O, s.mono (Same.refl _) (fun q hq v h => ?_), w, n⟩
  rw [upd_ne (fun z => n (by rw [← z]; exact hq))]
  exact h
theorem OkF.setSh {v : V} {d : D} {i : Nat} (o : OkF K C S ρ b σ H p u) (r : DR K C.ba S v d) : OkF K C S (ρ.set i (some (.sh d))) b (σ.set i (some v)) H p u := by
  obtain ⟨c, h1, h2, h3, h4, O, s, w, n⟩ := o
  obtain ⟨O', s', l⟩ := s.setSh r (i := i)
  exact ⟨c, h1, h2, h3, h4, O', s', w.sub l, fun z => n (l.subset z)⟩
/-- what was run in an inner run, its names otherwise, is ours again -/
theorem OkF.again {ρ' : Env} {b' : Bag} {σ' : L2.St} (o : OkF K C S ρ b σ H p u) (d : OkS K (inner C S H) S' ρ' b' σ' H') (nt : ∀ xs, u ≠ .tup xs := by first | (intro _ z; cases z; done) | (intro _ z; subst z; cases ‹ODR _ _ _ (.tup _) _›)) : OkF K C S' ρ' b' σ' H' p u := by
  obtain ⟨c, h1, h2, h3, h4, O, s, w, n⟩ := o
  obtain ⟨dc, O', s', w'⟩ := d
  have sp' : S' p = none := by
    cases z : S' p with
    | none => rfl
    | some v =>
      rcases dc.new p v z with y | y | ⟨ys, y⟩
      · have y' : S p = some v := y
        rw [h2] at y'; cases y'
      · have y' : H p = none := y
        rw [h1] at y'; cases y'
      · have y' := dc.sub _ _ z
        rw [dc.fr p u h1 h4, y] at y'
        exact absurd (Option.some.inj y') (nt ys)
  have hin : ∀ q ∈ O', H q = none := fun q hq => (w'.al q hq).2.1
  refine ⟨c.outer dc, dc.fr p u h1 h4, sp', h3, h4, O', s', ⟨w'.nd, fun q hq => ⟨(w'.al q hq).1, ?_, (w'.al q hq).2.2⟩⟩, fun z => ?_⟩
  · exact c.h0 (hin q hq)
  · rw [hin p z] at h1; cases h1
end
abbrev IF := Env → Bag → List Str → List D → IO
def isMe (x : Addr) (ρ : Env) : Bool := match (ρ[0]? : Option (Option SD)) with
  | some (some (.sh (.obj (.ref y)))) => y == x
  | _ => false
/-- the rows of an __init__ -/
def tI (K : PySem.W.Frag) (C : Cq) (W : WX) (A x : Addr) (F : IF) : TS := fun E σ H => ∃ S ρ b dx fs ns ds, OkF K C S ρ b σ H x (.ins A dx fs) ∧ isMe x ρ = true ∧ fs.map (·.1) = ns ∧ DRs K C.ba S (fs.map (·.2)) ds ∧ IOk K C W A x S E (F ρ b ns ds)
def iNil : IF := fun _ b ns ds => .ok (ns, ds) b
def iSeq (x : Addr) (G : SF) (F : IF) : IF := fun ρ b ns ds => match G (unown ρ) b with
  | .nx ρ' b' => if isMe x ρ' = true then F ρ' b' ns ds else .stuck
  | .ex _ c es xs => .ex c es xs
  | _ => .stuck
def iSt (f : Str) (Fe : EF) (F : IF) : IF := fun ρ b ns ds => match Fe (unown ρ) b with
  | .ok d b' => if ns.contains f = true ∨ 900 < ns.length then .stuck else F ρ b' (ns ++ [f]) (ds ++ [d])
  | _ => .stuck
theorem me_slot {K : PySem.W.Frag} {C : Cq} {S H : Hp} {ρ : Env} {b : Bag} {σ : L2.St} {x : Addr} (ok : OkS K C S ρ b σ H) (h : isMe x ρ = true) : σ[0]? = some (some (.ref x)) := by
  unfold isMe at h
  split at h
  · rename_i y hr
    obtain ⟨v, hv, r⟩ := ok.get hr
    have hy : y = x := by simpa using h
    subst hy
    cases r
    exact hv
  · cases h
theorem putF_new {f : Str} {v : V} : ∀ {fs : List (Str × V)}, (fs.map (·.1)).contains f = false → putF f v fs = fs ++ [(f, v)]
  | [], _ => rfl
  | (n, w) :: fs, h => by
    simp only [List.map_cons, List.contains_cons, Bool.or_eq_false_iff] at h
    unfold putF
    rw [putF_new h.2]
    have hne : n ≠ f := fun z => by
      subst z
      have := h.1
      simp at this
    simp [hne]
section
variable {X : Cx} {C : Cq} {W : WX} {st : Stmt} {sts : List Stmt} {e : Expr} {pos : Pos} {A x : Addr} {G : SF} {F : IF} {Fe : EF}
theorem i_nil : PSs X [] (tI X.K C W A x iNil) := pss_imp pss_nil fun E σ H ⟨S, ρ, b, dx, fs, ns, ds, o, hme, hn, hd, q⟩ => q S σ H dx fs (Same.refl _) o.core o.at_ o.sn hn hd
theorem i_cons (h1 : ∀ C, PS X st (tDS X.K C W G)) (h2 : PSs X sts (tI X.K C W A x F)) : PSs X (st :: sts) (tI X.K C W A x (iSeq x G F)) :=
  pss_imp (pss_cons (t := fun E σ H => ∃ C, tDS X.K C W G E σ H) ⟨fun pins s σ H D I ⟨C, h⟩ => (h1 C).run pins s σ H D I h⟩ h2) fun E σ H ⟨S, ρ, b, dx, fs, ns, ds, o, hme, hn, hd, q⟩ => by
  have s0 : OkS X.K (inner C S H) S (unown ρ) b σ H := o.ok.inner
  refine ⟨inner C S H, S, unown ρ, b, s0, ?_⟩
  unfold iSeq at q
  split at q
  · rename_i ρ' b' hG
    rw [hG]
    intro S' σ' H' e ok
    split at q
    · rename_i hme'
      exact ⟨S', ρ', b', dx, fs, ns, ds, o.again ok, hme', hn, hd.up e, q.up e⟩
    · exact q.elim
  · rename_i ρ' c es xs hG
    rw [hG]
    exact fun dx S' σ' H' b' e ok xr => q dx S' σ' H' b' e (o.core.outer ok.core) xr
  · exact q.elim
theorem i_store {f : Str} {pos' p0 : Pos} {sx : Str} (h0 : PE X (.Name sx p0) (tVar 0)) (he : ∀ C, PE X e (tD X.K C W0 Fe)) (c : Cls X.K A) (n : NoAttr X.K A f) (h2 : PSs X sts (tI X.K C W A x F)) (hs : swapsWith e (some (.Attribute (.Name sx p0) f pos')) pos.line X.env = pure false := by rfl) :
    PSs X (.Assign [.Attribute (.Name sx p0) f pos'] e pos :: sts) (tI X.K C W A x (iSt f Fe F)) :=
  pss_imp (pss_cons (ps_fld (tv := fun σ H Q => ∃ C, tD X.K C W0 Fe σ H Q) h0 ⟨fun pins s σ H Q I ⟨C, h⟩ => (he C).run pins s σ H Q I h⟩ hs) h2) fun E σ H ⟨S, ρ, b, dx, fs, ns, ds, o, hme, hn, hd, q⟩ => by
  refine ⟨inner C S H, S, unown ρ, b, o.ok.inner, ?_⟩
  unfold iSt at q
  split at q
  · rename_i d b' hF
    rw [hF]
    intro S' H' e' ok v r
    have o' : OkF X.K C S' ρ b' σ H' x (.ins A dx fs) := o.frame ok.core e'
    split at q
    · exact q.elim
    · rename_i hc
      have hc1 : ns.contains f = false := by
        cases hh : ns.contains f with
        | false => rfl
        | true => exact absurd (Or.inl hh) hc
      have hc2 : ns.length ≤ 900 := by
        by_cases hh : 900 < ns.length
        · exact absurd (Or.inr hh) hc
        · omega
      refine ⟨_, me_slot o'.ok hme, x, A, dx, fs, rfl, o'.at_, c, n, ?_, ?_⟩
      · have := congrArg List.length hn
        rw [List.length_map] at this
        omega
      · refine ⟨S', ρ, b', dx, fs ++ [(f, v)], ns ++ [f], ds ++ [d], ?_, hme, ?_, ?_, q.up e'⟩
        · rw [putF_new (by rw [hn]; exact hc1)]
          exact o'.setU
        · rw [List.map_append, hn]
          rfl
        · rw [List.map_append]
          exact (hd.up e').app (.cons r .nil)
  · exact q.elim
end
def OutI (K : PySem.W.Frag) (C : Cq) (A x : Addr) (S : Hp) (Q : VK) (E : XK) : IO → Prop
  | .ok z b => ∀ S' H dx fs, Same S S' → Core C S' b H → H x = some (.ins A dx fs) → S' x = none → fs.map (·.1) = z.1 → DRs K C.ba S' (fs.map (·.2)) z.2 → Q .non H
  | .ex c ns ds => ∀ (dx : Option Addr) S' H b, Same S S' → Core C S' b H → XR K C.ba S' dx ns ds → E (.ref c) dx H
  | .stuck => False
def spI (K : PySem.W.Frag) (A : Addr) (Fn : Addr → List D → Bag → IO) : Sp := fun vs H Q E => ∃ (H1 S : Hp) (ba : Option Addr) (b : Bag) (ds : List D) (x dx : Addr) (ws : List V), vs = .ref x :: ws ∧ H = upd (upd H1 dx (.own x)) x (.ins A dx []) ∧ H1 x = none ∧ H1 dx = none ∧ dx ≠ x ∧
  Core ⟨H1, S, ba⟩ S b H1 ∧ DRs K ba S ws ds ∧ OutI K ⟨H1, S, ba⟩ A x S Q E (Fn x ds b)
def initF (n m : Nat) (F : Addr → IF) : Addr → List D → Bag → IO := fun x ds b => if ds.length + 1 = m then F x (some (.sh (.obj (.ref x))) :: (ds.map (fun d => some (.sh d)) ++ List.replicate (n - (ds.length + 1)) none)) b [] [] else .stuck
section
variable {P : Program} {w : World} {K : PySem.W.Frag} {mg : Str → Option Value} {base : Heap} {Gd : Around → Prop}
theorem d_init {x qual : Str} {st : Stmt} {f A : Addr} {fd : FuncData} {N ps : List Str} {k : Nat} {F : Addr → IF} (Fu : Fun K x qual st f fd) (Sc : FnScope N ps (defScope st))
    (body : ∀ (y : Addr) (cdv : Value) (Ar : Around) (outer : List PySem.Env) (s : Shared) (H : Hp) (E : XK) (C : Cq), Room k (Ar.deeper (envOfC qual (defScope st) s.heap.objs.size f cdv)) → Gd Ar →
      PSs (cxOf (L2.CX P w) P w K mg base N qual (defScope st) f cdv Ar outer s H E) (defBody st) (tI K C (WD E) A y (F y))) : FnG P w K mg base Gd (k + 1) f fd ps (spI K A (initF N.length ps.length F)) := by
  refine FnG.body Fu Sc (fun vs H Q E h => ?_) (fun cdv Ar outer s H vs Q E hr hg h => ?_)
  · obtain ⟨H1, S, ba, b, ds, y, dx, ws, rfl, rfl, _, _, _, _, r, o⟩ := h
    by_cases hl : ds.length + 1 = ps.length
    · rw [← hl, ← r.length]; rfl
    · unfold initF at o
      rw [if_neg hl] at o
      exact o.elim
  · obtain ⟨H1, S, ba, b, ds, y, dx, ws, rfl, hH, h1, h2, h3, c, r, o⟩ := h
    refine ⟨_, body y cdv Ar outer s H E ⟨H1, S, ba⟩ hr hg, ?_⟩
    unfold initF at o
    by_cases hl : ds.length + 1 = ps.length
    · rw [if_pos hl] at o
      have hx : (upd H1 dx (.own y)) y = none := by rw [upd_ne (fun z => h3 z.symm)]; exact h1
      have cc : Core ⟨H1, S, ba⟩ S b H := by
        rw [hH]
        exact (c.allocH h2).allocH hx
      have sl : Slots K ba S H (L2.start N (.ref y :: ws)) (some (.sh (.obj (.ref y))) :: (ds.map (fun d => some (.sh d)) ++ List.replicate (N.length - (ds.length + 1)) none)) [] := by
        unfold L2.start
        show Slots K ba S H (some (V.ref y) :: (ws.map some ++ List.replicate (N.length - (ws.length + 1)) none)) _ _
        rw [r.length]
        exact .sh (.obj _) (slots_start _ ds ws r)
      refine ⟨S, _, b, dx, [], [], [], ⟨cc, by rw [hH]; exact upd_same, c.sn h1, h1, c.nba h1, [], sl, ⟨List.nodup_nil, fun _ h => by cases h⟩, by simp⟩, by simp [isMe], rfl, .nil, ?_⟩
      cases hF : F y (some (.sh (.obj (.ref y))) :: (ds.map (fun d => some (.sh d)) ++ List.replicate (N.length - (ds.length + 1)) none)) b [] [] with
      | ok z b' => rw [hF] at o; exact fun S' σ H' dx' fs e cc g1 g2 g3 g4 => o S' H' dx' fs e cc g1 g2 g3 g4
      | ex cl ns es => rw [hF] at o; exact fun dx' S' σ H' b' e cc xr => o dx' S' H' b' e cc xr
      | stuck => rw [hF] at o; exact o
    · rw [if_neg hl] at o
      exact o.elim
end
section
variable {X : Cx} {C : Cq} {E : XK} {e : Expr} {es : List Expr} {pos p : Pos} {G : AF} {A f : Addr} {k : Nat} {fd : FuncData} {ps : List Str} {x : Str}
def eMake (A : Addr) (Fm : List D → Bag → IO) (G : AF) : EF := fun ρ b => (G ρ b).bind fun ds b' => (Fm ds b').bind fun z b2 => .ok (.ins A z.1 z.2) b2
theorem make_of {Fx : Addr → List D → Bag → IO} {Fm : List D → Bag → IO} (hF : ∀ y ds b, Fm ds b = .stuck ∨ Fx y ds b = Fm ds b) {S1 : Hp} {ρ : Env} {b1 : Bag} {σ : L2.St} {H1 : Hp} {vs : List V} {ds : List D} {Q : VK} {y dx : Addr} (ok1 : OkS X.K C S1 ρ b1 σ H1) (r : DRs X.K C.ba S1 vs ds)
    (hy : H1 y = none) (hdx : H1 dx = none) (hne : dx ≠ y) (q : OutG X.K C (WD E) S1 ρ σ (fun d _ S' H' => ∀ v, DR X.K C.ba S' v d → Q v H') ((Fm ds b1).bind fun z b2 => .ok (.ins A z.1 z.2) b2)) :
    spI X.K A Fx (.ref y :: vs) (upd (upd H1 dx (.own y)) y (.ins A dx [])) (fun v H2 => v = .non ∧ Q (.ref y) H2) E := by
  refine ⟨H1, S1, C.ba, b1, ds, y, dx, vs, rfl, rfl, hy, hdx, hne, ok1.core.inner, r, ?_⟩
  rcases hF y ds b1 with h | h
  · rw [h] at q; exact q.elim
  · rw [h]
    cases hm : Fm ds b1 with
    | stuck => rw [hm] at q; exact q.elim
    | ex c ns es => rw [hm] at q; exact fun dx' S' H' b' e cc xr => q dx' S' H' b' e (ok1.frame cc e) xr
    | ok z b2 =>
      rw [hm] at q
      intro S' H' dx' fs e cc g1 g2 g3 g4
      have sh := same_upd (u := .ins A dx' fs) g2
      refine ⟨rfl, q (upd S' y (.ins A dx' fs)) H' (e.trans sh) (ok1.frame (cc.share g1 g2 hy (ok1.core.nba hy)) (e.trans sh)) _ (.ins upd_same g3 (g4.up sh))⟩
theorem d_make {Fx : Addr → List D → Bag → IO} {Fm : List D → Bag → IO} (M : Mk X.K A f) (FO : FnOk X.prog X.w X.K X.mg X.base (L2.CX X.prog X.w) k f fd ps (spI X.K A Fx)) (hF : ∀ y ds b, Fm ds b = .stuck ∨ Fx y ds b = Fm ds b) (hr : Room (k + 1) X.A) (hg : Gl X x) (hm : X.mg x = some (.ref A)) (hb : Binds X.K fd ps []) (hx : Passes (L2.CX X.prog X.w) X E)
    (ha : PA X (e :: es) (tDA X.K C (WD E) G)) (hdb : (x == ("__debug__" : Str)) = false := by decide) (he : starEach (e :: es) X.env = (false, eval e X.env) :: starEach es X.env := by rfl) (hpl : (backTo pos (starEach es X.env)).any (·.1) = false := by rfl) :
    PE X (.Call (.Name x p) (e :: es) [] pos) (tD X.K C (WD E) (eMake A Fm G)) := pe_imp (pe_make (dvs := []) M FO hr hg hm hb .nil hx ha hdb he hpl) fun σ H Q ⟨S, ρ, b, ok, q⟩ => by
  refine ⟨S, ρ, b, ok, q.bind.imp fun ds b1 S1 H1 s1 ok1 q1 vs r y dx hy hdx hne => ?_⟩
  rw [List.append_nil]
  exact make_of hF ok1 r hy hdx hne q1
theorem d_knil {W : WX} : PK X [] (tDA X.K C W aNil) := ⟨fun pos pins s σ H Q I ⟨S, ρ, b, ok, q⟩ => pk_nil.run pos pins s σ H Q I (q S H (Same.refl _) ok [] .nil)⟩
theorem d_kcons {W : WX} {F : EF} {kws : List Keyword} {nm : Option Str} {kpos : Pos} (he : PE X e (tD X.K C W F)) (hr : PK X kws (tDA X.K C W G)) : PK X (⟨nm, e, kpos⟩ :: kws) (tDA X.K C W (aCons F G)) :=
  ⟨fun pos pins s σ H Q I ⟨S, ρ, b, ok, q⟩ => (pk_cons he hr).run pos pins s σ H Q I
    ⟨S, ρ, b, ok, q.bind.imp fun d b1 S1 H1 s1 ok1 q1 v r => ⟨S1, ρ, b1, ok1, q1.bind.imp fun ds b2 S2 H2 s2 ok2 q2 vs rs => q2 S2 H2 (Same.refl _) ok2 _ (.cons (r.up s2) rs)⟩⟩⟩
def eCallK (m : Nat) (Fn : DFn) (gD : List D → List D) (G : AF) : EF := fun ρ b => (G ρ b).bind fun ds b' => if ds.length = m then Fn (gD ds) b' else .stuck
theorem d_callK0 {Fn : DFn} {kws : List Keyword} {ks : List Str} {g : List Value → List Value → List Value} {gV : List V → List V → List V} {gD : List D → List D} (FO : FnOk X.prog X.w X.K X.mg X.base (L2.CX X.prog X.w) k f fd ps (spD X.K Fn)) (hr : Room k X.A) (hg : Gl X x) (hm : X.mg x = some (.ref f)) (hk : PySem.W.keepIn X.K (.ref f) = true)
    (hb : KBn X.K fd ps 0 ks g gV) (hgD : ∀ ba S vs ds, DRs X.K ba S vs ds → DRs X.K ba S (gV [] vs) (gD ds)) (hx : Passes (L2.CX X.prog X.w) X E) (hkw : PK X kws (tDA X.K C (WD E) G)) (hall : (backToKw pos (keywordEach kws X.env)).all (·.1.isSome) = true := by rfl) (hks : (backToKw pos (keywordEach kws X.env)).filterMap (·.1) = ks := by rfl)
    (hdb : (x == ("__debug__" : Str)) = false := by decide) (hpl : ((backTo pos (starEach [] X.env)).any (·.1) || (backToKw pos (keywordEach kws X.env)).any (·.1.isNone)) = false := by rfl) :
    PE X (.Call (.Name x p) [] kws pos) (tD X.K C (WD E) (eCallK ks.length Fn gD G)) := ⟨fun pins s σ H Q I ⟨S, ρ, b, ok, q⟩ =>
  wpAny_Call_Name_kw (ld_glob I hg hm (PySem.W.callWith_KW0 (h₀ := X.base) I.ok.mod.kin hk hall (thn (hkw.run pos pins s σ H (fun vs H1 => vs.length = ks.length ∧ spD X.K Fn (gV [] vs) H1 Q E) I ⟨S, ρ, b, ok, q.bind.imp fun ds b1 S1 H1 s1 ok1 q1 vs r => by
      by_cases hl : ds.length = ks.length
      · rw [if_pos hl] at q1
        exact ⟨by rw [r.length, hl], spD_of (W := WD E) ok1 (hgD _ _ _ _ r) q1⟩
      · rw [if_neg hl] at q1
        exact q1.elim⟩) fun us s1 z => by
    obtain ⟨vs, H1, J, r, hl, q⟩ := z
    refine ⟨J.kIn, ?_⟩
    rw [hks]
    exact run_fnN (us := []) (vs := []) FO hr hb hx J .nil r rfl hl q) hpl) hdb)⟩
end
section
variable {X : Cx} {C : Cq} {W : WX} {pos : Pos} {body : List Stmt} {h₀ : ExceptHandler} {hs : List ExceptHandler} {G : SF}
theorem d_in3 {e : Expr} {F : EF} (h : ∀ C, PE X e (tD X.K C W0 F)) : PE X e (tDin X.K F) := ⟨fun pins s σ H Q I ⟨C, z⟩ => (h C).run pins s σ H Q I z⟩
end
end DL

set_option maxHeartbeats 1000000
namespace DL
open PySem PySem.Spec PyProof.Rows L2
section
variable {X : Cx} {C : Cq} {W : WX} {st : Stmt} {e a b c o tg l : Expr} {es : List Expr} {pos apos cpos : Pos} {F Fa Fb Fc : EF} {G : AF}
@[simp] def allOf : D → Option (List D)
  | .lst ds => some ds
  | .fl ds => some ds
  | .tup ds => some ds
  | .str x => some (signsOf x)
  | _ => none
@[simp] def aAny (F : EF) : AF := fun ρ b => (F ρ b).bind fun d b' => Out.pureO (allOf d) b'
theorem aAny_cases (F : EF) (ρ : Env) (b : Bag) : aAny F ρ b = aSeq F ρ b ∨ aAny F ρ b = aTup F ρ b ∨ aAny F ρ b = aSigns F ρ b := by
  unfold aAny aSeq aTup aSigns
  cases F ρ b with
  | ok d b' => cases d <;> first | exact .inl rfl | exact .inr (.inl rfl) | exact .inr (.inr rfl)
  | ex c ns ds => exact .inl rfl
  | stuck => exact .inl rfl
theorem d_iany (h : PE X l (tD X.K C W F)) : PI X tg l (tDI X.K C W (aAny F)) := ⟨fun pins s σ H R I ⟨S, ρ, b, ok, q⟩ => by
  rcases aAny_cases F ρ b with e | e | e
  · rw [e] at q; exact (d_ilist h).run pins s σ H R I ⟨S, ρ, b, ok, q⟩
  · rw [e] at q; exact (d_ituple h).run pins s σ H R I ⟨S, ρ, b, ok, q⟩
  · rw [e] at q; exact (d_istr h).run pins s σ H R I ⟨S, ρ, b, ok, q⟩⟩
@[simp] def bYes : BF := fun _ b => .ok true b
theorem d_tsnil : PTs X [] (tDt X.K C W bYes) := ⟨fun pins s σ H Q I ⟨S, ρ, b, ok, q⟩ => pts_nil.run pins s σ H Q I (q S H (Same.refl _) ok)⟩
theorem d_tsone {T : BF} (h : PT X e (tDt X.K C W T)) : PTs X [e] (tDt X.K C W T) := pts_one h
theorem d_inte {x : Str} {i : Int} (hg : Gl X x) (hm : ∃ t, X.mg x = some (.int i t)) (hd : (x == ("__debug__" : Str)) = false := by decide) : PE X (.Name x pos) (tD X.K C W (eC (.int i))) := by
  obtain ⟨t, hm⟩ := hm
  exact d_intn hg hm hd
theorem d_stre {x y : Str} (hg : Gl X x) (hm : ∃ t, X.mg x = some (.str y t)) (hd : (x == ("__debug__" : Str)) = false := by decide) : PE X (.Name x pos) (tD X.K C W (eC (.str y))) := by
  obtain ⟨t, hm⟩ := hm
  exact d_strn hg hm hd
def Has (P : Program) (w : World) (K : PySem.W.Frag) (mg : Str → Option Value) (base : Heap) (Gd : Around → Prop) (k : Nat) (x : Str) (ps : List Str) (sp : Sp) : Prop :=
  ∃ f fd, FnG P w K mg base Gd k f fd ps sp ∧ mg x = some (.ref f) ∧ PySem.W.keepIn K (.ref f) = true ∧ Binds K fd ps []
theorem d_callH {Gd : Around → Prop} {j k : Nat} {ps : List Str} {Fn : DFn} {x : Str} {p : Pos} (h : Has X.prog X.w X.K X.mg X.base Gd j x ps (spD X.K Fn)) (hr : Room k X.A) (hj : j ≤ k) (hgd : Gd X.A) (hg : Gl X x)
    (tk : Takes X W) (ha : PA X (e :: es) (tDA X.K C W G)) (hdb : (x == ("__debug__" : Str)) = false := by decide) (he : starEach (e :: es) X.env = (false, eval e X.env) :: starEach es X.env := by rfl)
    (hpl : (backTo pos (starEach es X.env)).any (·.1) = false := by rfl) : PE X (.Call (.Name x p) (e :: es) [] pos) (tD X.K C W (eCall Fn G)) := by
  obtain ⟨f, fd, FO, hm, hk, hb⟩ := h
  exact d_call FO (hr.mono hj) hgd hg hm hk hb tk ha hdb he hpl
theorem d_callHB {Gd Gd' : Around → Prop} {j jb k : Nat} {ps psb : List Str} {Fn Bn : DFn} {x xb : Str} {p pb posb : Pos} {e2 : Expr} (h : Has X.prog X.w X.K X.mg X.base Gd j x ps (spD X.K Fn)) (h' : Has X.prog X.w X.K X.mg X.base Gd' jb xb psb (spDF X.K Bn)) (hr : Room k X.A) (hj : j ≤ k) (hjb : jb ≤ k) (hgd : Gd X.A) (hgd' : Gd' X.A) (hg : Gl X x) (hgb : Gl X xb)
    (tk : Takes X W) (ha : PA X (e2 :: es) (tDA X.K C W G)) (hdb : (x == ("__debug__" : Str)) = false := by decide) (hdb2 : (xb == ("__debug__" : Str)) = false := by decide)
    (he2 : starEach (e2 :: es) X.env = (false, eval e2 X.env) :: starEach es X.env := by rfl) (hpl2 : (backTo posb (starEach es X.env)).any (·.1) = false := by rfl)
    (he : starEach [.Call (.Name xb pb) (e2 :: es) [] posb] X.env = (false, eval (.Call (.Name xb pb) (e2 :: es) [] posb) X.env) :: starEach [] X.env := by rfl) (hpl : (backTo pos (starEach [] X.env)).any (·.1) = false := by rfl) :
    PE X (.Call (.Name x p) [.Call (.Name xb pb) (e2 :: es) [] posb] [] pos) (tD X.K C W (eBag Fn Bn G)) := by
  obtain ⟨f, fd, FO, hm, hk, hb⟩ := h
  obtain ⟨f', fd', FO', hm', hk', hb'⟩ := h'
  exact d_callBag FO (hr.mono hj) hgd hg hm hk hb tk FO' (hr.mono hjb) hgd' hgb hm' hk' hb' ha hdb hdb2 he2 hpl2 he hpl
end
end DL

set_option maxHeartbeats 1000000
namespace DL
open PySem PySem.Spec PyProof.Rows L2
section
variable {fn : List QD} {ex : PySem.W.Frag → Bool} {K : PySem.W.Frag}
theorem ex_of (c : obK fn ex K = vaK fn) : ex K = true := by
  have := congrArg (fun z : QA => z.1) c
  have h : (ex K && fn.all fun d => d.ok K) = true := this
  rw [Bool.and_eq_true] at h
  exact h.1
theorem fun_of (c : obK fn ex K = vaK fn) (i : Nat) {d : QD} (h : fn[i]? = some d := by rfl) : ∃ fd, Fun K d.name d.qual d.st (d.at_ K) fd := by
  have h1 : (ex K && fn.all fun d => d.ok K) = true := congrArg (fun z : QA => z.1) c
  have h2 : (fn.map fun d => fnV K (d.at_ K)) = fn.map QD.val := congrArg (fun z : QA => z.2) c
  rw [Bool.and_eq_true] at h1
  have h3 : (fn.map fun d => fnV K (d.at_ K))[i]? = (fn.map QD.val)[i]? := by rw [h2]
  rw [List.getElem?_map, List.getElem?_map, h] at h3
  exact QD.get (Option.some.inj h3) (List.all_eq_true.mp h1.2 d (List.mem_of_getElem? h))
end
abbrev GK : Around → Prop := fun A => A.guards = some []
abbrev GT : Around → Prop := fun _ => True
abbrev Fine (s₁ : Shared) (r : Result) (t : Shared) : Prop := r = .ok (.ret (.bool true)) ∧ OldK s₁.heap t.heap ∧ t.os = s₁.os ∧ AllBare t.gens
section
variable {P : Program} {w : World} {K : PySem.W.Frag} {mg mb : Str → Option Value} {k : Nat} {fa a : Addr} {fd : FuncData} {x : Str} {sp : Sp} {s₁ : Shared} {vs : List Value} {ns : List Int}
/-- seen from an abstract heap T that holds at most the script, as a known object -/
theorem call_from (T : Hp) (kin : K.In s₁.heap) (gl : s₁.heap.Ns mainGlobals mg) (bl : s₁.heap.Ns builtinsNs mb) (bb : ∀ x : Str, x ≠ "__name__" → mb x = bootBuiltins x) (nl : s₁.heap.NoLimit) (gn : s₁.gens = #[])
    (at_ : s₁.heap.get? a = some { cls := .type "list", data := .seq vs.toArray }) (room : Room k callerA) (F : ∀ base : Heap, K.In base → base.Ns mainGlobals mg → FnG P w K mg base GK k fa fd [x] sp) (bt : ∀ (s : Shared) (u : Value), BindsTo s fd ⟨[u], []⟩ [(x, u)])
    (on : Only T) (go : sp [.ref a] T (fun v _ => v = .bl true) fun _ _ _ => False) (fine : HOk P w T s₁.heap) (one : ∀ b, T b ≠ none → b = a) (out : T a ≠ none → K.lookup a = none) : codeAny (model P w) callerA (.call (.ref fa) ⟨[.ref a], []⟩) (Fine s₁) s₁ := by
  have keep : ∀ {b : Addr} {o : Obj}, s₁.heap.get? b = some o → T b = none → (hidT s₁.heap T).get? b = some o := fun g n => hidT_get g n
  have free : ∀ {b : Addr} {o : Obj} {es : Array DictEntry} {n : Nat}, s₁.heap.get? b = some o → o.data = .dict es n → T b = none := by
    intro b o es n g dd
    by_cases hz : T b = none
    · exact hz
    · have hb := one b hz
      rw [hb, at_] at g
      injection g with g
      rw [← g] at dd
      nomatch (show Data.seq vs.toArray _ = Data.dict es n from dd)
  have spaces : ∀ {b : Addr} {m : Str → Option Value}, s₁.heap.Ns b m → (hidT s₁.heap T).Ns b m := by
    rintro b m ⟨o, es, n, g, dd, rest⟩
    exact ⟨o, es, n, keep g (free g dd), dd, rest⟩
  have kin' : K.In (hidT s₁.heap T) := by
    intro b o g
    refine keep (kin b o g) ?_
    by_cases hz : T b = none
    · exact hz
    · have hb := one b hz
      rw [hb] at g hz
      rw [out hz] at g
      cases g
  have md : Mod K mg (hidT s₁.heap T) := by
    refine ⟨kin', spaces gl, ⟨mb, spaces bl, bb⟩, ?_⟩
    obtain ⟨mc, g1, g2⟩ := nl
    exact ⟨mc, spaces g1, g2⟩
  have env : Env0 P w K mg (hidT s₁.heap T) callerA [] s₁ T := by
    refine ⟨rfl, md, fun b o g => of_hidT g, Nat.le_of_eq (hidT_size _ _), trivial, fun b hb => ?_, fine, .of_eq gn⟩
    cases hb
  refine codeAny_mono ((F _ kin' (spaces gl)).go callerA [] s₁ T ⟨[.ref a], []⟩ [.ref a] [.ref a] _ _ room rfl env (bt s₁ (.ref a)) (.cons rfl .nil) go) fun r t h => ?_
  match r, h with
  | .error e, h =>
    obtain ⟨_, _, _, _, _, _, _, _, _, _, _, _, z⟩ := h
    exact z.elim
  | .ok (.ret u), h =>
    obtain ⟨v, T', h1, h2, un, fine', rv, hv⟩ := h
    have hv : v = .bl true := hv
    rw [hv] at rv
    have hu : u = Value.bool true := rv
    refine ⟨by rw [hu], OldK.of_keep fun b o g => ?_, h1, h2⟩
    by_cases hz : T b = none
    · exact un.keep b o g hz (fun z => by cases z) (by simp)
    · rcases on b with z | ⟨ob, xs, z⟩
      · exact absurd z hz
      · have z' := un.frzs b ob _ z
        obtain ⟨g1, _⟩ := fine b _ z
        obtain ⟨g2, _⟩ := fine' b _ z'
        rw [g] at g1
        rw [Option.some.inj g1]
        exact g2
  | .ok .next, h => exact False.elim h
  | .ok .brk, h => exact False.elim h
  | .ok .cont, h => exact False.elim h
theorem law_go (kin : K.In s₁.heap) (gl : s₁.heap.Ns mainGlobals mg) (bl : s₁.heap.Ns builtinsNs mb) (bb : ∀ x : Str, x ≠ "__name__" → mb x = bootBuiltins x) (nl : s₁.heap.NoLimit) (gn : s₁.gens = #[])
    (at_ : s₁.heap.get? a = some { cls := .type "list", data := .seq vs.toArray }) (iar : IntsAre vs ns) (size : ns.length ≤ sizeLine) (room : Room k callerA) (F : ∀ base : Heap, K.In base → base.Ns mainGlobals mg → FnG P w K mg base GK k fa fd [x] sp) (bt : ∀ (s : Shared) (u : Value), BindsTo s fd ⟨[u], []⟩ [(x, u)])
    (go : ∀ T : Hp, Only T → SqL K T a (ns.map V.int) → sp [.ref a] T (fun v _ => v = .bl true) fun _ _ _ => False) : codeAny (model P w) callerA (.call (.ref fa) ⟨[.ref a], []⟩) (Fine s₁) s₁ := by
  have rv := vals_ints iar
  have sz : vs.toArray.size ≤ sizeLine := by rw [List.size_toArray, iar.length]; exact size
  by_cases hk : K.lookup a = none
  · have on : Only (fun b => if b = a then some (.frz { cls := .type "list", data := .seq vs.toArray } (.lst (ns.map V.int))) else none) := fun b => by
      by_cases hb : b = a
      · right; exact ⟨_, _, if_pos hb⟩
      · left; exact if_neg hb
    refine call_from _ kin gl bl bb nl gn at_ room F bt on (go _ on (Or.inl (Or.inr ⟨_, if_pos rfl⟩))) (fun b u z => ?_) (fun b z => ?_) fun _ => hk
    · by_cases hb : b = a
      · rw [if_pos hb] at z
        injection z with z
        rw [hb, ← z]
        exact ⟨at_, by rw [List.length_map]; exact size, vs, _, rv, at_⟩
      · rw [if_neg hb] at z; cases z
    · by_cases hb : b = a
      · exact hb
      · exact absurd (if_neg hb) z
  · obtain ⟨o, ho⟩ := Option.ne_none_iff_exists'.mp hk
    have g := kin a o ho
    rw [at_] at g
    injection g with g
    rw [← g] at ho
    refine call_from (fun _ => none) kin gl bl bb nl gn at_ room F bt (fun _ => Or.inl rfl) (go _ (fun _ => Or.inl rfl) (Or.inr ⟨_, vs.toArray, _, ho, rfl, rfl, rfl, sz, rv⟩)) (fun b u z => by cases z) (fun b z => absurd rfl z) fun z => absurd rfl z
end
/-- a law, from its promise of data -/
theorem walkG {l : PySem.W.OpenLaw} {n k : Nat} {q : Program} {loose : List Str} {XP : (Str → Option Value) → Heap → Prop} {YP : World → Heap → Prop} {d : DefRec} {x : Str} (hn : l.most = some n) (hs : n ≤ sizeLine) (hd : d.params.defaults = []) (room : Room k callerA)
    (F : ∀ (w : World) (mg : Str → Option Value) (fa : Addr) (h : Heap), YP w h → h.Ns mainGlobals mg → mg d.name = some (.ref fa) → ∃ (K : PySem.W.Frag) (fd : FuncData) (Fn : DFn), K.In h ∧ (∀ (s : Shared) (u : Value), BindsTo s fd ⟨[u], []⟩ [(x, u)]) ∧
      (∀ ns : List Int, ns.length ≤ n → ∃ b', Fn [.fl (ns.map D.int)] ⟨0, 0, 0⟩ = .ok (.bl true) b') ∧ ∀ base : Heap, K.In base → base.Ns mainGlobals mg → FnG l.prog w K mg base GK k fa fd [x] (spD K Fn)) :
    PySem.W.WalkO q loose XP YP l.row.toRowW d [] (fun f vs => PySem.call f vs) := by
  refine Att.attach_call hn hd fun w s0 s1 mg mb fa o pm cd doc a vs ns G Y ho hdict hcode hname hobj iar len gens => ?_
  obtain ⟨K, fd, Fn, kin, bt, val, go⟩ := F w mg fa _ Y G.T.g hname
  refine law_go kin G.T.g G.T.b G.T.builtins G.T.nolimit gens hobj iar (Nat.le_trans len hs) room go bt fun T on sq => ?_
  obtain ⟨b', hv⟩ := val ns len
  -- what is shared: the script alone
  refine ⟨T, none, ⟨0, 0, 0⟩, [.fl (ns.map D.int)], ⟨Same.refl _, fun _ _ e _ => e, fun _ e => (by cases e), fun _ _ e => .inl e⟩, .cons (.fl sq ?_) .nil, ?_⟩
  · have : ∀ ms : List Int, DRs K none T (ms.map V.int) (ms.map D.int) := fun ms => by
      induction ms with
      | nil => exact .nil
      | cons m ms ih => exact .cons (.int m) ih
    exact this ns
  · rw [hv]
    intro S' H v _ _ r
    cases r
    rfl
end DL

set_option maxHeartbeats 1000000
namespace DL
open PySem PySem.Spec PyProof.Rows L2
section
variable {α β : Type} {a : α} {b : Bag} {k : α → Bag → Out β} {c : Addr} {ns : List Str} {ds : List D} {ρ : Env} {ks : α → Bag → SO} {kr : Env → Bag → SO} {d : D}
@[simp] theorem bind_ok_ : (Out.ok a b).bind k = k a b := rfl
@[simp] theorem bind_ex_ : (Out.ex c ns ds : Out α).bind k = .ex c ns ds := rfl
@[simp] theorem bind_st_ : (Out.stuck : Out α).bind k = .stuck := rfl
@[simp] theorem pureO_some_ : Out.pureO (some a) b = .ok a b := rfl
@[simp] theorem pureO_none_ : Out.pureO (none : Option α) b = .stuck := rfl
@[simp] theorem st_ok_ : (Out.ok a b).st ρ ks = ks a b := rfl
@[simp] theorem st_ex_ : (Out.ex c ns ds : Out α).st ρ ks = .ex ρ c ns ds := rfl
@[simp] theorem st_st_ : (Out.stuck : Out α).st ρ ks = .stuck := rfl
@[simp] theorem seq_nx_ : (SO.nx ρ b).seq kr = kr ρ b := rfl
@[simp] theorem seq_rt_ : (SO.rt d b).seq kr = .rt d b := rfl
@[simp] theorem seq_ro_ : (SO.ro d b).seq kr = .ro d b := rfl
@[simp] theorem out_rt_ : (SO.rt d b).out = .ok d b := rfl
@[simp] theorem out_nx_ : (SO.nx ρ b).out = .ok .non b := rfl
@[simp] theorem outF_ro_ : (SO.ro d b).outF = .ok d b := rfl
@[simp] theorem noex_ok_ : (Out.ok a b).noex = .ok a b := rfl
@[simp] theorem atI_0 {x : α} {xs : List α} : atI (x :: xs) 0 = some x := by
  simp [atI, ixN]
@[simp] theorem atI_1 {x y : α} {xs : List α} : atI (x :: y :: xs) 1 = some y := by
  have : (1 : Int) < (xs.length : Int) + 1 + 1 := by omega
  simp [atI, ixN, this]
@[simp] theorem atI_2 {x y z : α} {xs : List α} : atI (x :: y :: z :: xs) 2 = some z := by
  have : (2 : Int) < (xs.length : Int) + 1 + 1 + 1 := by omega
  simp [atI, ixN, this]
@[simp] theorem atI_3 {x0 x1 x2 x3 : α} {xs : List α} : atI (x0 :: x1 :: x2 :: x3 :: xs) 3 = some x3 := by
  have : (3 : Int) < (xs.length : Int) + 1 + 1 + 1 + 1 := by omega
  simp [atI, ixN, this]
@[simp] theorem atI_4 {x0 x1 x2 x3 x4 : α} {xs : List α} : atI (x0 :: x1 :: x2 :: x3 :: x4 :: xs) 4 = some x4 := by
  have : (4 : Int) < (xs.length : Int) + 1 + 1 + 1 + 1 + 1 := by omega
  simp [atI, ixN, this]
@[simp] theorem atI_5 {x0 x1 x2 x3 x4 x5 : α} {xs : List α} : atI (x0 :: x1 :: x2 :: x3 :: x4 :: x5 :: xs) 5 = some x5 := by
  have : (5 : Int) < (xs.length : Int) + 1 + 1 + 1 + 1 + 1 + 1 := by omega
  simp [atI, ixN, this]
@[simp] theorem atI_6 {x0 x1 x2 x3 x4 x5 x6 : α} {xs : List α} : atI (x0 :: x1 :: x2 :: x3 :: x4 :: x5 :: x6 :: xs) 6 = some x6 := by
  have : (6 : Int) < (xs.length : Int) + 1 + 1 + 1 + 1 + 1 + 1 + 1 := by omega
  simp [atI, ixN, this]
@[simp] theorem atI_7 {x0 x1 x2 x3 x4 x5 x6 x7 : α} {xs : List α} : atI (x0 :: x1 :: x2 :: x3 :: x4 :: x5 :: x6 :: x7 :: xs) 7 = some x7 := by
  have : (7 : Int) < (xs.length : Int) + 1 + 1 + 1 + 1 + 1 + 1 + 1 + 1 := by omega
  simp [atI, ixN, this]
theorem sh_int (i : Int) : SeqAt.shaped (.int i) = true := by simp [SeqAt.shaped, PyData.canLay0, PyData.depth]
theorem sh_str {x : Str} (h : PyData.strOk x = true) : SeqAt.shaped (.str x) = true := by simp [SeqAt.shaped, PyData.canLay0, PyData.depth, h]
theorem int_eqv (i j : Int) : PyData.eqv (.int i) (.int j) = decide (i = j) := by simp [PyData.eqv]; rfl
theorem str_eqv (x : Str) : PyData.eqv (.str x) (.str x) = true := by simp [PyData.eqv]
@[simp] theorem eqF_int {i j : Int} : eqF (.int i) (.int j) = some (.bl (decide (i = j))) := by
  simp only [eqF, D.pd, sh_int, int_eqv, and_self, if_true]
@[simp] theorem neF_int {i j : Int} : neF (.int i) (.int j) = some (.bl (!decide (i = j))) := by
  simp only [neF, D.pd, sh_int, int_eqv, and_self, if_true]
theorem neF_str {x : Str} (h : PyData.strOk x = true) : neF (.str x) (.str x) = some (.bl false) := by
  simp only [neF, D.pd, sh_str h, str_eqv, and_self, if_true, Bool.not_true]
theorem atI_last {xs : List α} {x : α} : atI (xs ++ [x]) (-1) = some x := by
  have e : ixN (xs ++ [x]).length (-1) = some xs.length := by
    unfold ixN
    rw [if_neg (by decide), if_pos (by rw [List.length_append, List.length_singleton]; omega)]
    congr 1
    rw [List.length_append, List.length_singleton]
    omega
  unfold atI
  rw [e]
  simp
end
end DL

set_option maxHeartbeats 1000000
namespace DL
open PySem PySem.Spec PyProof.Rows L2
section
variable {X : Cx} {CX : CXT} {k : Nat} {A f : Addr} {fd : FuncData} {ps : List Str} {sp : Sp}
def rLenO (A : Addr) (sp : Sp) : List V → Hp → VK → Prop := fun xs H Q => ∃ a dx fs, xs = [.ref a] ∧ H a = some (.ins A dx fs) ∧ sp [.ref a] H (fun v H' => ∃ n : Int, v = .int n ∧ (0 ≤ n ∧ n < 2 ^ 63) ∧ Q (.int n) H') E0
theorem call_lenO (hs : PySem.W.findIn X.K (.ref A) "__len__" = some (some (.ref f))) (hf : PySem.W.isFn X.K (.ref f) = true) (F : FnOk X.prog X.w X.K X.mg X.base CX k f fd ps sp) (hr : Room (k + 1) X.A) (hb : Binds X.K fd ps []) (hx : Passes CX X E0) : CallR X (.builtin "len") (rLenO A sp) := by
  intro pins s σ H xs us Q I r h
  obtain ⟨a, dx, fs, rfl, ea, q⟩ := h
  have hu : us = [Value.ref a] := by
    cases r with
    | cons r1 r2 => cases r2; cases r1; rfl
  subst hu
  obtain ⟨mA, O, _⟩ := ins_get I.hok ea
  obtain ⟨od, J, _⟩ := O.look
  have hl : ([Value.ref a] ++ []).length = ps.length := by rw [← F.len _ _ _ _ q]; rfl
  refine PySem.Calls.call_function_entry kind_len plain_len entry_len (args_len1 _) ?_
  unfold PySem.Builtin.«len»
  refine wpAny_bind (m := oneArg "len" _) (wpAny_pure ?_)
  refine wpAny_bind (m := callSpecial? (.ref a) (Str.ofString "__len__")) (PySem.W.special_fn I.kIn J hs (beq_iff_eq.mp hf) (wpAny_call (codeAny_mono (F.run X.A.in1 X.stack s H ⟨[.ref a], []⟩ ([Value.ref a] ++ []) [.ref a] _ E0 hr.in1 I.env0.in1 (hb s [.ref a] I.kIn hl) (.cons rfl .nil) q) fun r s' hq => ?_)))
  cases r with
  | error er => exact hx pins σ H s er s' I hq
  | ok fl =>
    cases fl with
    | ret u =>
      obtain ⟨v, H', I3, rv, n, e, ⟨h0, h1⟩, q3⟩ := I.after hq
      subst e
      obtain ⟨t, rfl⟩ := rv
      refine wpAny_bind (wpAny_holding (wpAny_pure ?_))
      refine wpAny_bind (wpAny_letGo ?_)
      have n1 : ¬ n < 0 := Int.not_lt.mpr h0
      have n2 : ¬ n ≥ 2 ^ 63 := Int.not_le.mpr h1
      simp only [n1, n2, if_false]
      exact wpAny_bind (wpAny_mkInt (wpAny_pure ⟨_, rfl, .int n, H', I3.tok _, ⟨_, rfl⟩, q3⟩))
    | next => exact False.elim hq
    | brk => exact False.elim hq
    | cont => exact False.elim hq
end
section
variable {X : Cx} {C : Cq} {W : WX} {k : Nat} {A f : Addr} {fd : FuncData} {ps : List Str} {a : Expr} {pos p : Pos} {G : AF} {Fn : DFn}
/-- len(e), e an object of the class A whose __len__ is Fn -/
@[simp] def eLenO (A : Addr) (Fn : DFn) (G : AF) : EF := fun ρ b => (G ρ b).bind fun ds b1 => match ds with
  | [.ins A' ns es] => if A' = A then (match Fn [.ins A' ns es] b1 with
    | .ok (.int n) b2 => if 0 ≤ n ∧ n < 2 ^ 63 then .ok (.int n) b2 else .stuck
    | _ => .stuck) else .stuck
  | _ => .stuck
theorem d_lenO (hs : PySem.W.findIn X.K (.ref A) "__len__" = some (some (.ref f))) (hf : PySem.W.isFn X.K (.ref f) = true) (F : FnOk X.prog X.w X.K X.mg X.base (L2.CX X.prog X.w) k f fd ps (spD X.K Fn)) (hr : Room (k + 1) X.A) (hb : Binds X.K fd ps [])
    (hg : Gl X "len") (hm : X.mg "len" = none) (ha : PA X [a] (tDA X.K C W G)) (he : starEach [a] X.env = (false, eval a X.env) :: starEach [] X.env := by rfl) (hpl : (backTo pos (starEach [] X.env)).any (·.1) = false := by rfl) :
    PE X (.Call (.Name "len" p) [a] [] pos) (tD X.K C W (eLenO A Fn G)) := pe_imp (pe_callB (call_lenO hs hf F hr hb passL) hg hm PySem.boot_len ha (by decide) (by decide) he hpl) fun σ H Q ⟨S, ρ, b, ok, q⟩ => by
  refine ⟨S, ρ, b, ok, q.bind.imp fun ds b1 S1 H1 s1 ok1 q1 vs r => ?_⟩
  split at q1
  · rename_i A' ns es
    split at q1
    · rename_i hA
      subst hA
      split at q1
      · rename_i n b2 hF
        split at q1
        · rename_i hn
          cases r with
          | cons r1 r2 =>
            cases r2
            cases r1 with
            | ins h1 h2 h3 =>
              refine ⟨_, _, _, rfl, ok1.core.sub _ _ h1, spD_of (W := W0) ok1 (.cons (.ins h1 h2 h3) .nil) ?_⟩
              rw [hF]
              intro S2 H2 e2 ok2 v r
              cases r
              exact ⟨n, rfl, hn, q1 S2 H2 e2 ok2 _ (.int n)⟩
        · exact q1.elim
      · exact q1.elim
    · exact q1.elim
  · exact q1.elim
end
def intsD : List D → Option (List Int)
  | [] => some []
  | .int i :: ds => (intsD ds).map (i :: ·)
  | _ :: _ => none
def maxLF : List D → Option D
  | [.lst ds] => (intsD ds).bind fun is => match is with
    | i :: is => some (.int (topI i is))
    | [] => none
  | _ => none
theorem intsD_dr {K : PySem.W.Frag} {ba : Option Addr} {S : Hp} : ∀ {ds : List D} {vs : List V} {is : List Int}, DRs K ba S vs ds → intsD ds = some is → vs = is.map V.int
  | [], _, _, r, h => by cases r; cases h; rfl
  | .int x :: ds, _, _, r, h => by
    simp only [intsD, Option.map_eq_some_iff] at h
    obtain ⟨ks, h1, rfl⟩ := h
    cases r with
    | cons r1 r2 => cases r1; rw [intsD_dr r2 h1]; rfl
  | .non :: _, _, _, _, h => by cases h
  | .str _ :: _, _, _, _, h => by cases h
  | .bl _ :: _, _, _, _, h => by cases h
  | .tup _ :: _, _, _, _, h => by cases h
  | .lst _ :: _, _, _, _, h => by cases h
  | .fl _ :: _, _, _, _, h => by cases h
  | .ins _ _ _ :: _, _, _, _, h => by cases h
  | .obj _ :: _, _, _, _, h => by cases h
  | .bag :: _, _, _, _, h => by cases h
  | .dct _ _ :: _, _, _, _, h => by cases h
  | .dtp _ _ :: _, _, _, _, h => by cases h
theorem c_maxL {K : PySem.W.Frag} {C : Cq} : CallD K C (rMax K) maxLF := by
  intro S ρ b σ H vs ds z Q ok rs hz q
  unfold maxLF at hz
  split at hz
  · simp only [Option.bind_eq_some_iff] at hz
    obtain ⟨is, h1, hz⟩ := hz
    split at hz
    · rename_i i is
      cases hz
      cases rs with
      | cons r1 r2 =>
        cases r2
        cases r1 with
        | lst g1 g2 =>
          have e := intsD_dr g2 h1
          subst e
          refine ⟨_, i :: is, rfl, SqL.of (ok.core.sub _ _ g1), by simp, fun m hm hall => ?_⟩
          obtain ⟨t1, t2, t3⟩ := topI_ge is i
          have e : m = topI i is := by
            have a1 : topI i is ≤ m := t3.elim (fun e => by rw [e]; exact hall i List.mem_cons_self) fun z => hall _ (List.mem_cons_of_mem _ z)
            have a2 : m ≤ topI i is := (List.mem_cons.mp hm).elim (fun e => by rw [e]; exact t1) (t2 m)
            omega
          rw [e]
          exact q _ S H (Same.refl _) ok (.int _)
    · cases hz
  · cases hz
theorem d_maxL {X : Cx} {C : Cq} {W : WX} {a : Expr} {pos p : Pos} {G : AF} (hc : X.calm = true) (hg : Gl X "max") (hm : X.mg "max" = none) (ha : PA X [a] (tDA X.K C W G)) (he : starEach [a] X.env = (false, eval a X.env) :: starEach [] X.env := by rfl) (hpl : (backTo pos (starEach [] X.env)).any (·.1) = false := by rfl) :
    PE X (.Call (.Name "max" p) [a] [] pos) (tD X.K C W (eB maxLF G)) := d_callB (cr_max hc) c_maxL hg hm (by decide +kernel) ha (by decide) (by decide) he hpl
end DL

set_option maxHeartbeats 1000000
namespace DL
open PySem PySem.Spec PyProof.Rows L2
@[simp] def flatD : D → Option V
  | .non => some .non
  | .bl b => some (.bl b)
  | .int i => some (.int i)
  | .str x => some (.str x)
  | _ => none
@[simp] def flatsD : List D → Option (List V)
  | [] => some []
  | d :: ds => (flatD d).bind fun v => (flatsD ds).map (v :: ·)
section
variable {K : PySem.W.Frag} {ba : Option Addr} {S S' H : Hp}
theorem flat_dr {v u : V} {d : D} (r : DR K ba S v d) (h : flatD d = some u) : v = u ∧ flatV u = true := by
  cases d <;> simp only [flatD, Option.some.injEq, reduceCtorEq] at h <;> subst h <;> cases r <;> exact ⟨rfl, rfl⟩
theorem flats_dr : ∀ {ds : List D} {vs us : List V}, DRs K ba S vs ds → flatsD ds = some us → vs = us ∧ us.all flatV = true
  | [], _, _, r, h => by cases r; cases h; exact ⟨rfl, rfl⟩
  | d :: ds, _, _, r, h => by
    cases r with
    | cons r1 r2 =>
      simp only [flatsD, Option.bind_eq_some_iff, Option.map_eq_some_iff] at h
      obtain ⟨v, h1, us, h2, rfl⟩ := h
      obtain ⟨rfl, f1⟩ := flat_dr r1 h1
      obtain ⟨rfl, f2⟩ := flats_dr r2 h2
      exact ⟨rfl, by rw [List.all_cons, f1, f2]; rfl⟩
end
section
variable {X : Cx} {C : Cq} {W : WX} {o e a b : Expr} {es : List Expr} {pos apos cpos : Pos} {F Fa Fb : EF} {G : AF}
@[simp] def eML (f : List D → List D → Option D) (Fo : EF) (G : AF) : EF := fun ρ b => (Fo ρ b).bind fun d b1 => match seqOf d with
  | some xs => (G ρ b1).bind fun ds b2 => Out.pureO (f xs ds) b2
  | none => .stuck
@[simp] def inQ : D → D → Option D
  | d, .lst es => (flatD d).bind fun y => (flatsD es).map fun ys => .bl (inV y ys)
  | d, .fl es => (flatD d).bind fun y => (flatsD es).map fun ys => .bl (inV y ys)
  | d, .tup es => (flatD d).bind fun y => (flatsD es).map fun ys => .bl (inV y ys)
  | _, _ => none
@[simp] def ninQ : D → D → Option D
  | d, .lst es => (flatD d).bind fun y => (flatsD es).map fun ys => .bl (!inV y ys)
  | d, .fl es => (flatD d).bind fun y => (flatsD es).map fun ys => .bl (!inV y ys)
  | d, .tup es => (flatD d).bind fun y => (flatsD es).map fun ys => .bl (!inV y ys)
  | _, _ => none
theorem inq2 {K : PySem.W.Frag} : Op2 K C (rIn K false) inQ := by
  intro S ρ b σ H v w d e z Q ok r1 r2 hz q
  cases e with
  | lst es =>
    simp only [inQ, Option.bind_eq_some_iff, Option.map_eq_some_iff] at hz
    obtain ⟨y, hy, ys, hys, rfl⟩ := hz
    cases r2 with
    | lst h1 h2 =>
      obtain ⟨rfl, f1⟩ := flat_dr r1 hy
      obtain ⟨rfl, f2⟩ := flats_dr h2 hys
      exact ⟨_, _, rfl, .inl (SqL.of (ok.core.sub _ _ h1)), f1, f2, q _ S H (Same.refl _) ok (.bl _)⟩
  | fl es =>
    simp only [inQ, Option.bind_eq_some_iff, Option.map_eq_some_iff] at hz
    obtain ⟨y, hy, ys, hys, rfl⟩ := hz
    cases r2 with
    | fl h1 h2 =>
      obtain ⟨rfl, f1⟩ := flat_dr r1 hy
      obtain ⟨rfl, f2⟩ := flats_dr h2 hys
      exact ⟨_, _, rfl, .inl (ok.core.sub.seq h1), f1, f2, q _ S H (Same.refl _) ok (.bl _)⟩
  | tup es =>
    simp only [inQ, Option.bind_eq_some_iff, Option.map_eq_some_iff] at hz
    obtain ⟨y, hy, ys, hys, rfl⟩ := hz
    cases r2 with
    | tup h1 h2 =>
      obtain ⟨rfl, f1⟩ := flat_dr r1 hy
      obtain ⟨rfl, f2⟩ := flats_dr h2 hys
      exact ⟨_, _, rfl, .inr (seqT ok.core.sub h1), f1, f2, q _ S H (Same.refl _) ok (.bl _)⟩
  | _ => simp only [inQ, reduceCtorEq] at hz
theorem ninq2 {K : PySem.W.Frag} : Op2 K C (rIn K true) ninQ := by
  intro S ρ b σ H v w d e z Q ok r1 r2 hz q
  cases e with
  | lst es =>
    simp only [ninQ, Option.bind_eq_some_iff, Option.map_eq_some_iff] at hz
    obtain ⟨y, hy, ys, hys, rfl⟩ := hz
    cases r2 with
    | lst h1 h2 =>
      obtain ⟨rfl, f1⟩ := flat_dr r1 hy
      obtain ⟨rfl, f2⟩ := flats_dr h2 hys
      exact ⟨_, _, rfl, .inl (SqL.of (ok.core.sub _ _ h1)), f1, f2, q _ S H (Same.refl _) ok (.bl _)⟩
  | fl es =>
    simp only [ninQ, Option.bind_eq_some_iff, Option.map_eq_some_iff] at hz
    obtain ⟨y, hy, ys, hys, rfl⟩ := hz
    cases r2 with
    | fl h1 h2 =>
      obtain ⟨rfl, f1⟩ := flat_dr r1 hy
      obtain ⟨rfl, f2⟩ := flats_dr h2 hys
      exact ⟨_, _, rfl, .inl (ok.core.sub.seq h1), f1, f2, q _ S H (Same.refl _) ok (.bl _)⟩
  | tup es =>
    simp only [ninQ, Option.bind_eq_some_iff, Option.map_eq_some_iff] at hz
    obtain ⟨y, hy, ys, hys, rfl⟩ := hz
    cases r2 with
    | tup h1 h2 =>
      obtain ⟨rfl, f1⟩ := flat_dr r1 hy
      obtain ⟨rfl, f2⟩ := flats_dr h2 hys
      exact ⟨_, _, rfl, .inr (seqT ok.core.sub h1), f1, f2, q _ S H (Same.refl _) ok (.bl _)⟩
  | _ => simp only [ninQ, reduceCtorEq] at hz
theorem d_inq (ha : PE X a (tD X.K C W Fa)) (hb : PE X b (tD X.K C W Fb)) (hm : behindInMarks .In b = false := by with_unfolding_all rfl) : PE X (.Compare a [.In] [b] pos) (tD X.K C W (e2 inQ Fa Fb)) := d_cmp op_in_seq inq2 ha hb hm
theorem t_inq (ha : PE X a (tD X.K C W Fa)) (hb : PE X b (tD X.K C W Fb)) (hm : behindInMarks .In b = false := by with_unfolding_all rfl) : PT X (.Compare a [.In] [b] pos) (tDt X.K C W (bB (e2 inQ Fa Fb))) := d_tcmp op_in_seq inq2 ha hb hm
theorem t_ninq (ha : PE X a (tD X.K C W Fa)) (hb : PE X b (tD X.K C W Fb)) (hm : behindInMarks .NotIn b = false := by with_unfolding_all rfl) : PT X (.Compare a [.NotIn] [b] pos) (tDt X.K C W (bB (e2 ninQ Fa Fb))) := d_tcmp op_notIn_seq ninq2 ha hb hm
end
end DL

set_option maxHeartbeats 1000000
namespace DL
open PySem PySem.Spec PyProof.Rows L2
section
variable {X : Cx} {C : Cq} {W : WX} {o e a b : Expr} {es : List Expr} {pos apos cpos p : Pos} {F Fa Fb : EF} {G : AF} {st : Stmt}
@[simp] def shlF : D → D → Option D
  | .int i, .int j => if 0 ≤ j ∧ j ≤ 1000 ∧ i.natAbs < 2 ^ 64 then some (.int (i * 2 ^ j.toNat)) else none
  | _, _ => none
@[simp] def shrF : D → D → Option D
  | .int i, .int j => if 0 ≤ j then some (.int (i / 2 ^ j.toNat)) else none
  | _, _ => none
@[simp] def bandF : D → D → Option D
  | .int i, .int j => some (.int (Builtin.bitAnd i j))
  | _, _ => none
@[simp] def borF : D → D → Option D
  | .int i, .int j => some (.int (Builtin.bitOr i j))
  | _, _ => none
theorem d_shl (ha : PE X a (tD X.K C W Fa)) (hb : PE X b (tD X.K C W Fb)) : PE X (.BinOp a .LShift b pos) (tD X.K C W (e2 shlF Fa Fb)) :=
  d_op op_shl (i2 (g' := fun i j => .int (i * 2 ^ j.toNat)) (fun d e z h => by
    unfold shlF at h
    split at h
    · split at h
      · rename_i hh; cases h; exact ⟨_, _, rfl, rfl, ⟨hh.1, by omega, hh.2.2⟩, rfl⟩
      · cases h
    · cases h) fun _ _ _ => .int _) ha hb
theorem d_shr (ha : PE X a (tD X.K C W Fa)) (hb : PE X b (tD X.K C W Fb)) : PE X (.BinOp a .RShift b pos) (tD X.K C W (e2 shrF Fa Fb)) :=
  d_op op_shr (i2 (g' := fun i j => .int (i / 2 ^ j.toNat)) (fun d e z h => by
    unfold shrF at h
    split at h
    · split at h
      · cases h; exact ⟨_, _, rfl, rfl, by assumption, rfl⟩
      · cases h
    · cases h) fun _ _ _ => .int _) ha hb
theorem d_band (ha : PE X a (tD X.K C W Fa)) (hb : PE X b (tD X.K C W Fb)) : PE X (.BinOp a .BitAnd b pos) (tD X.K C W (e2 bandF Fa Fb)) :=
  d_op (rI_of0 op_and) (i2 (g' := fun i j => .int (Builtin.bitAnd i j)) (fun d e z h => by
    unfold bandF at h
    split at h
    · cases h; exact ⟨_, _, rfl, rfl, trivial, rfl⟩
    · cases h) fun _ _ _ => .int _) ha hb
theorem d_bor (ha : PE X a (tD X.K C W Fa)) (hb : PE X b (tD X.K C W Fb)) : PE X (.BinOp a .BitOr b pos) (tD X.K C W (e2 borF Fa Fb)) :=
  d_op (rI_of0 op_or) (i2 (g' := fun i j => .int (Builtin.bitOr i j)) (fun d e z h => by
    unfold borF at h
    split at h
    · cases h; exact ⟨_, _, rfl, rfl, trivial, rfl⟩
    · cases h) fun _ _ _ => .int _) ha hb
@[simp] def isNF : D → Option D
  | .obj _ => none
  | .non => some (.bl true)
  | _ => some (.bl false)
theorem isN_dr {K : PySem.W.Frag} {ba : Option Addr} {S : Hp} {v : V} {d z : D} (r : DR K ba S v d) (h : isNF d = some z) : z = .bl (decide (v = .non)) := by
  cases d <;> simp only [isNF, Option.some.injEq, reduceCtorEq] at h <;> subst h <;> cases r <;> rfl
@[simp] def truD : D → Option Bool
  | .non => some false
  | .bl k => some k
  | .int i => some (i != 0)
  | .str x => if x.length ≤ 100000 then some ((x.length : Int) != 0) else none
  | .lst ds => some (!ds.isEmpty)
  | .fl ds => some (!ds.isEmpty)
  | .tup ds => some (!ds.isEmpty)
  | _ => none
@[simp] def bT (F : EF) : BF := fun ρ b => (F ρ b).bind fun d b' => match truD d with
  | some k => .ok k b'
  | none => .stuck
theorem empty_dr {K : PySem.W.Frag} {ba : Option Addr} {S : Hp} {vs : List V} {ds : List D} (r : DRs K ba S vs ds) : vs.isEmpty = ds.isEmpty := by
  cases r <;> rfl
theorem tru_dr {K : PySem.W.Frag} {ba : Option Addr} {S H : Hp} {v : V} {d : D} {k : Bool} (r : DR K ba S v d) (sub : Same S H) (h : truD d = some k) : TruV K v H k := by
  cases r with
  | non => cases h; rfl
  | bl b => cases h; rfl
  | int i => cases h; rfl
  | str x =>
    simp only [truD] at h
    split at h
    · rename_i hl; cases h; exact ⟨big_le hl, rfl⟩
    · cases h
  | tup h1 h2 => cases h; exact .inr (.inl ⟨_, seqT sub h1, by rw [empty_dr h2]⟩)
  | lst h1 h2 => cases h; exact .inl ⟨_, SqL.of (sub _ _ h1), by rw [empty_dr h2]⟩
  | fl h1 h2 => cases h; exact .inl ⟨_, sub.seq h1, by rw [empty_dr h2]⟩
  | ins => cases h
  | obj => cases h
  | bag => cases h
  | dct h1 h2 h3 => cases h
  | dtp h1 h2 h3 => cases h
theorem d_truth (h : PE X e (tD X.K C W F)) (he : ∀ whole, isTrue e X.env whole = (do let v ← whole; standAt e.pos; holding [v] (truthy v)) := by intro _; rfl) : PT X e (tDt X.K C W (bT F)) := pt_imp (pt_truth h he) fun σ H Q ⟨S, ρ, b, ok, q⟩ => by
  refine ⟨S, ρ, b, ok, q.bind.imp fun d b1 S1 H1 s1 ok1 q1 v r => ?_⟩
  split at q1
  · rename_i k hk
    exact ⟨k, tru_dr r ok1.core.sub hk, q1 S1 H1 (Same.refl _) ok1⟩
  · exact q1.elim
def sumF : List D → Option D
  | [.lst ds] => (intsD ds).map fun is => .int is.sum
  | _ => none
theorem c_sum {K : PySem.W.Frag} : CallD K C (rSum K) sumF := by
  intro S ρ b σ H vs ds z Q ok rs hz q
  unfold sumF at hz
  split at hz
  · simp only [Option.map_eq_some_iff] at hz
    obtain ⟨is, h1, rfl⟩ := hz
    cases rs with
    | cons r1 r2 =>
      cases r2
      cases r1 with
      | lst g1 g2 =>
        have e := intsD_dr g2 h1
        subst e
        exact ⟨_, is, rfl, SqL.of (ok.core.sub _ _ g1), q _ S H (Same.refl _) ok (.int _)⟩
  · cases hz
theorem d_sum (hc : X.calm = true) (hg : Gl X "sum") (hm : X.mg "sum" = none) (ha : PA X [a] (tDA X.K C W G)) (he : starEach [a] X.env = (false, eval a X.env) :: starEach [] X.env := by rfl) (hpl : (backTo pos (starEach [] X.env)).any (·.1) = false := by rfl) :
    PE X (.Call (.Name "sum" p) [a] [] pos) (tD X.K C W (eB sumF G)) := d_callB (cr_sum hc) c_sum hg hm (by decide +kernel) ha (by decide) (by decide) he hpl
def anyF : List D → Option D
  | [.lst ds] => (truths ds).map fun ks => .bl (ks.any id)
  | _ => none
theorem c_any {K : PySem.W.Frag} : CallD K C (rAny K) anyF := by
  intro S ρ b σ H vs ds z Q ok rs hz q
  unfold anyF at hz
  split at hz
  · simp only [Option.map_eq_some_iff] at hz
    obtain ⟨ks, hk, rfl⟩ := hz
    cases rs with
    | cons r1 r2 =>
      cases r2
      cases r1 with
      | lst g1 g2 =>
        have e := truths_dr g2 hk
        subst e
        exact ⟨_, ks, rfl, SqL.of (ok.core.sub _ _ g1), q _ S H (Same.refl _) ok (.bl _)⟩
  · cases hz
theorem d_any' (hc : X.calm = true) (hg : Gl X "any") (hm : X.mg "any" = none) (ha : PA X [a] (tDA X.K C W G)) (he : starEach [a] X.env = (false, eval a X.env) :: starEach [] X.env := by rfl) (hpl : (backTo pos (starEach [] X.env)).any (·.1) = false := by rfl) :
    PE X (.Call (.Name "any" p) [a] [] pos) (tD X.K C W (eB anyF G)) := d_callB (cr_any hc) c_any hg hm (by decide +kernel) ha (by decide) (by decide) he hpl
def whileD (c : BF) (B : SF) : Nat → Env → Bag → SO
  | 0, _, _ => .stuck
  | n + 1, ρ, b => (c ρ b).st ρ fun k b1 => if k = true then (match B ρ b1 with
    | .nx ρ2 b2 => whileD c B n ρ2 b2
    | .ct ρ2 b2 => whileD c B n ρ2 b2
    | .bk ρ2 b2 => .nx ρ2 b2
    | .rt d b2 => .rt d b2
    | .ro d b2 => .ro d b2
    | .ex ρ2 c ns es => .ex ρ2 c ns es
    | .stuck => .stuck) else .nx ρ b1
def sWhile (n : Nat) (c : BF) (B : SF) : SF := fun ρ b => whileD c B n ρ b
theorem while_ok {K : PySem.W.Frag} {c : BF} {B : SF} {S1 : Hp} {E : Ends} {σ : L2.St} {H : Hp} {ρ : Env} {b : Bag} {n : Nat} (ok : OkS K C S1 ρ b σ H) (h : SOk K C W S1 E (whileD c B n ρ b)) : tWhile (tDt K C W c) (tDS K C W B) E σ H := by
  refine ⟨fun m σ H => ∃ S' ρ b, Same S1 S' ∧ OkS K C S' ρ b σ H ∧ SOk K C W S' E (whileD c B m ρ b), ⟨n, S1, ρ, b, Same.refl _, ok, h⟩, ?_⟩
  rintro m σ H ⟨S', ρ, b, e, ok, q⟩
  cases m with
  | zero => exact q.elim
  | succ m =>
    unfold whileD at q
    refine ⟨S', ρ, b, ok, q.st.imp fun k b1 S2 H2 e2 ok2 q2 => ?_⟩
    cases k with
    | false => exact q2 S2 σ H2 (Same.refl _) ok2
    | true =>
      rw [if_pos rfl]
      rw [if_pos rfl] at q2
      refine ⟨fun σ' H' => ∃ S' ρ b, Same S1 S' ∧ OkS K C S' ρ b σ' H' ∧ SOk K C W S' E (whileD c B m ρ b), fun σ' H' z => ⟨m, Nat.lt_succ_self _, z⟩, S2, ρ, b1, ok2, ?_⟩
      cases hB : B ρ b1 with
      | nx ρ2 b2 => rw [hB] at q2; exact fun S4 σ4 H4 e4 ok4 => ⟨S4, ρ2, b2, (e.trans e2).trans e4, ok4, SOk.up q2 e4⟩
      | ct ρ2 b2 => rw [hB] at q2; exact fun S4 σ4 H4 e4 ok4 => ⟨S4, ρ2, b2, (e.trans e2).trans e4, ok4, SOk.up q2 e4⟩
      | bk ρ2 b2 => rw [hB] at q2; exact q2
      | rt d b2 => rw [hB] at q2; exact q2
      | ro d b2 => rw [hB] at q2; exact q2
      | ex ρ2 c ns es => rw [hB] at q2; exact q2
      | stuck => rw [hB] at q2; exact q2.elim
theorem d_while {n : Nat} {c : BF} {B : SF} {test : Expr} {body : List Stmt} (hp : PassesOwn (model X.prog X.w) X.A X.env X.xe) (hc : PT X test (tDt X.K C W c)) (hb : PSs X body (tDS X.K C W B)) : PS X (.While test body [] pos) (tDS X.K C W (sWhile n c B)) :=
  ps_imp (ps_while hp hc hb) fun E σ H ⟨S, ρ, b, ok, q⟩ => while_ok ok q
/-- len(x) -/
@[simp] def eLenOw (i : Nat) : EF := fun ρ b => match ρ[i]? with
  | some (some (.ow (.lst ds))) => .ok (.int ds.length) b
  | some (some (.sh (.lst ds))) => .ok (.int ds.length) b
  | _ => .stuck
theorem d_lenOw {i : Nat} {x : Str} {px : Pos} (hg : Gl X "len") (hm : X.mg "len" = none) (hx : PE X (.Name x px) (tVar i)) (he : starEach [.Name x px] X.env = (false, eval (.Name x px) X.env) :: starEach [] X.env := by rfl) (hpl : (backTo pos (starEach [] X.env)).any (·.1) = false := by rfl) :
    PE X (.Call (.Name "len" p) [.Name x px] [] pos) (tD X.K C W (eLenOw i)) := pe_imp (pe_callB call_len hg hm PySem.boot_len (pa_cons hx pa_nil he) (by decide) (by decide) he hpl) fun σ H Q ⟨S, ρ, b, ok, q⟩ => by
  unfold eLenOw at q
  split at q
  · rename_i ds hr
    obtain ⟨pp, u, e1, hp, r, _⟩ := ok.getOw hr
    cases r with
    | lst r => exact ⟨_, e1, _, _, rfl, .inl ⟨_, SqL.of hp, r.length.symm⟩, q S H (Same.refl _) ok _ (.int _)⟩
  · rename_i ds hr
    obtain ⟨v, e1, r⟩ := ok.get hr
    cases r with
    | lst h1 h2 => exact ⟨_, e1, _, _, rfl, .inl ⟨_, SqL.of (ok.core.sub _ _ h1), h2.length.symm⟩, q S H (Same.refl _) ok _ (.int _)⟩
  · exact q.elim
/-- x[e] -/
@[simp] def eIxOw (i : Nat) (F : EF) : EF := fun ρ b => match ρ[i]? with
  | some (some (.ow (.lst ds))) => (F ρ b).bind fun d b1 => match d with
    | .int k => Out.pureO (atI ds k) b1
    | _ => .stuck
  | some (some (.sh (.lst ds))) => (F ρ b).bind fun d b1 => match d with
    | .int k => Out.pureO (atI ds k) b1
    | _ => .stuck
  | _ => .stuck
theorem d_ixOw {i : Nat} {x : Str} {px : Pos} (hx : PE X (.Name x px) (tVar i)) (hb : PE X b (tD X.K C W F)) (hs : PlainIx b) : PE X (.Subscript (.Name x px) b pos) (tD X.K C W (eIxOw i F)) := pe_imp (pe_ix ix_seq hx hb hs) fun σ H Q ⟨S, ρ, b0, ok, q⟩ => by
  unfold eIxOw at q
  split at q
  · rename_i ds hr
    obtain ⟨pp, u, e1, _⟩ := ok.getOw hr
    refine ⟨_, e1, S, ρ, b0, ok, q.bind.imp fun d b1 S1 H1 s1 ok1 q1 v rv => ?_⟩
    split at q1
    · rename_i k
      cases rv
      obtain ⟨z, hz, q2⟩ := q1.pureO
      obtain ⟨pp', u', e1', hp', r', _⟩ := ok1.getOw hr
      rw [e1] at e1'
      cases e1'
      cases r' with
      | lst r' =>
        obtain ⟨w, hw, rw'⟩ := r'.atI hz
        exact .inl ⟨_, _, k, w, rfl, rfl, SqL.of hp', hw, q2 S1 H1 (Same.refl _) ok1 w rw'⟩
    · exact q1.elim
  · rename_i ds hr
    obtain ⟨v, e1, r⟩ := ok.get hr
    refine ⟨_, e1, S, ρ, b0, ok, q.bind.imp fun d b1 S1 H1 s1 ok1 q1 v rv => ?_⟩
    split at q1
    · rename_i k
      cases rv
      obtain ⟨z, hz, q2⟩ := q1.pureO
      cases r with
      | lst h1 h2 =>
        obtain ⟨w, hw, rw'⟩ := h2.atI hz
        exact .inl ⟨_, _, k, w, rfl, rfl, SqL.of (ok1.core.sub _ _ (s1 _ _ h1)), hw, q2 S1 H1 (Same.refl _) ok1 w (rw'.up s1)⟩
    · exact q1.elim
  · exact q.elim
/-- e in x, e not in x -/
@[simp] def eInOw (neg : Bool) (i : Nat) (F : EF) : EF := fun ρ b => match ρ[i]? with
  | some (some (.ow (.lst ds))) => (F ρ b).bind fun d b1 => match flatD d, flatsD ds with
    | some y, some ys => .ok (.bl (if neg then !inV y ys else inV y ys)) b1
    | _, _ => .stuck
  | _ => .stuck
/-- x, as a test -/
@[simp] def bOw (i : Nat) : BF := fun ρ b => match ρ[i]? with
  | some (some (.ow (.lst ds))) => .ok (!ds.isEmpty) b
  | _ => .stuck
theorem t_ow {i : Nat} {x : Str} {px : Pos} (hx : PE X (.Name x px) (tVar i)) (he : ∀ whole, isTrue (.Name x px) X.env whole = (do let v ← whole; standAt (Expr.Name x px).pos; holding [v] (truthy v)) := by intro _; rfl) : PT X (.Name x px) (tDt X.K C W (bOw i)) := pt_imp (pt_truth hx he) fun σ H Q ⟨S, ρ, b, ok, q⟩ => by
  unfold bOw at q
  split at q
  · rename_i ds hr
    obtain ⟨pp, u, e1, hp, r, _⟩ := ok.getOw hr
    cases r with
    | lst r => exact ⟨_, e1, _, .inl ⟨_, SqL.of hp, rfl⟩, by rw [empty_dr r]; exact q S H (Same.refl _) ok⟩
  · exact q.elim
@[simp] def sPop (i j : Nat) : SF := fun ρ b => match ρ[i]? with
  | some (some (.ow (.lst ds))) => match ds[ds.length - 1]? with
    | some d => .nx ((ρ.set i (some (.ow (.lst ds.dropLast)))).set j (some (.sh d))) b
    | none => .stuck
  | _ => .stuck
theorem dropLast_dr {K : PySem.W.Frag} {ba : Option Addr} {S : Hp} {vs : List V} {ds : List D} (h : DRs K ba S vs ds) : DRs K ba S vs.dropLast ds.dropLast := by
  rw [List.dropLast_eq_take, List.dropLast_eq_take, h.length]
  exact h.take _
theorem d_pop {i j : Nat} (h : PS X st (tAsg (tBM0 X.K "list" rPop (tVar i)) (gName j))) : PS X st (tDS X.K C W (sPop i j)) := ps_imp h fun E σ H ⟨S, ρ, b, ok, q⟩ => by
  unfold sPop at q
  split at q
  · rename_i ds hr
    split at q
    · rename_i d hd
      obtain ⟨pp, u, e1, hp, r, _, _, _, wr, _⟩ := ok.getOw hr
      cases r with
      | @lst xs _ r =>
        obtain ⟨v, hv, rv⟩ := r.get hd
        refine ⟨_, e1, .inl ⟨rfl, _, SqL.of hp⟩, pp, xs, v, rfl, rfl, hp, by rw [r.length]; exact hv, ?_⟩
        exact q S _ _ (Same.refl _) ((wr _ _ (.lst (dropLast_dr r))).setSh rv)
    · exact q.elim
  · exact q.elim
/-- x, y = [..], e: x owned -/
def sOw1 (i j : Nat) (F1 F2 : EF) : SF := fun ρ b => (F1 ρ b).st ρ fun d1 b1 => match F2 (unown ρ) b1 with
  | .ok d2 b2 => .nx ((ρ.set i (some (.ow d1))).set j (some (.sh d2))) b2
  | _ => .stuck
/-- x, y = e, [..]: y owned -/
def sOw2 (i j : Nat) (F1 F2 : EF) : SF := fun ρ b => (F1 ρ b).st ρ fun d1 b1 => (F2 ρ b1).st ρ fun d2 b2 => .nx ((ρ.set i (some (.sh d1))).set j (some (.ow d2))) b2
theorem d_ow1 {i j : Nat} {F1 F2 : EF} (h : PS X st (tPar i j (tCons (tDF X.K C W F1) (tCons (tDin X.K F2) tNil)))) : PS X st (tDS X.K C W (sOw1 i j F1 F2)) := ps_imp h fun E σ H ⟨S, ρ, b, ok, q⟩ => by
  refine ⟨S, ρ, b, ok, outF_of (E := E) q fun d1 b1 S1 H1 p u e1 q1 of1 r1 => ?_⟩
  cases hF : F2 (unown ρ) b1 with
  | ok d2 b2 =>
    rw [hF] at q1
    refine ⟨inner C S1 H1, S1, unown ρ, b1, of1.ok.inner, ?_⟩
    rw [hF]
    intro S3 H3 e3 ok3 v3 r3
    have of3 := of1.frame ok3.core e3
    exact ⟨_, _, rfl, q1 S3 _ H3 e3 ((of3.setOw (r1.up e3)).setSh r3)⟩
  | ex c ns ds => rw [hF] at q1; exact q1.elim
  | stuck => rw [hF] at q1; exact q1.elim
theorem d_ow2 {i j : Nat} {F1 F2 : EF} (h : PS X st (tPar i j (tCons (tD X.K C W F1) (tCons (tDF X.K C W F2) tNil)))) : PS X st (tDS X.K C W (sOw2 i j F1 F2)) := ps_imp h fun E σ H ⟨S, ρ, b, ok, q⟩ => by
  refine ⟨S, ρ, b, ok, q.st.imp fun d1 b1 S1 H1 s1 ok1 q1 v1 r1 => ⟨S1, ρ, b1, ok1, outF_of (E := E) q1 fun d2 b2 S2 H2 p u e12 q2 of2 r2 => ?_⟩⟩
  exact ⟨_, _, rfl, q2 S2 _ H2 (Same.refl _) ((of2.setSh (r1.up e12)).setOw r2)⟩
end
end DL

set_option maxHeartbeats 1000000
namespace DL
open PySem PySem.Spec PyProof.Rows L2
@[simp] def keyD : D → Option Key
  | .int i => some (.inl i)
  | .str x => some (.inr x)
  | _ => none
def lookK : List Key → List D → Key → Option D
  | k :: ks, d :: ds, j => if k = j then some d else lookK ks ds j
  | _, _, _ => none
/-- the values behind a store of one that is there -/
def setK : List Key → List D → Key → D → List D
  | k :: ks, d :: ds, j, e => (if k = j then e else d) :: setK ks ds j e
  | _, ds, _, _ => ds
def putD (ks : List Key) (ds : List D) (j : Key) (e : D) : D := if ks.any (fun k => decide (k = j)) then .dct ks (setK ks ds j e) else .dct (ks ++ [j]) (ds ++ [e])
section
variable {K : PySem.W.Frag} {ba : Option Addr} {S S' H : Hp}
theorem key_dr {v : V} {d : D} {k : Key} (r : DR K ba S v d) (h : keyD d = some k) : v = kV k := by
  cases d <;> simp only [keyD, Option.some.injEq, reduceCtorEq] at h <;> subst h <;> cases r <;> rfl
theorem look_dr : ∀ {kvs : List (Key × V)} {ds : List D} {j : Key} {d : D}, DRs K ba S (kvs.map (·.2)) ds → lookK (kvs.map (·.1)) ds j = some d → ∃ v, valV kvs j = some v ∧ DR K ba S v d
  | [], _, _, _, _, h => by simp [lookK] at h
  | p :: kvs, [], _, _, r, h => by cases r
  | p :: kvs, e :: ds, j, d, r, h => by
    cases r with
    | cons r1 r2 =>
      unfold lookK at h
      rw [List.map_cons] at h
      by_cases hk : p.1 = j
      · simp only [hk, if_true] at h
        cases h
        exact ⟨p.2, valV_pos hk, r1⟩
      · simp only [hk, if_false] at h
        obtain ⟨v, h1, h2⟩ := look_dr r2 h
        exact ⟨v, by rw [valV_neg hk]; exact h1, h2⟩
theorem look_none : ∀ {kvs : List (Key × V)} {ds : List D} {j : Key}, DRs K ba S (kvs.map (·.2)) ds → ((valV kvs j).isSome = (kvs.map (·.1)).any (fun k => decide (k = j)))
  | [], _, _, _ => by simp [valV]
  | p :: kvs, [], _, r => by cases r
  | p :: kvs, e :: ds, j, r => by
    cases r with
    | cons r1 r2 =>
      by_cases hk : p.1 = j
      · rw [valV_pos hk]
        simp [hk]
      · rw [valV_neg hk, look_none r2]
        simp [hk]
theorem set_dr {j : Key} {v : V} {d : D} (rv : DR K ba S v d) : ∀ {kvs : List (Key × V)} {ds : List D}, DRs K ba S (kvs.map (·.2)) ds → DRs K ba S ((kvs.map (fun kv => if kv.1 = j then (kv.1, v) else kv)).map (·.2)) (setK (kvs.map (·.1)) ds j d)
  | [], _, r => by cases r; exact .nil
  | p :: kvs, [], r => by cases r
  | p :: kvs, e :: ds, r => by
    cases r with
    | cons r1 r2 =>
      simp only [List.map_cons, setK]
      by_cases hk : p.1 = j
      · simp only [hk, if_true]
        exact .cons rv (set_dr rv r2)
      · simp only [hk, if_false]
        exact .cons r1 (set_dr rv r2)
theorem put_dr {kvs : List (Key × V)} {ds : List D} {j : Key} {v : V} {d : D} (r : DRs K ba S (kvs.map (·.2)) ds) (rv : DR K ba S v d) : ODR K ba S (.dK (putK kvs j v)) (putD (kvs.map (·.1)) ds j d) := by
  unfold putK putD
  have e : (kvs.any fun kv => decide (kv.1 = j)) = (kvs.map (·.1)).any (fun k => decide (k = j)) := by rw [valV_any]; exact look_none r
  rw [e]
  by_cases h : (kvs.map (·.1)).any (fun k => decide (k = j)) = true
  · rw [if_pos h, if_pos h]
    refine .dct ?_ (set_dr rv r)
    rw [List.map_map]
    apply List.map_congr_left
    intro p _
    show (if p.1 = j then (p.1, v) else p).1 = p.1
    split <;> rfl
  · rw [if_neg h, if_neg h]
    refine .dct (by simp) ?_
    rw [List.map_append]
    exact r.app (.cons rv .nil)
end
section
variable {X : Cx} {C : Cq} {W : WX} {o e a b : Expr} {es : List Expr} {pos pos' apos cpos p : Pos} {F Fa Fb Fk Fv : EF} {G : AF} {st : Stmt}
/-- {} -/
@[simp] def eDnew : EF := fun _ b => .ok (.dct [] []) b
theorem d_dnew : PE X (.Dict [] [] pos) (tDF X.K C W eDnew) := pe_imp pe_dnewK fun σ H Q ⟨S, ρ, b, ok, q⟩ => fun p hp => q S _ p _ (Same.refl _) (ok.fresh hp) (.dct rfl .nil)
/-- x[k] = v, x owned -/
@[simp] def sDput (i : Nat) (Fk Fv : EF) : SF := fun ρ b => match ρ[i]? with
  | some (some (.ow (.dct ks ds))) => (Fv ρ b).st ρ fun d b1 => (Fk ρ b1).st ρ fun k b2 => match keyD k with
    | some j => if ks.length ≤ 100000 then .nx (ρ.set i (some (.ow (putD ks ds j d)))) b2 else .stuck
    | none => .stuck
  | _ => .stuck
theorem d_dput {i : Nat} {x : Str} {px : Pos} (hu : X.A.units + 1 < cLine) (hx : PE X (.Name x px) (tVar i)) (hk : PE X a (tD X.K C W Fk)) (hv : PE X e (tD X.K C W Fv)) (hs : swapsWith e (some (.Subscript (.Name x px) a pos')) pos.line X.env = pure false := by rfl) :
    PS X (.Assign [.Subscript (.Name x px) a pos'] e pos) (tDS X.K C W (sDput i Fk Fv)) := ps_imp (ps_dput hu hx hk hv hs) fun E σ H ⟨S, ρ, b, ok, q⟩ => by
  unfold sDput at q
  split at q
  · rename_i ks ds hr
    refine ⟨S, ρ, b, ok, q.st.imp fun d b1 S1 H1 s1 ok1 q1 v rv => ?_⟩
    obtain ⟨p1, u1, e1, hp1, r1, _⟩ := ok1.getOw hr
    refine ⟨_, e1, S1, ρ, b1, ok1, q1.st.imp fun k b2 S2 H2 s2 ok2 q2 w rw' => ?_⟩
    split at q2
    · rename_i j hj
      obtain ⟨p2, u2, e2, hp2, r2, _, _, _, wr, _⟩ := ok2.getOw hr
      rw [e1] at e2
      cases e2
      cases r2 with
      | @dct kvs _ _ g1 g2 =>
        split at q2
        · rename_i hl
          refine ⟨_, upd H2 p1 (.dK (putK kvs j v)), rfl, ?_, ?_⟩
          · rw [key_dr rw' hj]
            refine DPut.k hp2 (small_lt ?_)
            have := congrArg List.length g1
            rw [List.length_map] at this
            omega
          · subst g1
            exact q2 S2 σ _ (Same.refl _) (wr _ _ (put_dr g2 (rv.up s2)))
        · exact q2.elim
    · exact q2.elim
  · exact q.elim
/-- x[k], x owned -/
@[simp] def eDgOw (i : Nat) (F : EF) : EF := fun ρ b => match ρ[i]? with
  | some (some (.ow (.dct ks ds))) => (F ρ b).bind fun k b1 => match keyD k with
    | some j => Out.pureO (lookK ks ds j) b1
    | none => .stuck
  | _ => .stuck
theorem d_dgOw {i : Nat} {x : Str} {px : Pos} (hu : X.A.units + 1 < cLine) (hx : PE X (.Name x px) (tVar i)) (hb : PE X b (tD X.K C W F)) (hs : NoSl b) : PE X (.Subscript (.Name x px) b pos) (tD X.K C W (eDgOw i F)) := pe_imp (pe_dget hu hx hb hs) fun σ H Q ⟨S, ρ, b0, ok, q⟩ => by
  unfold eDgOw at q
  split at q
  · rename_i ks ds hr
    obtain ⟨pp, u, e1, _⟩ := ok.getOw hr
    refine ⟨_, e1, S, ρ, b0, ok, q.bind.imp fun d b1 S1 H1 s1 ok1 q1 v rv => ?_⟩
    split at q1
    · rename_i j hj
      obtain ⟨z, hz, q2⟩ := q1.pureO
      obtain ⟨pp', u', e1', hp', r', _⟩ := ok1.getOw hr
      rw [e1] at e1'
      cases e1'
      cases r' with
      | @dct kvs _ _ g1 g2 =>
        subst g1
        obtain ⟨w, hw, rw'⟩ := look_dr g2 hz
        refine ⟨_, w, rfl, ?_, q2 S1 H1 (Same.refl _) ok1 w rw'⟩
        rw [key_dr rv hj, ← hw]
        exact DGet.k hp'
    · exact q1.elim
  · exact q.elim
/-- d[k] -/
@[simp] def eDg (Fo F : EF) : EF := fun ρ b => (Fo ρ b).bind fun d b1 => match d with
  | .dct ks ds => (F ρ b1).bind fun k b2 => match keyD k with
    | some j => Out.pureO (lookK ks ds j) b2
    | none => .stuck
  | _ => .stuck
theorem d_dg (hu : X.A.units + 1 < cLine) (ho : PE X o (tD X.K C W Fa)) (hb : PE X b (tD X.K C W F)) (hs : NoSl b) : PE X (.Subscript o b pos) (tD X.K C W (eDg Fa F)) := pe_imp (pe_dget hu ho hb hs) fun σ H Q ⟨S, ρ, b0, ok, q⟩ => by
  refine ⟨S, ρ, b0, ok, q.bind.imp fun d b1 S1 H1 s1 ok1 q1 v rv => ?_⟩
  split at q1
  · rename_i ks ds
    refine ⟨S1, ρ, b1, ok1, q1.bind.imp fun k b2 S2 H2 s2 ok2 q2 w rw' => ?_⟩
    split at q2
    · rename_i j hj
      obtain ⟨z, hz, q3⟩ := q2.pureO
      cases rv with
      | @dct a od kvs _ _ h1 g1 g2 =>
        subst g1
        obtain ⟨y, hy, ry⟩ := look_dr g2 hz
        refine ⟨_, y, rfl, ?_, q3 S2 H2 (Same.refl _) ok2 y (ry.up s2)⟩
        rw [key_dr rw' hj, ← hy]
        exact .inl ⟨_, _, .inr ⟨od, (s2.trans ok2.core.sub) _ _ h1⟩, rfl, rfl⟩
    · exact q2.elim
  · exact q1.elim
end
end DL

set_option maxHeartbeats 2000000
namespace DL
open PySem PySem.Spec PyProof.Rows L2
def lc2D (g : GF) (Fi1 : AF) (vs1 : List Nat) (g1 : GF) (F : EF) : List D → Env → Bag → Out (List D)
  | [], _, b => .ok [] b
  | d :: ds, ρ, b => match g d ρ b with
    | none => .stuck
    | some z => ((Fi1 (unown z.1) z.2).noex).bind fun es b1 => (lcD g1 bYes F es (wipeE (unown z.1) vs1) b1).bind fun ys b2 => (lc2D g Fi1 vs1 g1 F ds ρ b2).bind fun zs b3 => .ok (ys ++ zs) b3
@[simp] def eLc2 (Fi : AF) (vs : List Nat) (g : GF) (Fi1 : AF) (vs1 : List Nat) (g1 : GF) (F : EF) : EF := fun ρ b => (Fi ρ b).bind fun ds b1 => (lc2D g Fi1 vs1 g1 F ds (wipeE (unown ρ) vs) b1).bind fun ys b2 => if ys.length ≤ 100000 then .ok (.lst ys) b2 else .stuck
def tDIany (K : PySem.W.Frag) (F : AF) : TI := fun σ H R => ∃ C, tDI K C W0 F σ H R
theorem d_iany2 {X : Cx} {tg it : Expr} {F : AF} (h : ∀ C, PI X tg it (tDI X.K C W0 F)) : PI X tg it (tDIany X.K F) := ⟨fun pins s σ H Q I ⟨C, q⟩ => (h C).run pins s σ H Q I q⟩
section
variable {X : Cx} {C : Cq} {W : WX} {e : Expr} {Fi Fi1 : AF} {g g1 : TG} {f f1 : GF} {F : EF} {vs vs1 : List Nat}
theorem lc2D_noex : ∀ {ds : List D} {ρ : Env} {b : Bag} {c : Addr} {ns : List Str} {es : List D}, lc2D f Fi1 vs1 f1 F ds ρ b ≠ .ex c ns es
  | [], _, _, _, _, _, h => by cases h
  | d :: ds, ρ, b, c, ns, es, h => by
    unfold lc2D at h
    split at h
    · cases h
    · rename_i z _
      cases hT : Fi1 (unown z.1) z.2 with
      | ex _ _ _ => rw [hT] at h; cases h
      | stuck => rw [hT] at h; cases h
      | ok k b1 =>
        rw [hT] at h
        have h : ((lcD f1 bYes F k (wipeE (unown z.1) vs1) b1).bind fun ys b2 => (lc2D f Fi1 vs1 f1 F ds ρ b2).bind fun zs b3 => .ok (ys ++ zs) b3) = Out.ex c ns es := h
        cases hL : lcD f1 bYes F k (wipeE (unown z.1) vs1) b1 with
        | ex _ _ _ => exact lcD_noex hL
        | stuck => rw [hL] at h; cases h
        | ok ys b2 =>
          rw [hL] at h
          have h : ((lc2D f Fi1 vs1 f1 F ds ρ b2).bind fun zs b3 => .ok (ys ++ zs) b3) = Out.ex c ns es := h
          cases hM : lc2D f Fi1 vs1 f1 F ds ρ b2 with
          | ex _ _ _ => exact lc2D_noex hM
          | stuck => rw [hM] at h; cases h
          | ok _ _ => rw [hM] at h; cases h
theorem Slots.flat {K : PySem.W.Frag} {ba : Option Addr} {S S' H H' : Hp} {σ : L2.St} {ρ : Env} (s : Slots K ba S H σ ρ []) (e : Same S S') : Slots K ba S' H' σ ρ [] := s.mono e fun p hp => by cases hp
theorem okS_in {K : PySem.W.Frag} {C : Cq} {S H : Hp} {b : Bag} {σ : L2.St} {ρ : Env} (c : Core C S b H) (s : Slots K C.ba S H σ ρ []) : OkS K (inner C S H) S ρ b σ H := ⟨c.inner, [], s, List.nodup_nil, fun _ h => by cases h⟩
theorem lc2_of (hT : CTg X.K g f vs) (hT1 : CTg X.K g1 f1 vs1) {σ : L2.St} {H : Hp} {Q : VK} (hh : tDF X.K C W (eLc2 Fi vs f Fi1 vs1 f1 F) σ H Q) :
    tLc2 (tDI X.K C W Fi) g (tDtany X.K bYes) (tDIany X.K Fi1) g1 (tDtany X.K bYes) (tDany X.K F) vs vs1 σ H Q := by
  obtain ⟨S, ρ, b, ok, q⟩ := hh
  refine ⟨S, ρ, b, ok, ?_⟩
  unfold eLc2 at q
  cases hF : Fi ρ b with
  | stuck => rw [hF] at q; exact q.elim
  | ex c ns ds => rw [hF] at q; exact q
  | ok ds b1 =>
    rw [hF] at q
    have q : OutF X.K C W S ρ σ Q ((lc2D f Fi1 vs1 f1 F ds (wipeE (unown ρ) vs) b1).bind fun ys b2 => if ys.length ≤ 100000 then .ok (.lst ys) b2 else .stuck) := q
    intro S1 H1 e1 ok1 J hJ Dd hD
    cases hL : lc2D f Fi1 vs1 f1 F ds (wipeE (unown ρ) vs) b1 with
    | stuck => rw [hL] at q; exact q.elim
    | ex c ns es => exact absurd hL lc2D_noex
    | ok ys b2 =>
      rw [hL] at q
      have q : OutF X.K C W S ρ σ Q (if ys.length ≤ 100000 then .ok (.lst ys) b2 else .stuck) := q
      by_cases hl : ys.length ≤ 100000
      · rw [if_pos hl] at q
        have q : ∀ S' H' p u, Same S S' → OkF X.K C S' ρ b2 σ H' p u → ODR X.K C.ba S' u (.lst ys) → Q (.ref p) H' := q
        refine ⟨fun i m H => m = ds.length - i ∧ i ≤ ds.length ∧ ∃ S' b xs pre rest, Same S1 S' ∧ OkF X.K C S' ρ b σ H Dd (.lst xs) ∧ DRs X.K C.ba S' xs pre ∧ lc2D f Fi1 vs1 f1 F (ds.drop i) (wipeE (unown ρ) vs) b = .ok rest b2 ∧ pre ++ rest = ys,
          ⟨ds.length, by simp, Nat.zero_le _, S1, b1, [], [], ys, Same.refl _, ok1.fresh hD, .nil, by simpa using hL, rfl⟩, ?_⟩
        rintro i m H ⟨rfl, hi, S', b', xs, pre, rest, e', of, rx, hr, hys⟩
        by_cases hlt : i < ds.length
        · have hd : ds[i]? = some ds[i] := List.getElem?_eq_getElem hlt
          have oks := of.ok
          obtain ⟨go, yl⟩ := (hJ C rfl i S' ρ b' σ H e' oks).1 _ hd
          rw [List.drop_eq_getElem_cons hlt] at hr
          unfold lc2D at hr
          refine .inr ⟨go, fun H => i + 1 ≤ ds.length ∧ ∃ S' b xs pre rest, Same S1 S' ∧ OkF X.K C S' ρ b σ H Dd (.lst xs) ∧ DRs X.K C.ba S' xs pre ∧ lc2D f Fi1 vs1 f1 F (ds.drop (i + 1)) (wipeE (unown ρ) vs) b = .ok rest b2 ∧ pre ++ rest = ys,
            fun H' n => ⟨ds.length - (i + 1), by omega, rfl, n.1, n.2⟩, fun x H' y => ?_⟩
          have okw : OkS X.K (inner C S' H) S' (wipeE (unown ρ) vs) b' (wipe σ vs) H := (oks.inner).wipe vs
          obtain ⟨_, yl2⟩ := (hJ (inner C S' H) rfl i S' _ b' _ H e' okw).1 _ hd
          obtain ⟨S2, e2, ok2, r2, k2⟩ := yl2 x H' y
          split at hr
          · cases hr
          · rename_i z hg
            refine hT (inner C S' H) S2 _ b' _ H' x _ z.1 z.2 _ ok2 r2 hg fun σ2 hw ok3 => ⟨by rw [hw]; exact wipe_idem, ?_⟩
            obtain ⟨es, b3, hk, hr⟩ := bind_ok hr
            obtain ⟨ys1, b4, hm, hr⟩ := bind_ok hr
            obtain ⟨zs, b5, hz, hr⟩ := bind_ok hr
            cases hr
            refine ⟨inner C S' H, S2, z.1, z.2, ok3, fun S4 H4 e4 ok4 => ?_⟩
            simp only [↓reduceIte]
            -- the inner walk, seen from within
            have sl4 : Slots X.K C.ba S4 H4 σ2 (unown z.1) [] := by
              obtain ⟨c4, O4, s4, w4⟩ := ok4
              exact s4.unown
            have oki : OkS X.K (inner C S' H) S4 (unown z.1) z.2 σ2 H4 := ⟨ok4.core, [], sl4, List.nodup_nil, fun _ h => by cases h⟩
            refine ⟨inner C S' H, S4, unown z.1, z.2, oki, noex_out hk fun S5 H5 e5 ok5 J1 hJ1 => ?_⟩
            have e25 : Same S' S5 := (e2.trans e4).trans e5
            obtain ⟨_, _, of5⟩ := of.push (y := x) ok5.core e25
            refine ⟨fun j k H => k = es.length - j ∧ j ≤ es.length ∧ ∃ S6 b6 xs6 pre6 rest6, Same S5 S6 ∧ OkF X.K C S6 ρ b6 σ H Dd (.lst xs6) ∧ DRs X.K C.ba S6 xs6 pre6 ∧ Slots X.K C.ba S6 H σ2 (unown z.1) [] ∧ lcD f1 bYes F (es.drop j) (wipeE (unown z.1) vs1) b6 = .ok rest6 b4 ∧ pre6 ++ rest6 = pre ++ ys1,
              ⟨es.length, by simp, Nat.zero_le _, S5, b3, xs, pre, ys1, Same.refl _, of5, rx.up e25, sl4.flat e5, by simpa using hm, rfl⟩, ?_⟩
            rintro j k H6 ⟨rfl, hj, S6, b6, xs6, pre6, rest6, e6, of6, rx6, sl6, hr6, hys6⟩
            by_cases hjl : j < es.length
            · have hdj : es[j]? = some es[j] := List.getElem?_eq_getElem hjl
              have ok6 := okS_in of6.ok.core sl6
              have okw6 : OkS X.K (inner C S6 H6) S6 (wipeE (unown z.1) vs1) b6 (wipe σ2 vs1) H6 := ok6.wipe vs1
              obtain ⟨go1, yl1⟩ := (hJ1 (inner C S6 H6) rfl j S6 _ b6 _ H6 e6 okw6).1 _ hdj
              rw [List.drop_eq_getElem_cons hjl] at hr6
              unfold lcD at hr6
              refine .inr ⟨go1, fun H => j + 1 ≤ es.length ∧ ∃ S6 b6 xs6 pre6 rest6, Same S5 S6 ∧ OkF X.K C S6 ρ b6 σ H Dd (.lst xs6) ∧ DRs X.K C.ba S6 xs6 pre6 ∧ Slots X.K C.ba S6 H σ2 (unown z.1) [] ∧ lcD f1 bYes F (es.drop (j + 1)) (wipeE (unown z.1) vs1) b6 = .ok rest6 b4 ∧ pre6 ++ rest6 = pre ++ ys1,
                fun H' n => ⟨es.length - (j + 1), by omega, rfl, n.1, n.2⟩, fun x7 H7 y7 => ?_⟩
              obtain ⟨S7, e7, ok7, r7, _⟩ := yl1 x7 H7 y7
              split at hr6
              · cases hr6
              · rename_i z7 hg7
                refine hT1 (inner C S6 H6) S7 _ b6 _ H7 x7 _ z7.1 z7.2 _ ok7 r7 hg7 fun σ3 hw3 ok8 => ⟨by rw [hw3]; exact wipe_idem, ?_⟩
                obtain ⟨k9, b9, hk9, hr6⟩ := bind_ok hr6
                have hk9 : (Out.ok true z7.2 : Out Bool) = .ok k9 b9 := hk9
                cases hk9
                rw [if_pos rfl] at hr6
                obtain ⟨y0, b10, hy, hr6⟩ := bind_ok hr6
                obtain ⟨ys', b11, hr7, hr8⟩ := bind_ok hr6
                cases hr8
                refine ⟨inner C S6 H6, S7, z7.1, z7.2, ok8, fun S9 H9 e9 ok9 => ?_⟩
                simp only [↓reduceIte]
                refine ⟨inner C S6 H6, S9, z7.1, z7.2, ok9, noex_out hy fun S10 H10 e10 ok10 v10 r10 => ?_⟩
                have e610 : Same S6 S10 := (e7.trans e9).trans e10
                obtain ⟨a1, a2, _⟩ := of6.push (y := v10) ok10.core e610
                have hlen : xs6.length < 100001 := by
                  have h1 := rx6.length
                  have h2 := congrArg List.length hys6
                  have h3 := congrArg List.length hys
                  simp only [List.length_append, List.length_cons] at h2 h3
                  omega
                refine ⟨xs6, a1, small_lt (by omega), hjl, S10, b10, xs6 ++ [v10], pre6 ++ [y0], ys', e6.trans e610, a2, (rx6.up e610).app (.cons r10 .nil), sl6.flat e610, hr7, ?_⟩
                rw [← hys6]
                simp
            · have ej : j = es.length := by omega
              subst ej
              rw [List.drop_length] at hr6
              cases hr6
              have ok6 := okS_in of6.ok.core sl6
              refine .inl ⟨(hJ1 (inner C S6 H6) rfl _ S6 _ b4 _ H6 e6 ok6).2 rfl, hlt, S6, b4, xs6, pre6, zs, ((e'.trans e25).trans e6), of6, rx6, hz, ?_⟩
              rw [List.append_nil] at hys6
              rw [← hys, hys6]
              simp
        · have e : i = ds.length := by omega
          subst e
          rw [List.drop_length] at hr
          cases hr
          refine .inl ⟨(hJ C rfl _ S' ρ _ σ H e' of.ok).2 rfl, ?_⟩
          rw [List.append_nil] at hys
          subst hys
          exact q S' H Dd _ (e1.trans e') of (.lst rx)
      · rw [if_neg hl] at q
        exact q.elim
theorem d_lc2 (hT : CTg X.K g f vs) (hT1 : CTg X.K g1 f1 vs1) (h : PE X e (tLc2 (tDI X.K C W Fi) g (tDtany X.K bYes) (tDIany X.K Fi1) g1 (tDtany X.K bYes) (tDany X.K F) vs vs1)) : PE X e (tDF X.K C W (eLc2 Fi vs f Fi1 vs1 f1 F)) := pe_imp h fun _ _ _ hh => lc2_of hT hT1 hh
end
end DL

set_option maxHeartbeats 1000000
namespace DL
open PySem PySem.Spec PyProof.Rows L2
section
variable {X : Cx} {C : Cq} {W : WX} {o e a b : Expr} {es : List Expr} {pos pos' p p2 : Pos} {F Fa Fb : EF} {G : AF}
/-- list(range(n)) -/
@[simp] def eLstRg (F : EF) : EF := fun ρ b => (F ρ b).bind fun d b1 => match d with
  | .int n => if 0 ≤ n ∧ n ≤ 100000 then .ok (.lst (rangeOf n)) b1 else .stuck
  | _ => .stuck
theorem rg_dr {K : PySem.W.Frag} {ba : Option Addr} {S : Hp} (n : Int) : DRs K ba S (rgV 0 n) (rangeOf n) := by
  unfold rgV rangeOf
  rw [Int.sub_zero]
  induction List.range n.toNat with
  | nil => exact .nil
  | cons k ks ih =>
    rw [List.map_cons, List.map_cons]
    refine .cons ?_ ih
    show DR K ba S (.int (0 + (k : Nat))) (.int (k : Int))
    rw [Int.zero_add]
    exact .int _
theorem d_listRg (hc : X.calm = true) (hg : Gl X "list") (hm : X.mg "list" = none) (hg2 : Gl X "range") (hm2 : X.mg "range" = none) (ha : PE X a (tD X.K C W F)) (na : starEach [a] X.env = (false, eval a X.env) :: starEach [] X.env := by rfl)
    (nb : starEach [.Call (.Name "range" p2) [a] [] pos'] X.env = (false, eval (.Call (.Name "range" p2) [a] [] pos') X.env) :: starEach [] X.env := by rfl) :
    PE X (.Call (.Name "list" p) [.Call (.Name "range" p2) [a] [] pos'] [] pos) (tDF X.K C W (eLstRg F)) := pe_imp (pe_listRg hc hg hm (prg_1 hg2 hm2 ha na) nb) fun σ H Q ⟨S, ρ, b, ok, q⟩ => by
  refine ⟨S, ρ, b, ok, ?_⟩
  unfold eLstRg at q
  cases hF : F ρ b with
  | stuck => rw [hF] at q; exact q.elim
  | ex c ns ds => rw [hF] at q; exact q
  | ok d b1 =>
    rw [hF] at q
    intro S1 H1 e1 ok1 v r
    cases d with
    | int n =>
      have q : OutF X.K C W S ρ σ Q (if 0 ≤ n ∧ n ≤ 100000 then .ok (.lst (rangeOf n)) b1 else .stuck) := q
      by_cases h : 0 ≤ n ∧ n ≤ 100000
      · rw [if_pos h] at q
        cases r
        exact ⟨n, rfl, RgOk.of_le (by omega) (by omega) (by omega) h.1, fun p hp => q S1 _ p _ e1 (ok1.fresh hp) (.lst (rg_dr n))⟩
      · rw [if_neg h] at q; exact q.elim
    | _ => exact q.elim
/-- list(xs) of a list or a tuple -/
@[simp] def anyL : List D → Option (List D)
  | [.lst ds] => some ds
  | [.fl ds] => some ds
  | [.tup ds] => some ds
  | [.dct ks _] => some (ks.map fun k => match k with | .inl i => .int i | .inr x => .str x)
  | _ => none
end
end DL

set_option maxHeartbeats 2000000
namespace DL
open PySem PySem.Spec PyProof.Rows L2
def ownB (M : Addr) : Addr → Option Bool := fun A => if A = M then some false else none
def ownM (M : Addr) : Addr → Option Bool := fun A => if A = M then some true else none
def kitM (n : String) : Option Bool := if n = "NoneType" ∨ n = "bool" ∨ n = "int" ∨ n = "str" ∨ n = "tuple" ∨ n = "list" then some false else none
def pick {α : Type} (perm : List Nat) (xs : List α) : List α := perm.filterMap fun i => xs[i]?
theorem pick_dr {K : PySem.W.Frag} {ba : Option Addr} {S : Hp} {vs : List V} {ds : List D} (h : DRs K ba S vs ds) : ∀ perm : List Nat, DRs K ba S (pick perm vs) (pick perm ds)
  | [] => .nil
  | i :: perm => by
    unfold pick
    rw [List.filterMap_cons, List.filterMap_cons]
    cases hd : ds[i]? with
    | none =>
      have : vs[i]? = none := by
        rw [List.getElem?_eq_none_iff] at hd ⊢
        rw [h.length]; exact hd
      rw [this]
      exact pick_dr h perm
    | some d =>
      obtain ⟨v, hv, r⟩ := h.get hd
      rw [hv]
      exact .cons r (pick_dr h perm)
end DL

set_option maxHeartbeats 2000000
namespace DL
open PySem PySem.Spec PyProof.Rows L2
/-- zip(x, tuple), x a text, a tuple: each letter and item in a new pair -/
def ItzST (K : PySem.W.Frag) (x : Str) (a : Addr) : It :=
  ⟨fun i H => i < x.cps.size ∧ ∃ (ys : List V) (y : V), SqT K H a ys ∧ ys[i]? = some y, fun i H v H' => ∃ T c y, v = .ref T ∧ H T = none ∧ H' = upd H T (.tup [.str ⟨#[c]⟩, y]) ∧ x.cps[i]? = some c ∧ ∀ ys, SqT K H a ys → ys[i]? = some y, fun i H => ∃ ys : List V, SqT K H a ys ∧ i = min x.cps.size ys.length⟩
theorem turn_zipST {P : Program} {w : World} {K : PySem.W.Frag} {elts : List Expr} {kk : Nat} {tpos : Pos} {x : Str} {t : Tok} {a z TI TO i1 i2 : Addr} (S : ZipSep2 z TI TO i1 i2 [i1] [i2, a]) (hne : a ≠ i2) :
    Turn P w K (.Tuple elts kk tpos) (ItzST K x a) [z, TI, TO, i1, i2] z (fun i h => IsZip h z TI TO .none ∧ IsTupOf2 h TI (.ref i1) (.ref i2) ∧ (∃ a1 a2, IsTupOf2 h TO a1 a2) ∧ h.IsStrIter i1 (strIterType x) x t i ∧ h.IsTupleIter i2 a i) where
  mem := by simp
  obj := fun i h st c hc => by
    obtain ⟨hz, hTI, ⟨a1, a2, hTO⟩, ⟨o1, e1, _, d1⟩, ⟨o2, e2, _, d2⟩⟩ := st
    rcases (show c = z ∨ c = TI ∨ c = TO ∨ c = i1 ∨ c = i2 by simpa using hc) with q | q | q | q | q
    · rw [q]; exact ⟨_, hz, fun v y => by cases y⟩
    · rw [q]; exact ⟨_, hTI, fun v y => by cases y⟩
    · rw [q]; exact ⟨_, hTO, fun v y => by cases y⟩
    · rw [q]; exact ⟨o1, e1, fun v y => by rw [d1] at y; cases y⟩
    · rw [q]; exact ⟨o2, e2, fun v y => by rw [d2] at y; cases y⟩
  keep := fun i h h' st k => by
    obtain ⟨hz, hTI, ⟨a1, a2, hTO⟩, ⟨o1, e1, r1⟩, h2⟩ := st
    exact ⟨k z (by simp) _ hz, k TI (by simp) _ hTI, ⟨a1, a2, k TO (by simp) _ hTO⟩, ⟨o1, k i1 (by simp) _ e1, r1⟩, h2.at fun o q => k i2 (by simp) o q⟩
  item := by
    intro X hP hw hK hc i pins s σ H E I hf st hg
    subst hP hw hK
    have hh : X.A.in1.handled = none := I.ok.hd hc
    obtain ⟨hxi, ys, y, hqy, hy⟩ := hg
    obtain ⟨its, rv, p0, _⟩ := I.tuple hqy
    have p := p0
    obtain ⟨u, hu, ru⟩ := rv.get hy
    have G := GoesN.zip2 (elts := elts) (x1 := kk) (pos := tpos) S (Draws.text (prog := X.prog) (w := X.w) (A := X.A.in1) hh i1 x t) (Draws.tuple (prog := X.prog) (w := X.w) (A := X.A.in1) hh i2 a hne its.toArray)
    have alive : ∀ b ∈ [z, TI, TO, i1, i2], b < s.heap.objs.size := fun b hb => by
      obtain ⟨hz, hTI, ⟨a1, a2, hTO⟩, ⟨o1, e1, _, d1⟩, ⟨o2, e2, _, d2⟩⟩ := st
      rcases (show b = z ∨ b = TI ∨ b = TO ∨ b = i1 ∨ b = i2 by simpa using hb) with q | q | q | q | q
      · rw [q]; exact Heap.lt_size hz
      · rw [q]; exact Heap.lt_size hTI
      · rw [q]; exact Heap.lt_size hTO
      · rw [q]; exact Heap.lt_size e1
      · rw [q]; exact Heap.lt_size e2
    have hil : i < its.length := (List.getElem?_eq_some_iff.mp hu).1
    obtain ⟨s1, s2, s3, s4, s5⟩ := st
    have st' : IsZip s.heap z TI TO .none ∧ IsTupOf2 s.heap TI (.ref i1) (.ref i2) ∧ (∃ a1 a2, IsTupOf2 s.heap TO a1 a2) ∧ s.heap.IsStrIter i1 (strIterType x) x t i ∧ (s.heap.IsTupleIter i2 a i ∧ s.heap.IsTuple a its.toArray) := ⟨s1, s2, s3, s4, s5, p⟩
    refine wpAny_mono (G.goes i s (fun v s2 => ∃ w H', Inv X pins σ H' s2 ∧ RelV w v ∧ (ItzST X.K x a).yld i H w H' ∧ (IsZip s2.heap z TI TO .none ∧ IsTupOf2 s2.heap TI (.ref i1) (.ref i2) ∧ (∃ a1 a2, IsTupOf2 s2.heap TO a1 a2) ∧ s2.heap.IsStrIter i1 (strIterType x) x t (i + 1) ∧ s2.heap.IsTupleIter i2 a (i + 1)) ∧ ∀ b ∈ [z, TI, TO, i1, i2], H' b = none) E (by simp; omega) st' fun v h' tk hY hst hk _ => ?_)
      (fun r s1 h1 => h1) fun _ _ q => q
    obtain ⟨T, v1, v2, rfl, hT, ⟨c, t1, hc1, rfl⟩, hv2, hTup⟩ := hY
    have ev : v2 = u := by
      have hv' : its[i]? = some v2 := by simpa using hv2
      rw [hu] at hv'
      exact (Option.some.inj hv').symm
    subst ev
    have new : ObjOk X.prog X.w (upd H T (.tup [.str ⟨#[c]⟩, y])) h' T (.tup [.str ⟨#[c]⟩, y]) :=
      ⟨by show 2 ≤ sizeLine; decide, [.str ⟨#[c]⟩ t1, v2], .cons ⟨t1, rfl⟩ (.cons ru .nil), hTup⟩
    have J := I.turnedNew (t' := tk) (ch := [z, TI, TO, i1, i2]) (fun b o hb q => hk b o (fun m => hb (by
      rcases (show b = z ∨ b = TO ∨ b = i1 ∨ b = i2 by simpa using m) with y | y | y | y <;> simp [y])) q) hf hT new
    refine ⟨.ref T, _, J, rfl, ⟨T, c, y, rfl, I.hok.fresh hT, rfl, hc1, fun zs hzs => by rw [I.tuple_inj hzs hqy]; exact hy⟩, ⟨hst.1, hst.2.1, hst.2.2.1, hst.2.2.2.1, hst.2.2.2.2.1⟩, fun b hb => ?_⟩
    rw [upd_ne (Nat.ne_of_lt (Nat.lt_of_lt_of_le (alive b hb) hT))]
    exact (hf b hb).1
  done := by
    intro X hP hw hK hc i pins s σ H E I hf st hg
    subst hP hw hK
    have hh : X.A.in1.handled = none := I.ok.hd hc
    obtain ⟨ys, hqy, hi⟩ := hg
    obtain ⟨its, rv, p0, _⟩ := I.tuple hqy
    have p := p0
    have G := GoesN.zip2 (elts := elts) (x1 := kk) (pos := tpos) S (Draws.text (prog := X.prog) (w := X.w) (A := X.A.in1) hh i1 x t) (Draws.tuple (prog := X.prog) (w := X.w) (A := X.A.in1) hh i2 a hne its.toArray)
    have hi : i = min x.cps.size its.toArray.size := by
      have hl := rv.length
      have h2 : its.toArray.size = its.length := by simp
      rw [h2, ← hl]
      exact hi
    subst hi
    obtain ⟨s1, s2, s3, s4, s5⟩ := st
    exact G.stops s (fun s1 => Inv X pins σ H s1) E ⟨s1, s2, s3, s4, s5, p⟩ fun h' tk hk _ => I.turnedL (t' := tk) (ch := [z, TI, TO, i1, i2]) (fun b o hb q => hk b o (fun m => hb (by
      rcases (show b = z ∨ b = TO ∨ b = i1 ∨ b = i2 by simpa using m) with y | y | y | y <;> simp [y])) q) hf
  self := fun A i s Q E st h => wpAny_pyIter_zip st.1 h
/-- zip(x, list), x a text, a list: each letter and item in a new pair -/
def ItzSL (K : PySem.W.Frag) (x : Str) (a : Addr) : It :=
  ⟨fun i H => i < x.cps.size ∧ ∃ (ys : List V) (y : V), SqL K H a ys ∧ ys[i]? = some y, fun i H v H' => ∃ T c y, v = .ref T ∧ H T = none ∧ H' = upd H T (.tup [.str ⟨#[c]⟩, y]) ∧ x.cps[i]? = some c ∧ ∀ ys, SqL K H a ys → ys[i]? = some y, fun i H => ∃ ys : List V, SqL K H a ys ∧ i = min x.cps.size ys.length⟩
theorem turn_zipSL {P : Program} {w : World} {K : PySem.W.Frag} {elts : List Expr} {kk : Nat} {tpos : Pos} {x : Str} {t : Tok} {a z TI TO i1 i2 : Addr} (S : ZipSep2 z TI TO i1 i2 [i1] [i2, a]) (hne : a ≠ i2) :
    Turn P w K (.Tuple elts kk tpos) (ItzSL K x a) [z, TI, TO, i1, i2] z (fun i h => IsZip h z TI TO .none ∧ IsTupOf2 h TI (.ref i1) (.ref i2) ∧ (∃ a1 a2, IsTupOf2 h TO a1 a2) ∧ h.IsStrIter i1 (strIterType x) x t i ∧ h.IsListIter i2 a i) where
  mem := by simp
  obj := fun i h st c hc => by
    obtain ⟨hz, hTI, ⟨a1, a2, hTO⟩, ⟨o1, e1, _, d1⟩, ⟨o2, e2, _, d2⟩⟩ := st
    rcases (show c = z ∨ c = TI ∨ c = TO ∨ c = i1 ∨ c = i2 by simpa using hc) with q | q | q | q | q
    · rw [q]; exact ⟨_, hz, fun v y => by cases y⟩
    · rw [q]; exact ⟨_, hTI, fun v y => by cases y⟩
    · rw [q]; exact ⟨_, hTO, fun v y => by cases y⟩
    · rw [q]; exact ⟨o1, e1, fun v y => by rw [d1] at y; cases y⟩
    · rw [q]; exact ⟨o2, e2, fun v y => by rw [d2] at y; cases y⟩
  keep := fun i h h' st k => by
    obtain ⟨hz, hTI, ⟨a1, a2, hTO⟩, ⟨o1, e1, r1⟩, h2⟩ := st
    exact ⟨k z (by simp) _ hz, k TI (by simp) _ hTI, ⟨a1, a2, k TO (by simp) _ hTO⟩, ⟨o1, k i1 (by simp) _ e1, r1⟩, h2.at fun o q => k i2 (by simp) o q⟩
  item := by
    intro X hP hw hK hc i pins s σ H E I hf st hg
    subst hP hw hK
    have hh : X.A.in1.handled = none := I.ok.hd hc
    obtain ⟨hxi, ys, y, hqy, hy⟩ := hg
    obtain ⟨its, rv, p0, _⟩ := I.list hqy
    have p := p0.isList
    obtain ⟨u, hu, ru⟩ := rv.get hy
    have G := GoesN.zip2 (elts := elts) (x1 := kk) (pos := tpos) S (Draws.text (prog := X.prog) (w := X.w) (A := X.A.in1) hh i1 x t) (Draws.list (prog := X.prog) (w := X.w) (A := X.A.in1) hh i2 a hne its.toArray)
    have alive : ∀ b ∈ [z, TI, TO, i1, i2], b < s.heap.objs.size := fun b hb => by
      obtain ⟨hz, hTI, ⟨a1, a2, hTO⟩, ⟨o1, e1, _, d1⟩, ⟨o2, e2, _, d2⟩⟩ := st
      rcases (show b = z ∨ b = TI ∨ b = TO ∨ b = i1 ∨ b = i2 by simpa using hb) with q | q | q | q | q
      · rw [q]; exact Heap.lt_size hz
      · rw [q]; exact Heap.lt_size hTI
      · rw [q]; exact Heap.lt_size hTO
      · rw [q]; exact Heap.lt_size e1
      · rw [q]; exact Heap.lt_size e2
    have hil : i < its.length := (List.getElem?_eq_some_iff.mp hu).1
    obtain ⟨s1, s2, s3, s4, s5⟩ := st
    have st' : IsZip s.heap z TI TO .none ∧ IsTupOf2 s.heap TI (.ref i1) (.ref i2) ∧ (∃ a1 a2, IsTupOf2 s.heap TO a1 a2) ∧ s.heap.IsStrIter i1 (strIterType x) x t i ∧ (s.heap.IsListIter i2 a i ∧ s.heap.IsList a its.toArray) := ⟨s1, s2, s3, s4, s5, p⟩
    refine wpAny_mono (G.goes i s (fun v s2 => ∃ w H', Inv X pins σ H' s2 ∧ RelV w v ∧ (ItzSL X.K x a).yld i H w H' ∧ (IsZip s2.heap z TI TO .none ∧ IsTupOf2 s2.heap TI (.ref i1) (.ref i2) ∧ (∃ a1 a2, IsTupOf2 s2.heap TO a1 a2) ∧ s2.heap.IsStrIter i1 (strIterType x) x t (i + 1) ∧ s2.heap.IsListIter i2 a (i + 1)) ∧ ∀ b ∈ [z, TI, TO, i1, i2], H' b = none) E (by simp; omega) st' fun v h' tk hY hst hk _ => ?_)
      (fun r s1 h1 => h1) fun _ _ q => q
    obtain ⟨T, v1, v2, rfl, hT, ⟨c, t1, hc1, rfl⟩, hv2, hTup⟩ := hY
    have ev : v2 = u := by
      have hv' : its[i]? = some v2 := by simpa using hv2
      rw [hu] at hv'
      exact (Option.some.inj hv').symm
    subst ev
    have new : ObjOk X.prog X.w (upd H T (.tup [.str ⟨#[c]⟩, y])) h' T (.tup [.str ⟨#[c]⟩, y]) :=
      ⟨by show 2 ≤ sizeLine; decide, [.str ⟨#[c]⟩ t1, v2], .cons ⟨t1, rfl⟩ (.cons ru .nil), hTup⟩
    have J := I.turnedNew (t' := tk) (ch := [z, TI, TO, i1, i2]) (fun b o hb q => hk b o (fun m => hb (by
      rcases (show b = z ∨ b = TO ∨ b = i1 ∨ b = i2 by simpa using m) with y | y | y | y <;> simp [y])) q) hf hT new
    refine ⟨.ref T, _, J, rfl, ⟨T, c, y, rfl, I.hok.fresh hT, rfl, hc1, fun zs hzs => by rw [I.list_inj hzs hqy]; exact hy⟩, ⟨hst.1, hst.2.1, hst.2.2.1, hst.2.2.2.1, hst.2.2.2.2.1⟩, fun b hb => ?_⟩
    rw [upd_ne (Nat.ne_of_lt (Nat.lt_of_lt_of_le (alive b hb) hT))]
    exact (hf b hb).1
  done := by
    intro X hP hw hK hc i pins s σ H E I hf st hg
    subst hP hw hK
    have hh : X.A.in1.handled = none := I.ok.hd hc
    obtain ⟨ys, hqy, hi⟩ := hg
    obtain ⟨its, rv, p0, _⟩ := I.list hqy
    have p := p0.isList
    have G := GoesN.zip2 (elts := elts) (x1 := kk) (pos := tpos) S (Draws.text (prog := X.prog) (w := X.w) (A := X.A.in1) hh i1 x t) (Draws.list (prog := X.prog) (w := X.w) (A := X.A.in1) hh i2 a hne its.toArray)
    have hi : i = min x.cps.size its.toArray.size := by
      have hl := rv.length
      have h2 : its.toArray.size = its.length := by simp
      rw [h2, ← hl]
      exact hi
    subst hi
    obtain ⟨s1, s2, s3, s4, s5⟩ := st
    exact G.stops s (fun s1 => Inv X pins σ H s1) E ⟨s1, s2, s3, s4, s5, p⟩ fun h' tk hk _ => I.turnedL (t' := tk) (ch := [z, TI, TO, i1, i2]) (fun b o hb q => hk b o (fun m => hb (by
      rcases (show b = z ∨ b = TO ∨ b = i1 ∨ b = i2 by simpa using m) with y | y | y | y <;> simp [y])) q) hf
  self := fun A i s Q E st h => wpAny_pyIter_zip st.1 h
def iZipSX (K : PySem.W.Frag) (ta : TA) : TI := fun σ H R => ta σ H fun vs H1 => ∃ x a ys, vs = [.str x, .ref a] ∧ ((SqT K H1 a ys ∧ R (ItzST K x a) H1) ∨ (SqL K H1 a ys ∧ R (ItzSL K x a) H1))
theorem pi_zipSX {X : Cx} {e e2 : Expr} {ta : TA} {p pos tpos : Pos} {elts : List Expr} {kk : Nat} (hg : Gl X "zip") (hm : X.mg "zip" = none) (ha : PA X [e, e2] ta)
    (hs : starEach [e, e2] X.env = (false, eval e X.env) :: starEach [e2] X.env := by rfl) (hpl : (backTo pos (starEach [e2] X.env)).any (·.1) = false := by rfl) :
    PI X (.Tuple elts kk tpos) (.Call (.Name "zip" p) [e, e2] [] pos) (iZipSX X.K ta) := ⟨fun pins s σ H R I h => by
  refine Call_ (ld_blt I hg hm PyProof.Rows.boot_zip (PyProof.Rows.callWith_type1 (thn (ha.run pos pins s σ H _ I h) fun us s1 w => ?_) hs hpl))
  obtain ⟨vs, H1, J, r, x, a, ys, rfl, q⟩ := w
  cases r with
  | cons r rr =>
    cases rr with
    | cons r' rr =>
      cases rr
      obtain ⟨t, rfl⟩ := r
      cases r'
      have fresh5 : ∀ b, b ∈ [s1.heap.objs.size + 4, s1.heap.objs.size + 2, s1.heap.objs.size + 3, s1.heap.objs.size, s1.heap.objs.size + 1] → FpOk X pins H1 b := fun b hb => by
        have le : s1.heap.objs.size ≤ b := by
          rcases (show b = s1.heap.objs.size + 4 ∨ b = s1.heap.objs.size + 2 ∨ b = s1.heap.objs.size + 3 ∨ b = s1.heap.objs.size ∨ b = s1.heap.objs.size + 1 by simpa using hb) with w | w | w | w | w
          · rw [w]; exact Nat.le_add_right _ _
          · rw [w]; exact Nat.le_add_right _ _
          · rw [w]; exact Nat.le_add_right _ _
          · rw [w]; exact Nat.le_refl _
          · rw [w]; exact Nat.le_add_right _ _
        exact J.fpOk le (J.hok.fresh le)
      rcases q with ⟨hq, q⟩ | ⟨hq, q⟩
      · obtain ⟨its, rv, p, _⟩ := J.tuple hq
        have hal : a < s1.heap.objs.size := by obtain ⟨o, e, _⟩ := p; exact Heap.lt_size e
        refine zip_begins2 (begins_text x t) (begins_tuple a its.toArray) trivial p fun h' hz hTI hTO h1 h2 hsz hk => wpAny_pyIter_zip hz ?_
        exact ⟨s1.heap.objs.size + 4, [s1.heap.objs.size + 4, s1.heap.objs.size + 2, s1.heap.objs.size + 3, s1.heap.objs.size, s1.heap.objs.size + 1], _, _, H1, rfl, J.kept (t' := s1.toks) hk,
          turn_zipST (x := x) (t := t) (zip_sep2 (fp1 := []) (fp2 := [a]) (by simp) (by simpa using hal)) (Nat.ne_of_lt (Nat.lt_succ_of_lt hal)), ⟨hz, hTI, ⟨_, _, hTO⟩, ⟨_, h1, rfl, rfl⟩, ⟨_, h2, rfl, rfl⟩⟩, fresh5, q⟩
      · obtain ⟨its, rv, p0, _⟩ := J.list hq
        have p := p0.isList
        have hal : a < s1.heap.objs.size := by obtain ⟨o, e, _⟩ := p; exact Heap.lt_size e
        refine zip_begins2 (begins_text x t) (begins_list a its.toArray) trivial p fun h' hz hTI hTO h1 h2 hsz hk => wpAny_pyIter_zip hz ?_
        exact ⟨s1.heap.objs.size + 4, [s1.heap.objs.size + 4, s1.heap.objs.size + 2, s1.heap.objs.size + 3, s1.heap.objs.size, s1.heap.objs.size + 1], _, _, H1, rfl, J.kept (t' := s1.toks) hk,
          turn_zipSL (x := x) (t := t) (zip_sep2 (fp1 := []) (fp2 := [a]) (by simp) (by simpa using hal)) (Nat.ne_of_lt (Nat.lt_succ_of_lt hal)), ⟨hz, hTI, ⟨_, _, hTO⟩, ⟨_, h1, rfl, rfl⟩, ⟨_, h2, rfl, rfl⟩⟩, fresh5, q⟩⟩
end DL

set_option maxHeartbeats 1000000
namespace DL
open PySem PySem.Spec PyProof.Rows L2
section
variable {X : Cx} {C : Cq} {W : WX} {o e a b c : Expr} {es : List Expr} {pos pos' apos cpos p : Pos} {F Fa Fb Fk Fv : EF} {G : AF} {st : Stmt}
def aZipX (G : AF) : AF := fun ρ b => (G ρ b).bind fun ds b' => match ds with
  | [.str x, .tup ys] => .ok (zipOf (signsOf x) ys) b'
  | [.str x, .lst ys] => .ok (zipOf (signsOf x) ys) b'
  | _ => .stuck
theorem zip_get {x : Str} {ds : List D} {i : Nat} {c : Nat} {e : D} (hc : x.cps[i]? = some c) (he : ds[i]? = some e) : (zipOf (signsOf x) ds)[i]? = some (.tup [.str ⟨#[c]⟩, e]) := by
  unfold zipOf signsOf
  rw [List.getElem?_zipWith, List.getElem?_map, Array.getElem?_toList, hc, he]
  rfl
theorem zip_lenX {x : Str} {ds : List D} : (zipOf (signsOf x) ds).length = min x.cps.size ds.length := by simp [zipOf, signsOf]
theorem itST {K : PySem.W.Frag} {ba : Option Addr} {S : Hp} {x : Str} {l : Addr} {ys : List V} {ds : List D} (h : S l = some (.tup ys)) (r : DRs K ba S ys ds) : ItD K ba (ItzST K x l) (zipOf (signsOf x) ds) S := fun C hC i S' ρ b σ H e ok => by
  subst hC
  have hS : SqT K H l ys := seqT (e.trans ok.core.sub) h
  refine ⟨fun d hd => ?_, fun hl => ⟨ys, hS, by rw [r.length, ← zip_lenX]; exact hl.symm⟩⟩
  have hi : i < min x.cps.size ds.length := by rw [← zip_lenX]; exact (List.getElem?_eq_some_iff.mp hd).1
  have hds : ds[i]? = some ds[i] := List.getElem?_eq_getElem (by omega)
  obtain ⟨v, hv, rv⟩ := r.get hds
  refine ⟨⟨by omega, ys, v, hS, hv⟩, fun w H' wy => ?_⟩
  obtain ⟨T, k, y, rfl, hT, rfl, hk, hy⟩ := wy
  have hy := hy ys hS
  rw [hv] at hy
  cases hy
  rw [zip_get hk hds] at hd
  cases hd
  obtain ⟨p1, p2, p3⟩ := pair_of ok hT (.str ⟨#[k]⟩) (rv.up e)
  exact ⟨_, p1, p2, p3, keep_upd hT⟩
theorem itSL {K : PySem.W.Frag} {ba : Option Addr} {S : Hp} {x : Str} {l : Addr} {ys : List V} {ds : List D} (h : SqL K S l ys) (r : DRs K ba S ys ds) : ItD K ba (ItzSL K x l) (zipOf (signsOf x) ds) S := fun C hC i S' ρ b σ H e ok => by
  subst hC
  have hS : SqL K H l ys := (e.trans ok.core.sub).seq h
  refine ⟨fun d hd => ?_, fun hl => ⟨ys, hS, by rw [r.length, ← zip_lenX]; exact hl.symm⟩⟩
  have hi : i < min x.cps.size ds.length := by rw [← zip_lenX]; exact (List.getElem?_eq_some_iff.mp hd).1
  have hds : ds[i]? = some ds[i] := List.getElem?_eq_getElem (by omega)
  obtain ⟨v, hv, rv⟩ := r.get hds
  refine ⟨⟨by omega, ys, v, hS, hv⟩, fun w H' wy => ?_⟩
  obtain ⟨T, k, y, rfl, hT, rfl, hk, hy⟩ := wy
  have hy := hy ys hS
  rw [hv] at hy
  cases hy
  rw [zip_get hk hds] at hd
  cases hd
  obtain ⟨p1, p2, p3⟩ := pair_of ok hT (.str ⟨#[k]⟩) (rv.up e)
  exact ⟨_, p1, p2, p3, keep_upd hT⟩
theorem d_izipX {elts : List Expr} {kk : Nat} {p tpos : Pos} (hg : Gl X "zip") (hm : X.mg "zip" = none) (ha : PA X [a, b] (tDA X.K C W G)) (hs : starEach [a, b] X.env = (false, eval a X.env) :: starEach [b] X.env := by rfl) (hpl : (backTo pos (starEach [b] X.env)).any (·.1) = false := by rfl) :
    PI X (.Tuple elts kk tpos) (.Call (.Name "zip" p) [a, b] [] pos) (tDI X.K C W (aZipX G)) := pi_imp (pi_zipSX hg hm ha hs hpl) fun σ H R ⟨S, ρ, b, ok, q⟩ => by
  refine ⟨S, ρ, b, ok, q.bind.imp fun ds b1 S1 H1 s1 ok1 q1 vs r => ?_⟩
  split at q1
  · cases r with
    | cons r1 r2 =>
      cases r2 with
      | cons r2 r3 =>
        cases r3; cases r1
        cases r2 with
        | tup h1 h2 => exact ⟨_, _, _, rfl, .inl ⟨seqT ok1.core.sub h1, q1 S1 H1 (Same.refl _) ok1 _ (itST h1 h2)⟩⟩
  · cases r with
    | cons r1 r2 =>
      cases r2 with
      | cons r2 r3 =>
        cases r3; cases r1
        cases r2 with
        | lst h1 h2 => exact ⟨_, _, _, rfl, .inr ⟨SqL.of (ok1.core.sub _ _ h1), q1 S1 H1 (Same.refl _) ok1 _ (itSL (SqL.of h1) h2)⟩⟩
  · exact q1.elim
def eDone (Fk Fv : EF) : EF := fun ρ b => match Fk (unown ρ) b with
  | .ok k b1 => match Fv (unown ρ) b1 with
    | .ok v b2 => match keyD k with
      | some j => .ok (.dct [j] [v]) b2
      | none => .stuck
    | _ => .stuck
  | _ => .stuck
theorem d_done (hk : ∀ C, PE X a (tD X.K C W0 Fk)) (hv : ∀ C, PE X e (tD X.K C W0 Fv)) : PE X (.Dict [some a] [e] pos) (tDF X.K C W (eDone Fk Fv)) := pe_imp (pe_disp (pps_cons (d_in3 hk) (d_in3 hv) pps_nil) rfl rfl (by simp) (by show 1 ≤ 15; decide)) fun σ H Q ⟨S, ρ, b, ok, q⟩ => by
  intro p hp
  have of := ok.fresh (u := .dK []) hp
  unfold eDone at q
  cases hF : Fk (unown ρ) b with
  | stuck => rw [hF] at q; exact q.elim
  | ex c ns ds => rw [hF] at q; exact q.elim
  | ok k b1 =>
    rw [hF] at q
    dsimp only at q
    cases hV : Fv (unown ρ) b1 with
    | stuck => rw [hV] at q; exact q.elim
    | ex c ns ds => rw [hV] at q; exact q.elim
    | ok v b2 =>
      rw [hV] at q
      dsimp only at q
      cases hj : keyD k with
      | none => rw [hj] at q; exact q.elim
      | some j =>
        rw [hj] at q
        refine ⟨inner C S (upd H p (.dK [])), S, unown ρ, b, of.ok.inner, ?_⟩
        rw [hF]
        intro S2 H2 e2 ok2 y ry
        refine ⟨inner C S (upd H p (.dK [])), S2, unown ρ, b1, ok2, ?_⟩
        rw [hV]
        intro S3 H3 e3 ok3 w rw'
        have of3 := of.frame ok3.core (e2.trans e3)
        have := key_dr ry hj
        subst this
        refine ⟨of3.at_, [(j, w)], rfl, by show 1 ≤ 15; decide, ?_⟩
        have em : mergeK [] [(j, w)] = [(j, w)] := rfl
        rw [em]
        exact q S3 _ p _ (e2.trans e3) (of3.setU (u' := .dK [(j, w)])) (.dct rfl (.cons rw' .nil))
@[simp] def eInDOw (neg : Bool) (i : Nat) (F : EF) : EF := fun ρ b => match ρ[i]? with
  | some (some (.ow (.dct ks ds))) => (F ρ b).bind fun k b1 => match keyD k with
    | some j => .ok (.bl (if neg then !(ks.any fun k => decide (k = j)) else ks.any fun k => decide (k = j))) b1
    | none => .stuck
  | _ => .stuck
theorem inDOw_of {K : PySem.W.Frag} {neg : Bool} {i : Nat} {σ : L2.St} {H : Hp} {Q : VK} (h : tD K C W (eInDOw neg i F) σ H Q) : (tD K C W F) σ H fun y H1 => (tVar i) σ H1 fun x H2 => ∃ a o, x = .ref a ∧ DGet H2 a y o ∧ Q (.bl (if neg then !o.isSome else o.isSome)) H2 := by
  obtain ⟨S, ρ, b0, ok, q⟩ := h
  unfold eInDOw at q
  split at q
  · rename_i ks ds hr
    refine ⟨S, ρ, b0, ok, q.bind.imp fun d b1 S1 H1 s1 ok1 q1 v rv => ?_⟩
    split at q1
    · rename_i j hj
      obtain ⟨pp', u', e1', hp', r', _⟩ := ok1.getOw hr
      cases r' with
      | @dct kvs _ _ g1 g2 =>
        subst g1
        refine ⟨_, e1', pp', valV kvs j, rfl, ?_, ?_⟩
        · rw [key_dr rv hj]
          exact DGet.k hp'
        · rw [look_none g2]
          exact q1 S1 H1 (Same.refl _) ok1 _ (.bl _)
    · exact q1.elim
  · exact q.elim
theorem t_ninDOw {i : Nat} {x : Str} {px : Pos} (hu : X.A.units + 1 < cLine) (ha : PE X a (tD X.K C W F)) (hx : PE X (.Name x px) (tVar i)) : PT X (.Compare a [.NotIn] [.Name x px] pos) (tDt X.K C W (bB (eInDOw true i F))) :=
  pt_imp (pt_cmp (pc_dnotin hu ha hx)) fun _ _ _ h => inDOw_of (neg := true) (tTest_of h)
@[simp] def sAug (i : Nat) (F : EF) : SF := fun ρ b => match ρ[i]? with
  | some (some (.sh (.int k))) => (F ρ b).st ρ fun d b1 => match d with
    | .int j => .nx (ρ.set i (some (.sh (.int (k + j))))) b1
    | _ => .stuck
  | _ => .stuck
theorem d_aug {i : Nat} (h : PS X st (tAug i (tD X.K C W F) (ipI fun i j => i + j))) : PS X st (tDS X.K C W (sAug i F)) := ps_imp h fun E σ H ⟨S, ρ, b, ok, q⟩ => by
  unfold sAug at q
  split at q
  · rename_i k hr
    obtain ⟨v, hv, rv⟩ := ok.get hr
    cases rv
    refine ⟨_, hv, S, ρ, b, ok, q.st.imp fun d b1 S1 H1 s1 ok1 q1 w rw' => ?_⟩
    split at q1
    · cases rw'
      exact ⟨_, _, rfl, rfl, q1 S1 _ H1 (Same.refl _) (ok1.setSh (.int _))⟩
    · exact q1.elim
  · exact q.elim
@[simp] def eLstD (F : EF) : EF := fun ρ b => (F ρ b).bind fun d b1 => match d with
  | .dct ks _ => .ok (.lst (ks.map fun k => match k with | .inl i => .int i | .inr x => .str x)) b1
  | _ => .stuck
end
end DL

set_option maxHeartbeats 1000000
namespace DL
open PySem PySem.Spec PyProof.Rows L2
@[simp] def isN2 (d e : D) : Option D := match e with
  | .non => isNF d
  | _ => none
@[simp] def notN2 (d e : D) : Option D := match e with
  | .non => (match isNF d with
    | some (.bl k) => some (.bl (!k))
    | _ => none)
  | _ => none
theorem isN2_op {K : PySem.W.Frag} {C : Cq} : Op2 K C (fun x y H Q => y = .non ∧ Q (.bl (decide (x = .non))) H) isN2 := by
  intro S ρ b σ H v w d e z Q ok r1 r2 hz q
  unfold isN2 at hz
  split at hz
  · have := isN_dr r1 hz
    subst this
    cases r2
    exact ⟨rfl, q _ S H (Same.refl _) ok (.bl _)⟩
  · cases hz
@[simp] def ninF : D → D → Option D
  | .str x, .str z => match x.cps.toList with
    | [c] => some (.bl (!decide (c ∈ z.cps.toList)))
    | _ => none
  | _, _ => none
section
variable {X : Cx} {C : Cq} {W : WX} {a b : Expr} {pos : Pos} {Fa Fb : EF}
theorem d_isn (ha : PE X a (tD X.K C W Fa)) (hb : PE X b (tD X.K C W Fb)) : PE X (.Compare a [.Is] [b] pos) (tD X.K C W (e2 isN2 Fa Fb)) := d_cmp op_isN isN2_op ha hb (nomark _)
end
end DL

set_option maxHeartbeats 1000000
namespace DL
open PySem PySem.Spec PyProof.Rows L2
@[simp] def putP : D → D → Option D
  | .dct ks ds, .tup [k, e] => match keyD k with
    | some j => some (putD ks ds j e)
    | none => none
  | _, _ => none
@[simp] def dictP : D → List D → Option D
  | acc, [] => some acc
  | acc, d :: ds => match putP acc d with
    | some a => dictP a ds
    | none => none
@[simp] def eDictP (F : EF) : EF := fun ρ b => (F ρ b).bind fun d b1 => match d with
  | .lst ds => (match dictP (.dct [] []) ds with
    | some z => .ok z b1
    | none => .stuck)
  | _ => .stuck
section
variable {X : Cx} {C : Cq} {W : WX} {a : Expr} {pos p : Pos} {F : EF}
/-- two lists one behind the other, as a fresh list -/
@[simp] def eCat (Fa Fb : EF) : EF := fun ρ b => (Fa ρ b).bind fun x b1 => (Fb ρ b1).bind fun y b2 => match x, y with
  | .lst xs, .lst ys => if xs.length + ys.length ≤ 100000 then .ok (.lst (xs ++ ys)) b2 else .stuck
  | _, _ => .stuck
@[simp] def listOf : D → Option (List D)
  | .str x => if x.length ≤ 100000 then some (signsOf x) else none
  | d => seqD d
@[simp] def eListS (F : EF) : EF := fun ρ b => (F ρ b).bind fun d b1 => match listOf d with
  | some ds => .ok (.lst ds) b1
  | none => .stuck
end
end DL

set_option maxHeartbeats 2000000
namespace DL
open PySem PySem.Spec PyProof.Rows L2
def G_is_letters (M : Addr) : SF := (sSeq (sIf (bOr (bNot (bB (eB (isiF (.ty "str") (fun n => kitB n "str") (ownB M)) (aCons (eV 0) (aCons (eC (.obj (.ty "str"))) aNil))))) (bNot (bB (e3 leF leF (eC (.int 1)) (eB lenF (aCons (eV 0) aNil)) (eC (.int 3)))))) (sRet (eC (.bl false))) sNil) (sSeq (sAsg (eB allF (aCons (eLc (aAny (eV 0)) [2] (gN 2) bYes (e2 inF (eV 2) (eC (.str "abcdefghijklmnopqrstuvwxyz")))) aNil)) (gN 1)) (sRet (eAnd (eV 1) (eB allF (aCons (eLc (aZipS (aCons (eV 0) (aCons (eSl (eV 0) (oSome (eC (.int 1))) oNo) aNil))) [3, 4] (gT 2 (gsC (gN 3) (gsC (gN 4) gsN))) bYes (e2 ltF (eV 3) (eV 4))) aNil))))))
def F_is_letters (M : Addr) : DFn := runD 5 1 (G_is_letters M)
def G_is_number (M : Addr) : SF := (sRet (eAnd (eB (isiF (.ty "int") (fun n => kitB n "int") (ownB M)) (aCons (eV 0) (aCons (eC (.obj (.ty "int"))) aNil))) (eAnd (eNot (eB (isiF (.ty "bool") (fun n => kitB n "bool") (ownB M)) (aCons (eV 0) (aCons (eC (.obj (.ty "bool"))) aNil)))) (e3 leF leF (eC (.int 0)) (eV 0) (eV 1)))))
def F_is_number (M : Addr) : DFn := runD 2 2 (G_is_number M)
def G_is_state (M : Addr) : SF := (sSeq (sIf (bOr (bNot (bB (eB (isiF (.ty "tuple") (fun n => kitB n "tuple") (ownB M)) (aCons (eV 0) (aCons (eC (.obj (.ty "tuple"))) aNil))))) (bB (e2 neF (eB lenF (aCons (eV 0) aNil)) (eC (.int 2))))) (sRet (eC (.bl false))) sNil) (sSeq (sAsg (eV 0) (gT 2 (gsC (gN 3) (gsC (gN 4) gsN)))) (sSeq (sIf (bOr (bNot (bB (eCall (F_is_number M) (aCons (eV 3) (aCons (eC (.int 6)) aNil))))) (bOr (bNot (bB (eB (isiF (.ty "tuple") (fun n => kitB n "tuple") (ownB M)) (aCons (eV 4) (aCons (eC (.obj (.ty "tuple"))) aNil))))) (bB (e2 neF (eB lenF (aCons (eV 4) aNil)) (eV 1))))) (sRet (eC (.bl false))) sNil) (sRet (eB allF (aCons (eLc (aAny (eV 4)) [5] (gN 5) bYes (eCall (F_is_number M) (aCons (eV 5) (aCons (e2 subF (eV 2) (eC (.int 1))) aNil)))) aNil))))))
def F_is_state (M : Addr) : DFn := runD 6 3 (G_is_state M)
def G_first_wrong_state (M : Addr) : SF := (sSeq (sFor (aEnumT (aCons (eV 1) aNil)) (gT 2 (gsC (gN 2) (gsC (gN 3) gsN))) (sIf (bOr (bB (e2 eqF (eV 2) (eC (.int 6)))) (bNot (bB (eCall (F_is_state M) (aCons (eV 3) (aCons (eB lenF (aCons (eV 0) aNil)) (aCons (eB lenF (aCons (eV 1) aNil)) aNil))))))) (sRet (eV 2)) sNil)) (sRet (e1 negF (eC (.int 1)))))
def F_first_wrong_state (M : Addr) : DFn := runD 4 2 (G_first_wrong_state M)
def G_Machine_init (M y : Addr) : IF := (iSeq y (sIf (bNot (bB (eCall (F_is_letters M) (aCons (eV 1) aNil)))) sNever sNil) (iSeq y (sIf (bOr (bNot (bB (eB (isiF (.ty "tuple") (fun n => kitB n "tuple") (ownB M)) (aCons (eV 2) (aCons (eC (.obj (.ty "tuple"))) aNil))))) (bB (e2 eqF (eB lenF (aCons (eV 2) aNil)) (eC (.int 0))))) sNever sNil) (iSeq y (sAsg (eCall (F_first_wrong_state M) (aCons (eV 1) (aCons (eV 2) aNil))) (gN 3)) (iSeq y (sIf (bB (e2 geF (eV 3) (eC (.int 0)))) sNever sNil) (iSt "_letters" (eV 1) (iSt "_states" (eV 2) iNil))))))
def Fx_Machine (M : Addr) : Addr → List D → Bag → IO := initF 4 3 (G_Machine_init M)
/-- what is made, for right letters and states -/
def Fm_Machine (M : Addr) : List D → Bag → IO := fun ds b => match ds with
  | [l, .tup ss] => (match F_is_letters M [l] b with
    | .ok (.bl true) b1 => if ss.length = 0 then .stuck else (match F_first_wrong_state M [l, .tup ss] b1 with
      | .ok (.int i) b2 => if 0 ≤ i then .stuck else .ok (["_letters", "_states"], [l, .tup ss]) b2
      | _ => .stuck)
    | _ => .stuck)
  | _ => .stuck
theorem isi_tup (M : Addr) (ds : List D) : isiF (.ty "tuple") (fun n => kitB n "tuple") (ownB M) [.tup ds, .obj (.ty "tuple")] = some (.bl true) := by kernel_rfl
theorem fm_ok (M y : Addr) (ds : List D) (b : Bag) : Fm_Machine M ds b = .stuck ∨ Fx_Machine M y ds b = Fm_Machine M ds b := by
  unfold Fm_Machine
  split
  · rename_i l ss
    split
    · rename_i b1 h1
      by_cases hs : ss.length = 0
      · left; rw [if_pos hs]
      · rw [if_neg hs]
        split
        · rename_i i b2 h2
          by_cases hi : 0 ≤ i
          · left; rw [if_pos hi]
          · right
            have e0 : isMe y [some (.sh (.obj (.ref y))), some (.sh l), some (.sh (.tup ss)), none] = true := by simp [isMe]
            have e1 : isMe y [some (.sh (.obj (.ref y))), some (.sh l), some (.sh (.tup ss)), some (.sh (.int i))] = true := by simp [isMe]
            rw [if_neg hi]
            unfold Fx_Machine initF G_Machine_init
            have h0 : ¬ ((ss.length : Int) = 0) := by omega
            have hn : ¬ ("_states" : Str) = "_letters" := by decide
            simp [iSeq, iSt, iNil, h1, isi_tup, h2, hi, e0, e1, hs, h0, hn]
        · left; rfl
    · left; rfl
  · left; rfl
def G_check_machine (M : Addr) : SF := (sIf (bNot (bB (eB (isiF (.ref M) kitM (ownM M)) (aCons (eV 0) (aCons (eC (.obj (.ref M))) aNil))))) sNever sNil)
def F_check_machine (M : Addr) : DFn := runD 1 1 (G_check_machine M)
def G_Machine_len_ (M : Addr) : SF := (sRet (eB lenF (aCons (e1 (fldF M "_states") (eV 0)) aNil)))
def F_Machine_len_ (M : Addr) : DFn := runD 1 1 (G_Machine_len_ M)
end DL

set_option maxHeartbeats 2000000

set_option maxHeartbeats 2000000
namespace DL
open PySem PySem.Spec PyProof.Rows L2
def G_arrows_of (M : Addr) : SF := (sRet (eLc (aAny (e1 (fldF M "_states") (eV 0))) [1] (gN 1) bYes (eIx (eV 1) (eC (.int 1)))))
def F_arrows_of (M : Addr) : DFn := runD 2 1 (G_arrows_of M)
def G_colours_of (M : Addr) : SF := (sRet (eLc (aAny (e1 (fldF M "_states") (eV 0))) [1] (gN 1) bYes (eIx (eV 1) (eC (.int 0)))))
def F_colours_of (M : Addr) : DFn := runD 2 1 (G_colours_of M)
def G_bits_ahead : SF := (sSeq (sOwn eDnew 2) (sSeq (sFor (aAny (eV 1)) (gN 3) (sDput 2 (eV 3) (eB sumF (aCons (eLc (aAny (eV 1)) [5] (gN 5) (bB (e2 inQ (eV 5) (eIx (eV 0) (eV 3)))) (e2 shlF (eC (.int 1)) (eV 5))) aNil)))) (sSeq (sFor (aAny (eV 1)) (gN 4) (sFor (aAny (eV 1)) (gN 3) (sIf (bT (e2 bandF (e2 shrF (eDgOw 2 (eV 3)) (eV 4)) (eC (.int 1)))) (sDput 2 (eV 3) (e2 borF (eDgOw 2 (eV 3)) (eDgOw 2 (eV 4)))) sNil))) (sFreeze 2 (sRet (eV 2))))))
def F_bits_ahead : DFn := runD 6 2 (G_bits_ahead)
def G_greatest_loops : SF := (sSeq (sAsg (eCall (F_bits_ahead) (aCons (eV 0) (aCons (eV 1) aNil))) (gN 2)) (sSeq (sOwn (eLst aNil) 3) (sSeq (sFor (aAny (eV 1)) (gN 4) (sSeq (sAsg (eLc (aAny (eV 1)) [6] (gN 6) (bT (e2 bandF (e2 bandF (e2 shrF (eDg (eV 2) (eV 4)) (eV 6)) (e2 shrF (eDg (eV 2) (eV 6)) (eV 4))) (eC (.int 1)))) (eV 6)) (gN 5)) (sIf (bAnd (bT (eV 5)) (bB (e2 eqF (eIx (eV 5) (eC (.int 0))) (eV 4)))) (sPush 3 (eV 5)) sNil))) (sFreeze 3 (sRet (eV 3))))))
def F_greatest_loops : DFn := runD 7 2 (G_greatest_loops)
def G_without_wrong_top : SF := (sSeq (sFor (aAny (eV 1)) (gT 2 (gsC (gN 2) (gsC (gN 3) gsN))) (sSeq (sAsg (eB maxLF (aCons (eLc (aAny (eV 0)) [5] (gN 5) bYes (eIx (eV 2) (eV 5))) aNil)) (gN 4)) (sIf (bB (e2 neF (e2 modF (eV 4) (eC (.int 2))) (eV 3))) (sRet (eLc (aAny (eV 0)) [5] (gN 5) (bB (e2 ltF (eIx (eV 2) (eV 5)) (eV 4))) (eV 5))) sNil))) (sRet (eV 0)))
def F_without_wrong_top : DFn := runD 6 2 (G_without_wrong_top)
def G_loops_as_asked : SF := (sSeq (sOwn (eLst aNil) 3) (sSeq (sOwn (eLst (aCons (eV 1) aNil)) 4) (sSeq (sWhile 100000 (bOw 4) (sSeq (sPop 4 5) (sFor (aAny (eCall (F_greatest_loops) (aCons (eV 0) (aCons (eV 5) aNil)))) (gN 6) (sSeq (sAsg (eCall (F_without_wrong_top) (aCons (eV 6) (aCons (eV 2) aNil))) (gN 7)) (sIf (bB (e2 eqF (eB lenF (aCons (eV 7) aNil)) (eB lenF (aCons (eV 6) aNil)))) (sPush 3 (eV 6)) (sPush 4 (eV 7))))))) (sFreeze 3 (sRet (eV 3))))))
def F_loops_as_asked : DFn := runD 8 3 (G_loops_as_asked)
def G_leading_to : SF := (sSeq (sAsg (eLc (aRng (aCons (eB lenF (aCons (eV 0) aNil)) aNil)) [4] (gN 4) bYes (e2 inQ (eV 4) (eV 1))) (gN 2)) (sSeq (sFor (aAny (eV 0)) (gN 3) (sAsg (eLc (aRng (aCons (eB lenF (aCons (eV 0) aNil)) aNil)) [4] (gN 4) bYes (eOr (eIx (eV 2) (eV 4)) (eB anyF (aCons (eLc (aAny (eIx (eV 0) (eV 4))) [5] (gN 5) bYes (eIx (eV 2) (eV 5))) aNil)))) (gN 2))) (sRet (eLc (aRng (aCons (eB lenF (aCons (eV 0) aNil)) aNil)) [4] (gN 4) (bB (eIx (eV 2) (eV 4))) (eV 4)))))
def F_leading_to : DFn := runD 6 2 (G_leading_to)
def G_leading_to_loops (M : Addr) : SF := (sSeq (sAsg (eCall (F_arrows_of M) (aCons (eV 0) aNil)) (gN 2)) (sSeq (sAsg (eCall (F_loops_as_asked) (aCons (eV 2) (aCons (eLstRg (eLenO M (F_Machine_len_ M) (aCons (eV 0) aNil))) (aCons (eLst (aCons (eTup (aCons (eCall (F_colours_of M) (aCons (eV 0) aNil)) (aCons (eV 1) aNil))) aNil)) aNil)))) (gN 3)) (sRet (eCall (F_leading_to) (aCons (eV 2) (aCons (eLc2 (aAny (eV 3)) [4, 5] (gN 4) (aAny (eV 4)) [5] (gN 5) (eV 5)) aNil))))))
def F_leading_to_loops (M : Addr) : DFn := runD 6 2 (G_leading_to_loops M)
def G_live (M : Addr) : SF := (sSeq (sDrop (eCall (F_check_machine M) (aCons (eV 0) aNil))) (sRet (eB tupleF (aCons (eCall (F_leading_to_loops M) (aCons (eV 0) (aCons (eC (.int 0)) aNil))) aNil))))
def F_live (M : Addr) : DFn := runD 1 1 (G_live M)
end DL

set_option maxHeartbeats 2000000

set_option maxHeartbeats 2000000

set_option maxHeartbeats 2000000
namespace DL
open PySem PySem.Spec PyProof.Rows L2
def G_words_from : SF := (sSeq (sOwn (eDone (eV 2) (eC (.str ""))) 4) (sSeq (sOwn (eLst (aCons (eV 2) aNil)) 5) (sSeq (sAsg (eC (.int 0)) (gN 6)) (sSeq (sWhile 100000 (bB (e2 ltF (eV 6) (eLenOw 5))) (sSeq (sAsg (eIxOw 5 (eV 6)) (gN 7)) (sSeq (sAsg (eIx (eV 1) (eV 7)) (gN 8)) (sSeq (sFor (aZipX (aCons (eV 0) (aCons (eV 8) aNil))) (gT 2 (gsC (gN 9) (gsC (gN 10) gsN))) (sIf (bAnd (bB (e2 inQ (eV 10) (eV 3))) (bB (eInDOw true 4 (eV 10)))) (sSeq (sDput 4 (eV 10) (e2 addF (eDgOw 4 (eV 7)) (eV 9))) (sPush 5 (eV 10))) sNil)) (sAug 6 (eC (.int 1))))))) (sFreeze 4 (sRet (eV 4)))))))
def F_words_from : DFn := runD 11 4 (G_words_from)
end DL

set_option maxHeartbeats 2000000
namespace DL
open PySem PySem.Spec PyProof.Rows L2
def G__law_draw : SF := (sSeq (sPar2 2 3 (aCons (eIx (eV 0) (eC (.int 1))) (aCons (e2 addF (e2 modF (eB intF (aCons (eIx (eV 0) (eC (.int 1))) aNil)) (eC (.int 40009))) (eC (.int 20021))) aNil))) (sSeq (sAsg (e2 addF (eIx (eV 0) (eC (.int 2))) (eC (.int 1))) (gBag 0 2)) (sSeq (sAsg (e2 modF (eB intF (aCons (e2 addF (e2 addF (e2 mulF (eV 2) (eV 3)) (e2 mulF (eC (.int 60013)) (eIx (eV 0) (eC (.int 2))))) (eC (.int 11))) aNil)) (eC (.int 2147483629))) (gBag 0 1)) (sSeq (sIf (bB (e2 gtF (eIx (eV 0) (eC (.int 0))) (eC (.int 0)))) (sSeq (sAsg (eB divmodF (aCons (eIx (eV 0) (eC (.int 0))) (aCons (eV 1) aNil))) (gT 2 (gsC (gBag 0 0) (gsC (gN 4) gsN)))) (sRet (eV 4))) sNil) (sRet (e2 modF (eB intF (aCons (e2 fdivF (eIx (eV 0) (eC (.int 1))) (eC (.int 89))) aNil)) (eV 1)))))))
def F__law_draw : DFn := runD 5 2 (G__law_draw)
def G__law_pick : SF := (sRet (eIx (eV 1) (eCall (F__law_draw) (aCons (eV 0) (aCons (eB lenF (aCons (eV 1) aNil)) aNil)))))
def F__law_pick : DFn := runD 2 2 (G__law_pick)
def G__law_tool : SF := (sSeq (sAsg (e2 addF (eC (.int 1)) (eCall (F__law_draw) (aCons (eV 0) (aCons (eV 2) aNil)))) (gN 4)) (sSeq (sOwn (eLst aNil) 5) (sSeq (sFor (aRng (aCons (eV 4) aNil)) (gN 6) (sSeq (sAsg (eB tupleF (aCons (eLc (aAny (eV 1)) [8] (gN 8) bYes (eCall (F__law_draw) (aCons (eV 0) (aCons (eV 4) aNil)))) aNil)) (gN 7)) (sPush 5 (eTup (aCons (eCall (F__law_draw) (aCons (eV 0) (aCons (e2 addF (eV 3) (eC (.int 1))) aNil))) (aCons (eV 7) aNil)))))) (sFreeze 5 (sRet (eLst (aCons (eV 1) (aCons (eB tupleF (aCons (eV 5) aNil)) aNil))))))))
def F__law_tool : DFn := runD 9 4 (G__law_tool)
def G__law_made (M : Addr) : SF := (sRet (eMake M (Fm_Machine M) (aCons (eIx (eV 0) (eC (.int 0))) (aCons (eIx (eV 0) (eC (.int 1))) aNil))))
def F__law_made (M : Addr) : DFn := runD 1 1 (G__law_made M)
def G__law_purse : SF := (sSeq (sIf (bB (e2 ltF (eV 1) (eB lenF (aCons (eV 0) aNil)))) (sSeq (sAsg (eIx (eV 0) (eV 1)) (gN 2)) (sSeq (sAsg (eIf (bOr (bB (e2 ltF (eV 2) (eC (.int 0)))) (bB (e2 geF (eV 2) (e2 powF (eC (.int 10)) (eC (.int 18)))))) (eB absF (aCons (eV 2) aNil)) (eC (.int 0))) (gN 3)) (sRetO (eLst (aCons (eV 3) (aCons (e2 modF (eB intF (aCons (e2 addF (e2 addF (e2 mulF (eV 2) (eC (.int 39373))) (e2 mulF (eC (.int 104723)) (eV 1))) (eC (.int 17))) aNil)) (eC (.int 2147483629))) (aCons (eC (.int 0)) aNil))))))) sNil) (sSeq (sAsg (e2 addF (e2 mulF (eC (.int 86243)) (eV 1)) (eC (.int 131))) (gN 4)) (sSeq (sFor (aAny (eSl (eV 0) oNo (oSome (eC (.int 4))))) (gN 2) (sAsg (e2 modF (eB intF (aCons (e2 addF (e2 mulF (eV 4) (eC (.int 48271))) (eV 2)) aNil)) (eC (.int 2147483587))) (gN 4))) (sRetO (eLst (aCons (eC (.int 0)) (aCons (eV 4) (aCons (eC (.int 0)) aNil))))))))
def F__law_purse : DFn := runF 5 2 (G__law_purse)
end DL

set_option maxHeartbeats 2000000

set_option maxHeartbeats 1000000
namespace DL
open PySem PySem.Spec PyProof.Rows L2 RZ
@[simp] def inA (d e : D) : Option D := match e with
  | .str z => inF d (.str z)
  | e => inQ d e
@[simp] def ninA (d e : D) : Option D := match e with
  | .str z => ninF d (.str z)
  | e => ninQ d e
section
variable {X : Cx} {C : Cq} {W : WX} {a b c e o : Expr} {pos p apos cpos : Pos} {Fa Fb Fc F Fo Fk Fd : EF} {G : AF} {st : Stmt}
@[simp] def eGet (Fo Fk Fd : EF) : EF := fun ρ b => (Fo ρ b).bind fun d b1 => match d with
  | .dct ks ds => (Fk ρ b1).bind fun k b2 => (Fd ρ b2).bind fun z b3 => match keyD k with
    | some j => .ok ((lookK ks ds j).getD z) b3
    | none => .stuck
  | _ => .stuck
def unK : Key → D
  | .inl i => .int i
  | .inr x => .str x
theorem unK_dr {K : PySem.W.Frag} {ba : Option Addr} {S : Hp} : ∀ k : Key, DR K ba S (kV k) (unK k)
  | .inl i => .int i
  | .inr x => .str x
def itemsD (ks : List Key) (ds : List D) : List D := ks.zipWith (fun k d => D.tup [unK k, d]) ds
def aItems (F : EF) : AF := fun ρ b => (F ρ b).bind fun d b' => match d with
  | .dct ks ds => .ok (itemsD ks ds) b'
  | _ => .stuck
theorem items_len {K : PySem.W.Frag} {ba : Option Addr} {S : Hp} {kvs : List (Key × V)} {ds : List D} (r : DRs K ba S (kvs.map (·.2)) ds) : (itemsD (kvs.map (·.1)) ds).length = kvs.length := by
  have := r.length
  simp [itemsD] at this ⊢
  omega
theorem itI {K : PySem.W.Frag} {ba : Option Addr} {S : Hp} {l : Addr} {od : Obj} {kvs : List (Key × V)} {ds : List D} (h : S l = some (.frz od (.dK kvs))) (r : DRs K ba S (kvs.map (·.2)) ds) : ItD K ba (Iti l od kvs) (itemsD (kvs.map (·.1)) ds) S := fun C hC i S' ρ b σ H e ok => by
  subst hC
  have hS : H l = some (.frz od (.dK kvs)) := ok.core.sub _ _ (e _ _ h)
  have hlen := items_len r
  refine ⟨fun d hd => ?_, fun hl => ⟨hS, by omega⟩⟩
  have hi : i < kvs.length := by
    have := (List.getElem?_eq_some_iff.mp hd).1
    omega
  refine ⟨⟨hS, hi⟩, fun w H' wy => ?_⟩
  obtain ⟨T, k, v, hk, rfl, hT, rfl⟩ := wy
  have hl2 := r.length
  rw [List.length_map] at hl2
  have hdi : ds[i]? = some ds[i] := List.getElem?_eq_getElem (by omega)
  obtain ⟨v', hv', rv⟩ := r.get hdi
  rw [List.getElem?_map, hk] at hv'
  cases hv'
  have hd2 : (itemsD (kvs.map (·.1)) ds)[i]? = some (.tup [unK k, ds[i]]) := by
    unfold itemsD
    rw [List.getElem?_zipWith, List.getElem?_map, hk, hdi]
    rfl
  rw [hd] at hd2
  cases hd2
  obtain ⟨p1, p2, p3⟩ := pair_of ok hT (unK_dr k) (rv.up e)
  exact ⟨_, p1, p2, p3, keep_upd hT⟩
theorem d_items {elts : List Expr} {kk : Nat} {tpos : Pos} (he : PE X e (tD X.K C W F)) (hbase : attributeBase e "items" X.env (eval e X.env) = eval e X.env := by rfl) (hline : (apos.endLine == cpos.line) = true := by rfl) :
    PI X (.Tuple elts kk tpos) (.Call (.Attribute e "items" apos) [] [] cpos) (tDI X.K C W (aItems F)) := pi_imp (pi_items he hbase hline) fun σ H R ⟨S, ρ, b, ok, q⟩ => by
  refine ⟨S, ρ, b, ok, q.bind.imp fun d b1 S1 H1 s1 ok1 q1 v r => ?_⟩
  split at q1
  · cases r with
    | @dct l od kvs _ _ h1 g1 g2 =>
      subst g1
      exact ⟨l, od, kvs, rfl, ok1.core.sub _ _ h1, q1 S1 H1 (Same.refl _) ok1 _ (itI h1 g2)⟩
  · exact q1.elim
def aZipL (G : AF) : AF := fun ρ b => (G ρ b).bind fun ds b' => match ds with
  | [.lst xs, .lst ys] => .ok (zipOf xs ys) b'
  | [.tup xs, .tup ys] => .ok (zipOf xs ys) b'
  | _ => .stuck
theorem zip_getL {xs ys : List D} {i : Nat} {d e : D} (hc : xs[i]? = some d) (he : ys[i]? = some e) : (zipOf xs ys)[i]? = some (.tup [d, e]) := by
  unfold zipOf
  rw [List.getElem?_zipWith, hc, he]
theorem zip_lenL {xs ys : List D} : (zipOf xs ys).length = min xs.length ys.length := by simp [zipOf]
theorem itZL {K : PySem.W.Frag} {ba : Option Addr} {S : Hp} {l m : Addr} {xs ys : List V} {ds es : List D} (h : SqL K S l xs) (h' : SqL K S m ys) (r : DRs K ba S xs ds) (r' : DRs K ba S ys es) : ItD K ba (Itz K l m) (zipOf ds es) S := fun C hC i S' ρ b σ H e ok => by
  subst hC
  have hS : SqL K H l xs := (e.trans ok.core.sub).seq h
  have hS' : SqL K H m ys := (e.trans ok.core.sub).seq h'
  refine ⟨fun d hd => ?_, fun hl => ⟨xs, ys, hS, hS', by rw [r.length, r'.length]; rw [zip_lenL] at hl; omega⟩⟩
  have hi : i < min ds.length es.length := by rw [← zip_lenL]; exact (List.getElem?_eq_some_iff.mp hd).1
  have h1 : ds[i]? = some ds[i] := List.getElem?_eq_getElem (by omega)
  have h2 : es[i]? = some es[i] := List.getElem?_eq_getElem (by omega)
  obtain ⟨v, hv, rv⟩ := r.get h1
  obtain ⟨v', hv', rv'⟩ := r'.get h2
  refine ⟨⟨xs, ys, v, v', hS, hS', hv, hv'⟩, fun w H' wy => ?_⟩
  obtain ⟨T, k, y, rfl, hT, rfl, hk, hy⟩ := wy
  have hk := hk xs hS
  have hy := hy ys hS'
  rw [hv] at hk
  rw [hv'] at hy
  cases hk
  cases hy
  rw [zip_getL h1 h2] at hd
  cases hd
  obtain ⟨p1, p2, p3⟩ := pair_of ok hT (rv.up e) (rv'.up e)
  exact ⟨_, p1, p2, p3, keep_upd hT⟩
theorem itZT {K : PySem.W.Frag} {ba : Option Addr} {S : Hp} {l m : Addr} {xs ys : List V} {ds es : List D} (h : S l = some (.tup xs)) (h' : S m = some (.tup ys)) (r : DRs K ba S xs ds) (r' : DRs K ba S ys es) : ItD K ba (ItzT K l m) (zipOf ds es) S := fun C hC i S' ρ b σ H e ok => by
  subst hC
  have hS : SqT K H l xs := seqT (e.trans ok.core.sub) h
  have hS' : SqT K H m ys := seqT (e.trans ok.core.sub) h'
  refine ⟨fun d hd => ?_, fun hl => ⟨xs, ys, hS, hS', by rw [r.length, r'.length]; rw [zip_lenL] at hl; omega⟩⟩
  have hi : i < min ds.length es.length := by rw [← zip_lenL]; exact (List.getElem?_eq_some_iff.mp hd).1
  have h1 : ds[i]? = some ds[i] := List.getElem?_eq_getElem (by omega)
  have h2 : es[i]? = some es[i] := List.getElem?_eq_getElem (by omega)
  obtain ⟨v, hv, rv⟩ := r.get h1
  obtain ⟨v', hv', rv'⟩ := r'.get h2
  refine ⟨⟨xs, ys, v, v', hS, hS', hv, hv'⟩, fun w H' wy => ?_⟩
  obtain ⟨T, k, y, rfl, hT, rfl, hk, hy⟩ := wy
  have hk := hk xs hS
  have hy := hy ys hS'
  rw [hv] at hk
  rw [hv'] at hy
  cases hk
  cases hy
  rw [zip_getL h1 h2] at hd
  cases hd
  obtain ⟨p1, p2, p3⟩ := pair_of ok hT (rv.up e) (rv'.up e)
  exact ⟨_, p1, p2, p3, keep_upd hT⟩
theorem d_izipL {elts : List Expr} {kk : Nat} {tpos : Pos} (hg : Gl X "zip") (hm : X.mg "zip" = none) (ha : PA X [a, b] (tDA X.K C W G)) (hs : starEach [a, b] X.env = (false, eval a X.env) :: starEach [b] X.env := by rfl) (hpl : (backTo pos (starEach [b] X.env)).any (·.1) = false := by rfl) :
    PI X (.Tuple elts kk tpos) (.Call (.Name "zip" p) [a, b] [] pos) (tDI X.K C W (aZipL G)) := pi_imp (pi_zipA hg hm ha hs hpl) fun σ H R ⟨S, ρ, b, ok, q⟩ => by
  refine ⟨S, ρ, b, ok, q.bind.imp fun ds b1 S1 H1 s1 ok1 q1 vs r => ?_⟩
  split at q1
  · cases r with
    | cons r1 r2 =>
      cases r2 with
      | cons r2 r3 =>
        cases r3
        cases r1 with
        | lst h1 h2 =>
          cases r2 with
          | lst h3 h4 => exact ⟨_, _, _, _, rfl, .inl ⟨SqL.of (ok1.core.sub _ _ h1), SqL.of (ok1.core.sub _ _ h3), q1 S1 H1 (Same.refl _) ok1 _ (itZL (SqL.of h1) (SqL.of h3) h2 h4)⟩⟩
  · cases r with
    | cons r1 r2 =>
      cases r2 with
      | cons r2 r3 =>
        cases r3
        cases r1 with
        | tup h1 h2 =>
          cases r2 with
          | tup h3 h4 => exact ⟨_, _, _, _, rfl, .inr ⟨seqT ok1.core.sub h1, seqT ok1.core.sub h3, q1 S1 H1 (Same.refl _) ok1 _ (itZT h1 h3 h2 h4)⟩⟩
  · exact q1.elim
/-- zip of two of any sort -/
def aZipA (G : AF) : AF := fun ρ b => (G ρ b).bind fun ds b' => match ds with
  | [.lst xs, .lst ys] => .ok (zipOf xs ys) b'
  | [.tup xs, .tup ys] => .ok (zipOf xs ys) b'
  | [.str x, .str y] => .ok (zipOf (signsOf x) (signsOf y)) b'
  | [.str x, .tup ys] => .ok (zipOf (signsOf x) ys) b'
  | [.str x, .lst ys] => .ok (zipOf (signsOf x) ys) b'
  | _ => .stuck
theorem aZipA_cases (G : AF) (ρ : Env) (b : Bag) : aZipA G ρ b = aZipL G ρ b ∨ aZipA G ρ b = aZipS G ρ b ∨ aZipA G ρ b = aZipX G ρ b := by
  unfold aZipA aZipL aZipS aZipX
  cases G ρ b with
  | ok ds b' =>
    simp only [bind_ok_]
    split
    · exact .inl rfl
    · exact .inl rfl
    · exact .inr (.inl rfl)
    · exact .inr (.inr rfl)
    · exact .inr (.inr rfl)
    · rename_i h1 h2 h3 h4 h5
      refine .inl ?_
      split
      · exact absurd rfl (h1 _ _)
      · exact absurd rfl (h2 _ _)
      · rfl
  | ex c ns ds => exact .inl rfl
  | stuck => exact .inl rfl
theorem d_izip {elts : List Expr} {kk : Nat} {tpos : Pos} (hg : Gl X "zip") (hm : X.mg "zip" = none) (ha : PA X [a, b] (tDA X.K C W G)) (hs : starEach [a, b] X.env = (false, eval a X.env) :: starEach [b] X.env := by rfl) (hpl : (backTo pos (starEach [b] X.env)).any (·.1) = false := by rfl) :
    PI X (.Tuple elts kk tpos) (.Call (.Name "zip" p) [a, b] [] pos) (tDI X.K C W (aZipA G)) := ⟨fun pins s σ H R I ⟨S, ρ, b0, ok, q⟩ => by
  rcases aZipA_cases G ρ b0 with e | e | e
  · rw [e] at q; exact (d_izipL (W := W) (C := C) hg hm ha hs hpl).run pins s σ H R I ⟨S, ρ, b0, ok, q⟩
  · rw [e] at q; exact (d_izipS (W := W) (C := C) hg hm ha hs hpl).run pins s σ H R I ⟨S, ρ, b0, ok, q⟩
  · rw [e] at q; exact (d_izipX (W := W) (C := C) hg hm ha hs hpl).run pins s σ H R I ⟨S, ρ, b0, ok, q⟩⟩
end
end DL

set_option maxHeartbeats 1000000
namespace DL
open PySem PySem.Spec PyProof.Rows L2
section
variable {K : PySem.W.Frag} {C : Cq} {ba : Option Addr} {S S' H H' : Hp} {b b' : Bag}
/-- a pended thing is put into a slot -/
theorem OkS.put {σ σx : L2.St} {ρ ρx : Env} {i : Nat} {v : V} {sd : SD} (hl : σ.length = ρ.length) (o : OkS K C S (ρ ++ some sd :: ρx) b (σ ++ some v :: σx) H) : OkS K C S (ρ.set i (some sd) ++ ρx) b (σ.set i (some v) ++ σx) H := by
  obtain ⟨c, O, s, w⟩ := o
  obtain ⟨O1, O2, e, h1, h2⟩ := Slots.split hl s
  subst e
  cases h2 with
  | sh r s2 =>
    obtain ⟨O', h3, l⟩ := h1.setSh r (i := i)
    exact ⟨c, O' ++ O2, h3.append s2, w.sub (l.append_right _)⟩
  | ow g1 g2 s2 =>
    rename_i p u d O2
    have nd := w.nd
    rw [List.nodup_append] at nd
    obtain ⟨n1, n2, n3⟩ := nd
    have hp : p ∉ O1 := fun z => n3 p z p List.mem_cons_self rfl
    obtain ⟨O', h3, n4, h4⟩ := h1.setOw g1 g2 (i := i) hp n1
    refine ⟨c, O' ++ O2, h3.append s2, ?_, fun q hq => ?_⟩
    · rw [List.nodup_append]
      refine ⟨n4, (List.nodup_cons.mp n2).2, fun a ha b hb => ?_⟩
      rcases h4 a ha with z | z
      · subst z
        exact fun y => (List.nodup_cons.mp n2).1 (by rw [y]; exact hb)
      · exact n3 a z b (List.mem_cons_of_mem _ hb)
    · rcases List.mem_append.mp hq with z | z
      · rcases h4 q z with y | y
        · subst y; exact w.al q (List.mem_append_right _ List.mem_cons_self)
        · exact w.al q (List.mem_append_left _ y)
      · exact w.al q (List.mem_append_right _ (List.mem_cons_of_mem _ z))
end
end DL

set_option maxHeartbeats 1000000

set_option maxHeartbeats 1000000
namespace DL
open PySem PySem.Spec PyProof.Rows L2
theorem DRs.reverse {K : PySem.W.Frag} {ba : Option Addr} {S : Hp} : ∀ {vs : List V} {ds : List D}, DRs K ba S vs ds → DRs K ba S vs.reverse ds.reverse
  | _, [], h => by cases h; exact .nil
  | _, d :: ds, h => by
    cases h with
    | cons h1 h2 =>
      rw [List.reverse_cons, List.reverse_cons]
      exact (DRs.reverse h2).app (.cons h1 .nil)
section
variable {X : Cx} {C : Cq} {W : WX} {a b c e o : Expr} {es : List Expr} {pos p apos cpos pos' p2 : Pos} {Fa Fb Fc F Fo Fk Fv : EF} {G : AF} {st : Stmt}
@[simp] def e1o (f : D → Option D) (F : EF) : EF := fun ρ b => (F ρ b).bind fun d b' => Out.pureO (f d) b'
@[simp] def eTupRg (F : EF) : EF := fun ρ b => (F ρ b).bind fun d b1 => match d with
  | .int n => if 0 ≤ n ∧ n ≤ 100000 then .ok (.tup (rangeOf n)) b1 else .stuck
  | _ => .stuck
end
end DL

set_option maxHeartbeats 1000000
namespace DL
open PySem PySem.Spec PyProof.Rows L2
section
variable {X : Cx} {C : Cq} {W : WX} {st : Stmt} {Fi Fi1 : AF} {g g1 : TG} {f f1 : GF} {F : EF} {vs vs1 : List Nat}
/-- name = [.. for .. for ..] on one line -/
theorem d_setlc2 {i : Nat} (hT : CTg X.K g f vs) (hT1 : CTg X.K g1 f1 vs1) (h : PS X st (tAsg (tLc2 (tDI X.K C W Fi) g (tDtany X.K bYes) (tDIany X.K Fi1) g1 (tDtany X.K bYes) (tDany X.K F) vs vs1) (gName i))) : PS X st (tAsg (tDF X.K C W (eLc2 Fi vs f Fi1 vs1 f1 F)) (gName i)) := ps_imp h fun _ _ _ hh => lc2_of hT hT1 hh
end
end DL

set_option maxHeartbeats 2000000
namespace DL
open PySem PySem.Spec PyProof.Rows L2
def G_check_pair (M : Addr) : SF := (sSeq (sDrop (eCall (F_check_machine M) (aCons (eV 0) aNil))) (sSeq (sDrop (eCall (F_check_machine M) (aCons (eV 1) aNil))) (sIf (bB (e2 neF (e1 (fldF M "_letters") (eV 0)) (e1 (fldF M "_letters") (eV 1)))) sNever sNil)))
def F_check_pair (M : Addr) : DFn := runD 2 2 (G_check_pair M)
def G_pair_colours (M : Addr) : SF := (sSeq (sAsg (eLc2 (aAny (e1 (fldF M "_states") (eV 0))) [3, 4] (gN 3) (aAny (e1 (fldF M "_states") (eV 1))) [4] (gN 4) (eTup (aCons (eIx (eV 3) (eC (.int 0))) (aCons (eIx (eV 4) (eC (.int 0))) aNil)))) (gN 2)) (sRet (eTup (aCons (eLc (aAny (eV 2)) [5] (gN 5) bYes (eIx (eV 5) (eC (.int 0)))) (aCons (eLc (aAny (eV 2)) [5] (gN 5) bYes (eIx (eV 5) (eC (.int 1)))) aNil)))))
def F_pair_colours (M : Addr) : DFn := runD 6 2 (G_pair_colours M)
def G_pair_arrows (M : Addr) : SF := (sSeq (sAsg (eLenO M (F_Machine_len_ M) (aCons (eV 1) aNil)) (gN 2)) (sRet (eLc2 (aAny (e1 (fldF M "_states") (eV 0))) [3, 4] (gN 3) (aAny (e1 (fldF M "_states") (eV 1))) [4] (gN 4) (eLc (aZipA (aCons (eIx (eV 3) (eC (.int 1))) (aCons (eIx (eV 4) (eC (.int 1))) aNil))) [5, 6] (gT 2 (gsC (gN 5) (gsC (gN 6) gsN))) bYes (e2 addF (e2 mulF (eV 5) (eV 2)) (eV 6))))))
def F_pair_arrows (M : Addr) : DFn := runD 7 2 (G_pair_arrows M)
def G__law_walk_v2 : SF := (sSeq (sOwn (eLst aNil) 3) (sSeq (sFor (aAny (eV 2)) (gN 4) (sSeq (sAsg (eIx (eIx (eIx (eIx (eV 0) (eC (.int 1))) (eV 1)) (eC (.int 1))) (eM sidxF (eIx (eV 0) (eC (.int 0))) (aCons (eV 4) aNil))) (gN 1)) (sPush 3 (eV 1)))) (sFreeze 3 (sRet (eV 3)))))
def F__law_walk_v2 : DFn := runD 5 3 (G__law_walk_v2)
def G__law_end_v2 : SF := (sRet (eIx (e2 addF (eLst (aCons (eV 1) aNil)) (eCall (F__law_walk_v2) (aCons (eV 0) (aCons (eV 1) (aCons (eV 2) aNil))))) (e1 negF (eC (.int 1)))))
def F__law_end_v2 : DFn := runD 3 3 (G__law_end_v2)
end DL

set_option maxHeartbeats 2000000

set_option maxHeartbeats 1000000

set_option maxHeartbeats 1000000
namespace DL
open PySem PySem.Spec PyProof.Rows L2
section
variable {X : Cx} {C : Cq} {W : WX} {k : Nat} {A f : Addr} {fd : FuncData} {ps : List Str} {a b : Expr} {pos p : Pos} {Fa Fb : EF} {Fn : DFn}
@[simp] def eEqO (A : Addr) (Fn : DFn) (Fa Fb : EF) : EF := fun ρ b => (Fa ρ b).bind fun x b1 => (Fb ρ b1).bind fun y b2 => match x, y with
  | .ins A1 ns es, .ins A2 ns2 es2 => if A1 = A ∧ A2 = A then (match Fn [.ins A1 ns es, .ins A2 ns2 es2] b2 with
    | .ok (.bl t) b3 => .ok (.bl t) b3
    | _ => .stuck) else .stuck
  | _, _ => .stuck
end
end DL

set_option maxHeartbeats 2000000

set_option maxHeartbeats 2000000

set_option maxHeartbeats 4000000

set_option maxHeartbeats 1000000
namespace DL
open PySem PySem.Spec PyProof.Rows L2
open SrtO (lexT Swo Stb Srtd)
def insT (p : Str × Int) : List (Str × Int) → List (Str × Int)
  | [] => [p]
  | q :: l => if lexT q p = true then q :: insT p l else p :: q :: l
def srtT : List (Str × Int) → List (Str × Int)
  | [] => []
  | p :: l => insT p (srtT l)
def tupT (p : Str × Int) : D := .tup [.str p.1, .int p.2]
def keysT : List D → Option (List (Str × Int))
  | [] => some []
  | .tup [.str x, .int i] :: ds => (keysT ds).map ((x, i) :: ·)
  | _ => none
@[simp] theorem keysT_map : ∀ l : List (Str × Int), keysT (l.map tupT) = some l
  | [] => rfl
  | p :: l => by
    rw [List.map_cons]
    unfold tupT
    rw [keysT]
    have := keysT_map l
    unfold tupT at this
    rw [this]
    rfl
/-- sorted(xs) -/
@[simp] def eSrt (F : EF) : EF := fun ρ b => (F ρ b).bind fun d b1 => match d with
  | .lst ds => (match keysT ds with
    | some l => .ok (.lst ((srtT l).map tupT)) b1
    | none => .stuck)
  | _ => .stuck
end DL

set_option maxHeartbeats 1000000
namespace DL
open PySem PySem.Spec PyProof.Rows L2
section
variable {X : Cx} {C : Cq} {W : WX} {pos : Pos}
/-- a, b, .. = a tuple or a list -/
@[simp] def gTL (n : Nat) (gs : GsF) : GF := fun d ρ b => match d with
  | .tup ds => if ds.length = n then gs ds ρ b else none
  | .lst ds => if ds.length = n then gs ds ρ b else none
  | _ => none
end
end DL

set_option maxHeartbeats 2000000

set_option maxHeartbeats 2000000
namespace DL
open PySem PySem.Spec PyProof.Rows L2
def G_first_word_to : SF := (sSeq (sAsg (eCall (F_words_from) (aCons (eV 0) (aCons (eV 1) (aCons (eV 2) (aCons (eLstRg (eB lenF (aCons (eV 1) aNil))) aNil))))) (gN 4)) (sSeq (sAsg (eLc (aItems (eV 4)) [6, 7] (gT 2 (gsC (gN 6) (gsC (gN 7) gsN))) (bB (e2 inQ (eV 6) (eV 3))) (eV 7)) (gN 5)) (sRet (eIf (bT (eV 5)) (eIx (eV 5) (eC (.int 0))) (eC .non)))))
def F_first_word_to : DFn := runD 8 4 (G_first_word_to)
end DL

set_option maxHeartbeats 2000000
namespace DL
open PySem PySem.Spec PyProof.Rows L2
def dcD (g : GF) (T : BF) (Fk Fv : EF) : List D → Env → D → Bag → Out D
  | [], _, acc, b => .ok acc b
  | d :: ds, ρ, acc, b => match g d ρ b with
    | none => .stuck
    | some z => ((T z.1 z.2).noex).bind fun k b1 => if k = true then ((Fk z.1 b1).noex).bind fun y b2 => ((Fv z.1 b2).noex).bind fun w b3 => match acc, keyD y with
      | .dct ks vs, some j => dcD g T Fk Fv ds ρ (putD ks vs j w) b3
      | _, _ => .stuck
      else dcD g T Fk Fv ds ρ acc b1
@[simp] def eDc (Fi : AF) (vs : List Nat) (g : GF) (T : BF) (Fk Fv : EF) : EF := fun ρ b => (Fi ρ b).bind fun ds b1 => if ds.length ≤ 100000 then dcD g T Fk Fv ds (wipeE (unown ρ) vs) (.dct [] []) b1 else .stuck
end DL

set_option maxHeartbeats 2000000

set_option maxHeartbeats 2000000

set_option maxHeartbeats 1000000
namespace DL
open PySem PySem.Spec PyProof.Rows L2
section
variable {X : Cx} {C : Cq} {W : WX} {k : Nat} {A f : Addr} {fd : FuncData} {ps : List Str} {a b : Expr} {pos p : Pos} {Fa Fb : EF} {Fn : DFn}
@[simp] def eNeO (A : Addr) (Fn : DFn) (Fa Fb : EF) : EF := fun ρ b => (Fa ρ b).bind fun x b1 => (Fb ρ b1).bind fun y b2 => match x, y with
  | .ins A1 ns es, .ins A2 ns2 es2 => if A1 = A ∧ A2 = A then (match Fn [.ins A1 ns es, .ins A2 ns2 es2] b2 with
    | .ok (.bl t) b3 => .ok (.bl (!t)) b3
    | _ => .stuck) else .stuck
  | _, _ => .stuck
end
end DL

set_option maxHeartbeats 1000000
namespace DL
open PySem PySem.Spec PyProof.Rows L2
section
variable {X : Cx} {C : Cq} {W : WX} {pos : Pos}
/-- a, b, .. = a text -/
@[simp] def gTX (n : Nat) (gs : GsF) : GF := fun d ρ b => match d with
  | .str x => if x.length = n then gs (signsOf x) ρ b else none
  | _ => none
end
end DL

set_option maxHeartbeats 1000000
namespace DL
open PySem PySem.Spec PyProof.Rows L2
def keysD : List D → Option (List Key)
  | [] => some []
  | d :: ds => match keyD d, keysD ds with
    | some k, some ks => some (k :: ks)
    | _, _ => none
def keyT : D → Option (List Key)
  | .tup ds => keysD ds
  | _ => none
def lookT : List (List Key) → List D → List Key → Option D
  | k :: ks, d :: ds, j => if k = j then some d else lookT ks ds j
  | _, _, _ => none
def setT : List (List Key) → List D → List Key → D → List D
  | k :: ks, d :: ds, j, e => (if k = j then e else d) :: setT ks ds j e
  | _, ds, _, _ => ds
def putT (ks : List (List Key)) (ds : List D) (j : List Key) (e : D) : D := if ks.any (fun k => decide (k = j)) then .dtp ks (setT ks ds j e) else .dtp (ks ++ [j]) (ds ++ [e])
def unKs (k : List Key) : D := .tup (k.map unK)
section
variable {K : PySem.W.Frag} {ba : Option Addr} {S S' H : Hp}
theorem keys_drT : ∀ {vs : List V} {ds : List D} {k : List Key}, DRs K ba S vs ds → keysD ds = some k → vs = k.map kV
  | _, [], _, r, h => by
    cases r
    simp only [keysD, Option.some.injEq] at h
    subst h
    rfl
  | _, d :: ds, _, r, h => by
    cases r with
    | cons r1 r2 =>
      unfold keysD at h
      split at h
      · rename_i k ks h1 h2
        cases h
        rw [key_dr r1 h1, keys_drT r2 h2]
        rfl
      · cases h
theorem keyT_dr {v : V} {d : D} {k : List Key} (r : DR K ba S v d) (h : keyT d = some k) : ∃ b, v = .ref b ∧ S b = some (.tup (k.map kV)) := by
  unfold keyT at h
  split at h
  · cases r with
    | tup h1 h2 =>
      rw [keys_drT h2 h] at h1
      exact ⟨_, rfl, h1⟩
  · cases h
theorem lookT_dr : ∀ {kvs : List (List Key × V)} {ds : List D} {j : List Key} {d : D}, DRs K ba S (kvs.map (·.2)) ds → lookT (kvs.map (·.1)) ds j = some d → ∃ v, valV kvs j = some v ∧ DR K ba S v d
  | [], _, _, _, _, h => by simp [lookT] at h
  | p :: kvs, [], _, _, r, h => by cases r
  | p :: kvs, e :: ds, j, d, r, h => by
    cases r with
    | cons r1 r2 =>
      unfold lookT at h
      rw [List.map_cons] at h
      by_cases hk : p.1 = j
      · simp only [hk, if_true] at h
        cases h
        exact ⟨p.2, valV_pos hk, r1⟩
      · simp only [hk, if_false] at h
        obtain ⟨v, h1, h2⟩ := lookT_dr r2 h
        exact ⟨v, by rw [valV_neg hk]; exact h1, h2⟩
theorem lookT_none : ∀ {kvs : List (List Key × V)} {ds : List D} {j : List Key}, DRs K ba S (kvs.map (·.2)) ds → ((valV kvs j).isSome = (kvs.map (·.1)).any (fun k => decide (k = j)))
  | [], _, _, _ => by simp [valV]
  | p :: kvs, [], _, r => by cases r
  | p :: kvs, e :: ds, j, r => by
    cases r with
    | cons r1 r2 =>
      by_cases hk : p.1 = j
      · rw [valV_pos hk]
        simp [hk]
      · rw [valV_neg hk, lookT_none r2]
        simp [hk]
theorem setT_dr {j : List Key} {v : V} {d : D} (rv : DR K ba S v d) : ∀ {kvs : List (List Key × V)} {ds : List D}, DRs K ba S (kvs.map (·.2)) ds → DRs K ba S ((kvs.map (fun kv => if kv.1 = j then (kv.1, v) else kv)).map (·.2)) (setT (kvs.map (·.1)) ds j d)
  | [], _, r => by cases r; exact .nil
  | p :: kvs, [], r => by cases r
  | p :: kvs, e :: ds, r => by
    cases r with
    | cons r1 r2 =>
      simp only [List.map_cons, setT]
      by_cases hk : p.1 = j
      · simp only [hk, if_true]
        exact .cons rv (setT_dr rv r2)
      · simp only [hk, if_false]
        exact .cons r1 (setT_dr rv r2)
theorem putT_dr {kvs : List (List Key × V)} {ds : List D} {j : List Key} {v : V} {d : D} (r : DRs K ba S (kvs.map (·.2)) ds) (rv : DR K ba S v d) : ODR K ba S (.dT (putK kvs j v)) (putT (kvs.map (·.1)) ds j d) := by
  unfold putK putT
  have e : (kvs.any fun kv => decide (kv.1 = j)) = (kvs.map (·.1)).any (fun k => decide (k = j)) := by rw [valV_any]; exact lookT_none r
  rw [e]
  by_cases h : (kvs.map (·.1)).any (fun k => decide (k = j)) = true
  · rw [if_pos h, if_pos h]
    refine .dtp ?_ (setT_dr rv r)
    rw [List.map_map]
    apply List.map_congr_left
    intro p _
    show (if p.1 = j then (p.1, v) else p).1 = p.1
    split <;> rfl
  · rw [if_neg h, if_neg h]
    refine .dtp (by simp) ?_
    rw [List.map_append]
    exact r.app (.cons rv .nil)
theorem kVs_dr : ∀ k : List Key, DRs K ba S (k.map kV) (k.map unK)
  | [] => .nil
  | k :: ks => .cons (unK_dr k) (kVs_dr ks)
end
section
variable {X : Cx} {C : Cq} {W : WX} {o e a b : Expr} {es : List Expr} {pos pos' apos cpos p : Pos} {F Fa Fb Fk Fv : EF} {G : AF} {st : Stmt}
/-- {} -/
@[simp] def eDnewT : EF := fun _ b => .ok (.dtp [] []) b
theorem d_dnewT : PE X (.Dict [] [] pos) (tDF X.K C W eDnewT) := pe_imp pe_dnewT fun σ H Q ⟨S, ρ, b, ok, q⟩ => fun p hp => q S _ p _ (Same.refl _) (ok.fresh hp) (.dtp rfl .nil)
/-- x[k] = v, x owned -/
@[simp] def sDputT (i : Nat) (Fk Fv : EF) : SF := fun ρ b => match ρ[i]? with
  | some (some (.ow (.dtp ks ds))) => (Fv ρ b).st ρ fun d b1 => (Fk ρ b1).st ρ fun k b2 => match keyT k with
    | some j => if ks.length ≤ 100000 then .nx (ρ.set i (some (.ow (putT ks ds j d)))) b2 else .stuck
    | none => .stuck
  | _ => .stuck
theorem d_dputT {i : Nat} {x : Str} {px : Pos} (hu : X.A.units + 1 < cLine) (hx : PE X (.Name x px) (tVar i)) (hk : PE X a (tD X.K C W Fk)) (hv : PE X e (tD X.K C W Fv)) (hs : swapsWith e (some (.Subscript (.Name x px) a pos')) pos.line X.env = pure false := by rfl) :
    PS X (.Assign [.Subscript (.Name x px) a pos'] e pos) (tDS X.K C W (sDputT i Fk Fv)) := ps_imp (ps_dput hu hx hk hv hs) fun E σ H ⟨S, ρ, b, ok, q⟩ => by
  unfold sDputT at q
  split at q
  · rename_i ks ds hr
    refine ⟨S, ρ, b, ok, q.st.imp fun d b1 S1 H1 s1 ok1 q1 v rv => ?_⟩
    obtain ⟨p1, u1, e1, hp1, r1, _⟩ := ok1.getOw hr
    refine ⟨_, e1, S1, ρ, b1, ok1, q1.st.imp fun k b2 S2 H2 s2 ok2 q2 w rw' => ?_⟩
    split at q2
    · rename_i j hj
      obtain ⟨p2, u2, e2, hp2, r2, _, _, _, wr, _⟩ := ok2.getOw hr
      rw [e1] at e2
      cases e2
      cases r2 with
      | @dtp kvs _ _ g1 g2 =>
        split at q2
        · rename_i hl
          obtain ⟨bk, rfl, hb⟩ := keyT_dr rw' hj
          refine ⟨_, upd H2 p1 (.dT (putK kvs j v)), rfl, ?_, ?_⟩
          · refine DPut.t hp2 (ok2.core.sub _ _ hb) (small_lt ?_)
            have := congrArg List.length g1
            rw [List.length_map] at this
            omega
          · subst g1
            exact q2 S2 σ _ (Same.refl _) (wr _ _ (putT_dr g2 (rv.up s2)))
        · exact q2.elim
    · exact q2.elim
  · exact q.elim
/-- x[k], x owned -/
@[simp] def eDgTOw (i : Nat) (F : EF) : EF := fun ρ b => match ρ[i]? with
  | some (some (.ow (.dtp ks ds))) => (F ρ b).bind fun k b1 => match keyT k with
    | some j => Out.pureO (lookT ks ds j) b1
    | none => .stuck
  | _ => .stuck
/-- d[k] -/
@[simp] def eDgT (Fo F : EF) : EF := fun ρ b => (Fo ρ b).bind fun d b1 => match d with
  | .dtp ks ds => (F ρ b1).bind fun k b2 => match keyT k with
    | some j => Out.pureO (lookT ks ds j) b2
    | none => .stuck
  | _ => .stuck
theorem d_dgT (hu : X.A.units + 1 < cLine) (ho : PE X o (tD X.K C W Fa)) (hb : PE X b (tD X.K C W F)) (hs : NoSl b) : PE X (.Subscript o b pos) (tD X.K C W (eDgT Fa F)) := pe_imp (pe_dget hu ho hb hs) fun σ H Q ⟨S, ρ, b0, ok, q⟩ => by
  refine ⟨S, ρ, b0, ok, q.bind.imp fun d b1 S1 H1 s1 ok1 q1 v rv => ?_⟩
  split at q1
  · rename_i ks ds
    refine ⟨S1, ρ, b1, ok1, q1.bind.imp fun k b2 S2 H2 s2 ok2 q2 w rw' => ?_⟩
    split at q2
    · rename_i j hj
      obtain ⟨z, hz, q3⟩ := q2.pureO
      cases rv with
      | @dtp a od kvs _ _ h1 g1 g2 =>
        subst g1
        obtain ⟨y, hy, ry⟩ := lookT_dr g2 hz
        obtain ⟨bk, rfl, hbk⟩ := keyT_dr rw' hj
        refine ⟨_, y, rfl, ?_, q3 S2 H2 (Same.refl _) ok2 y (ry.up s2)⟩
        rw [← hy]
        exact .inr ⟨_, _, _, .inr ⟨od, (s2.trans ok2.core.sub) _ _ h1⟩, rfl, ok2.core.sub _ _ hbk, rfl⟩
    · exact q2.elim
  · exact q1.elim
end
/-- tuples that stand anyway are shared from here on -/
theorem OkS.shTup {K : PySem.W.Frag} {C : Cq} {S H : Hp} {ρ : Env} {b : Bag} {σ : L2.St} {p : Addr} {xs : List V} (o : OkS K C S ρ b σ H) (h : H p = some (.tup xs)) : ∃ S', Same S S' ∧ S' p = some (.tup xs) ∧ OkS K C S' ρ b σ H := by
  cases hS : S p with
  | some u =>
    have := o.core.sub _ _ hS
    rw [h] at this
    cases this
    exact ⟨S, Same.refl _, hS, o⟩
  | none =>
    refine ⟨upd S p (.tup xs), same_upd hS, upd_same, ?_⟩
    obtain ⟨c, O, s, w⟩ := o
    have nO : ∀ q ∈ O, q ≠ p := fun q hq z => by
      obtain ⟨u, hu, nt⟩ := s.thereO q hq
      rw [z, h] at hu
      exact nt xs (Option.some.inj hu).symm
    refine ⟨⟨fun a x e => ?_, c.fr, fun a e => ?_, fun a x e => ?_⟩, O, s.mono (same_upd hS) (fun _ _ _ h => h), w.nd, fun q hq => ⟨by rw [upd_ne (nO q hq)]; exact (w.al q hq).1, (w.al q hq).2⟩⟩
    · by_cases z : a = p
      · subst z; rw [upd_same] at e; cases e; exact h
      · rw [upd_ne z] at e; exact c.sub a x e
    · obtain ⟨q1, q2⟩ := c.bag a e
      have n : a ≠ p := fun z => by
        rw [z, h] at q1; cases q1
      exact ⟨q1, by rw [upd_ne n]; exact q2⟩
    · by_cases z : a = p
      · subst z; rw [upd_same] at e; cases e; exact .inr (.inr ⟨_, rfl⟩)
      · rw [upd_ne z] at e; exact c.new a x e
theorem isKeys_sh {K : PySem.W.Frag} {C : Cq} {ρ : Env} {b : Bag} {σ : L2.St} {H : Hp} : ∀ {kvs : List (List Key × V)} {bs : List Addr} {S : Hp}, OkS K C S ρ b σ H → IsKeys H kvs bs → ∃ S', Same S S' ∧ OkS K C S' ρ b σ H ∧ DRs K C.ba S' (bs.map V.ref) (kvs.map fun kv => unKs kv.1)
  | [], _, S, ok, h => by
    cases h
    exact ⟨S, Same.refl _, ok, .nil⟩
  | kv :: kvs, _, S, ok, h => by
    cases h with
    | cons h1 h2 =>
      obtain ⟨S1, e1, g1, ok1⟩ := ok.shTup h1
      obtain ⟨S2, e2, ok2, r⟩ := isKeys_sh ok1 h2
      exact ⟨S2, e1.trans e2, ok2, .cons (.tup (e2 _ _ g1) (kVs_dr kv.1)) r⟩
section
variable {X : Cx} {C : Cq} {W : WX} {o e a b : Expr} {pos p : Pos} {F : EF}
@[simp] def eLstT (F : EF) : EF := fun ρ b => (F ρ b).bind fun d b1 => match d with
  | .dtp ks _ => .ok (.lst (ks.map unKs)) b1
  | _ => .stuck
theorem d_lstT (hc : X.calm = true) (hg : Gl X "list") (hm : X.mg "list" = none) (ha : PE X a (tD X.K C W F)) (he : starEach [a] X.env = (false, eval a X.env) :: starEach [] X.env := by rfl) (hpl : (backTo pos (starEach [] X.env)).any (·.1) = false := by rfl) :
    PE X (.Call (.Name "list" p) [a] [] pos) (tDF X.K C W (eLstT F)) := pe_imp (pe_callTy (call_list_dT hc) hg hm (by decide +kernel) (pa_cons ha pa_nil he) (by decide) (by decide) he hpl) fun σ H Q ⟨S, ρ, b, ok, q⟩ => by
  refine ⟨S, ρ, b, ok, ?_⟩
  unfold eLstT at q
  cases hF : F ρ b with
  | stuck => rw [hF] at q; exact q.elim
  | ex c ns ds => rw [hF] at q; exact q
  | ok d b1 =>
    rw [hF] at q
    intro S1 H1 e1 ok1 v r
    cases d with
    | dtp ks ds =>
      have q : ∀ S' H' p u, Same S S' → OkF X.K C S' ρ b1 σ H' p u → ODR X.K C.ba S' u (.lst (ks.map unKs)) → Q (.ref p) H' := q
      cases r with
      | @dtp l od kvs _ _ h1 g1 g2 =>
        subst g1
        refine ⟨_, kvs, rfl, .inr ⟨od, ok1.core.sub _ _ h1⟩, fun p bs hp hk => ?_⟩
        obtain ⟨S2, e2, ok2, rs⟩ := isKeys_sh ok1 hk
        have em : (kvs.map (·.1)).map unKs = kvs.map fun kv => unKs kv.1 := by rw [List.map_map]; rfl
        exact q S2 _ p _ (e1.trans e2) (ok2.fresh hp) (.lst (by rw [em]; exact rs))
    | _ => exact q.elim
/-- x owned -/
@[simp] def eLstTOw (i : Nat) : EF := fun ρ b => match ρ[i]? with
  | some (some (.ow (.dtp ks _))) => .ok (.lst (ks.map unKs)) b
  | _ => .stuck
end
end DL

set_option maxHeartbeats 2000000

set_option maxHeartbeats 2000000

set_option maxHeartbeats 2000000
namespace DL
open PySem PySem.Spec PyProof.Rows L2
def G_stuck_pairs (M : Addr) : SF := (sSeq (sAsg (eCall (F_pair_arrows M) (aCons (eV 0) (aCons (eV 1) aNil))) (gN 2)) (sSeq (sAsg (eCall (F_pair_colours M) (aCons (eV 0) (aCons (eV 1) aNil))) (gT 2 (gsC (gN 3) (gsC (gN 4) gsN)))) (sSeq (sAsg (eCall (F_loops_as_asked) (aCons (eV 2) (aCons (eLstRg (eB lenF (aCons (eV 2) aNil))) (aCons (eLst (aCons (eTup (aCons (eV 3) (aCons (eC (.int 0)) aNil))) (aCons (eTup (aCons (eV 4) (aCons (eC (.int 0)) aNil))) aNil))) aNil)))) (gN 5)) (sSeq (sAsg (eCall (F_leading_to) (aCons (eV 2) (aCons (eLc2 (aAny (eV 5)) [8, 9] (gN 8) (aAny (eV 8)) [9] (gN 9) (eV 9)) aNil))) (gN 6)) (sSeq (sAsg (eCall (F_live M) (aCons (eV 0) aNil)) (gN 7)) (sRet (eLc (aRng (aCons (eB lenF (aCons (eV 2) aNil)) aNil)) [9] (gN 9) (bAnd (bB (e2 inQ (e2 fdivF (eV 9) (eLenO M (F_Machine_len_ M) (aCons (eV 1) aNil))) (eV 7))) (bB (e2 ninQ (eV 9) (eV 6)))) (eV 9))))))))
def F_stuck_pairs (M : Addr) : DFn := runD 10 2 (G_stuck_pairs M)
def G_jam (M : Addr) : SF := (sSeq (sDrop (eCall (F_check_pair M) (aCons (eV 0) (aCons (eV 1) aNil)))) (sRet (eCall (F_first_word_to) (aCons (e1 (fldF M "_letters") (eV 0)) (aCons (eCall (F_pair_arrows M) (aCons (eV 0) (aCons (eV 1) aNil))) (aCons (eC (.int 0)) (aCons (eCall (F_stuck_pairs M) (aCons (eV 0) (aCons (eV 1) aNil))) aNil)))))))
def F_jam (M : Addr) : DFn := runD 2 2 (G_jam M)
def G_in_step (M : Addr) : SF := (sRet (e2 isN2 (eCall (F_jam M) (aCons (eV 0) (aCons (eV 1) aNil))) (eC .non)))
def F_in_step (M : Addr) : DFn := runD 2 2 (G_in_step M)
end DL

set_option maxHeartbeats 2000000

set_option maxHeartbeats 2000000

set_option maxHeartbeats 1000000
namespace DL
open PySem PySem.Spec PyProof.Rows L2
section
variable {X : Cx} {C : Cq} {W : WX} {k : Nat} {A f : Addr} {fd : FuncData} {ps : List Str} {a e : Expr} {es : List Expr} {pos p apos : Pos} {F Fa Fb : EF} {G : AF} {Fn : DFn}
/-- str(e), e an object of the class A whose __str__ is Fn -/
@[simp] def eStrO (A : Addr) (Fn : DFn) (G : AF) : EF := fun ρ b => (G ρ b).bind fun ds b1 => match ds with
  | [.ins A' ns es] => if A' = A then (match Fn [.ins A' ns es] b1 with
    | .ok (.str x) b2 => .ok (.str x) b2
    | _ => .stuck) else .stuck
  | _ => .stuck
/-- str(e), e an int or a text -/
@[simp] def strF : List D → Option D
  | [.int i] => if i.natAbs.log2 < 1920 then some (.str (toString i)) else none
  | [.str x] => some (.str x)
  | _ => none
/-- int(e), e a text -/
@[simp] def intTF : List D → Option D
  | [.str x] => if x.length ≤ 640 then (PySem.intText? x).map D.int else none
  | _ => none
/-- x.split(y) -/
@[simp] def splitF : Str → List D → Option D
  | x, [.str y] => if (y.length == 0) = false ∧ x.length ≤ 100000 then some (.lst ((Txt.split x y).map D.str)) else none
  | _, _ => none
/-- f"{..}{..}" of two texts or ints -/
@[simp] def fmtD : D → Option Str
  | .str x => if x.length ≤ 100000 then some x else none
  | .int i => if i.natAbs.log2 < 1920 then some (toString i) else none
  | _ => none
end
end DL

set_option maxHeartbeats 2000000

set_option maxHeartbeats 1000000
namespace DL
open PySem PySem.Spec PyProof.Rows L2
section
variable {X : Cx} {C : Cq} {W : WX} {k : Nat} {A f : Addr} {fd : FuncData} {ps : List Str} {a : Expr} {pos p : Pos} {G : AF} {Fn : DFn}
/-- bool(e), e an object of the class A whose __len__ is Fn -/
@[simp] def eBoolO (A : Addr) (Fn : DFn) (G : AF) : EF := fun ρ b => (G ρ b).bind fun ds b1 => match ds with
  | [.ins A' ns es] => if A' = A then (match Fn [.ins A' ns es] b1 with
    | .ok (.int n) b2 => if 0 ≤ n ∧ n < 2 ^ 63 then .ok (.bl (n != 0)) b2 else .stuck
    | _ => .stuck) else .stuck
  | _ => .stuck
end
end DL

set_option maxHeartbeats 2000000
namespace LzZ
open PySem PySem.Spec PyProof.Rows L2 PySem.W
section
variable {prog : Program} {w : World} {A : Around} {E : Value → Shared → Prop} {s : Shared} {z TI TO i1 i2 T : Addr} {fp1 fp2 : List Addr} {n1 n2 i : Nat} {P1 P2 : Nat → Value → Prop} {St1 St2 : Nat → Heap → Prop} {a1 a2 : Value} {f : Bool} {oT : Obj}
theorem next_held {Q : Value → Shared → Prop} (S : ZipSep2 z TI TO i1 i2 fp1 fp2) (D1 : Draws prog w A i1 fp1 n1 P1 St1) (D2 : Draws prog w A i2 fp2 n2 P2 St2)
    (hz : IsZipHeld s.heap z TI TO T f) (hT : s.heap.get? T = some oT) (hTI : IsTupOf2 s.heap TI (.ref i1) (.ref i2)) (st1 : St1 i s.heap) (st2 : St2 i s.heap) (hlt1 : i < n1) (hlt2 : i < n2)
    (hQ : ∀ x1 x2 h' tk, P1 i x1 → P2 i x2 → IsZipHeld h' z TI TO T true → St1 (i + 1) h' → St2 (i + 1) h' → IsTupOf2 h' s.heap.objs.size x1 x2 → h'.objs.size = s.heap.objs.size + 1 →
      (∀ c o, c ≠ z → c ≠ i1 → c ≠ i2 → s.heap.get? c = some o → h'.get? c = some o) → Q (.ref s.heap.objs.size) { s with heap := h', toks := tk }) :
    wpAny (model prog w) A (Builtin.«zip.__next__» ⟨[.ref z], []⟩) (fun fin s' => ∃ v, fin = .done (.ret v) ∧ Q v s') E s := by
  obtain ⟨hp, g, d, tk0, os⟩ := s
  show wpAny _ _ (field (.ref z) 2 >>= _) _ _ _
  refine wpAny_bind (wpAny_field hz rfl (x := .bool false) rfl ?_)
  show wpAny _ _ (field (.ref z) 3 >>= _) _ _ _
  refine wpAny_bind (wpAny_field hz rfl (x := .ref TI) rfl ?_)
  refine wpAny_bind (wpAny_seqItems hTI rfl ?_)
  show wpAny _ _ (Builtin.SmallTypes.ownedTupleIsFree (.ref z) >>= _) _ _ _
  refine wpAny_bind (wpAny_tupleHeld_zip hz hT fun h₁ hz₁ hs₁ => ?_)
  replace hs₁ : Heap.SameBut z hp h₁ := hs₁
  simp only [Bool.false_eq_true, if_false]
  refine wpAny_bind ?_
  rw [← Array.forIn_toList]
  simp only [List.forIn_cons, List.forIn_nil]
  refine wpAny_bind (wpAny_bind (wpAny_holding ?_))
  show wpAny _ _ (Builtin.SmallTypes.nextOf (.ref i1) >>= _) _ _ ⟨h₁, g, d, tk0, os⟩
  refine wpAny_bind (D1.item i _ _ _ hlt1 (D1.over st1 hs₁ S.zf1) fun x1 p1 tk1 hx1 sn1 hp1 => wpAny_pure ?_)
  replace hp1 : Heap.SameBut i1 h₁ p1 := hp1
  refine wpAny_pure ?_
  refine wpAny_bind (wpAny_bind (wpAny_holding ?_))
  show wpAny _ _ (Builtin.SmallTypes.nextOf (.ref i2) >>= _) _ _ ⟨p1, g, d, tk1, os⟩
  refine wpAny_bind (D2.item i _ _ _ hlt2 (D2.over (D2.over st2 hs₁ S.zf2) hp1 S.sep1_2) fun x2 p2 tk2 hx2 sn2 hp2 => wpAny_pure ?_)
  replace hp2 : Heap.SameBut i2 p1 p2 := hp2
  refine wpAny_pure (wpAny_pure ?_)
  show wpAny _ _ (newTuple [x1, x2] >>= _) _ _ _
  refine wpAny_bind (wpAny_newTuple ?_)
  have hsz : p2.objs.size = hp.objs.size := by rw [hp2.1, hp1.1, hs₁.1]
  have hz₃ : IsZipHeld p2 z TI TO T true := hp2.extBut _ _ S.zi2 (hp1.extBut _ _ S.zi1 hz₁)
  have hk : ∀ c o, c ≠ z → c ≠ i1 → c ≠ i2 → hp.get? c = some o → p2.get? c = some o := fun c o c1 c2 c3 e => hp2.extBut _ _ c3 (hp1.extBut _ _ c2 (hs₁.extBut _ _ c1 e))
  have hj1 : St1 (i + 1) p2 := D1.over sn1 hp2 S.sep2_1
  refine wpAny_pure ⟨_, rfl, ?_⟩
  show Q (.ref p2.objs.size) _
  have hp : IsTupOf2 (p2.push { cls := .type "tuple", data := .seq #[x1, x2] }) p2.objs.size x1 x2 := Heap.get?_push_size _ rfl
  have hz4 : (p2.push { cls := .type "tuple", data := .seq #[x1, x2] }).objs.size = p2.objs.size + 1 := Heap.size_push ..
  rw [hsz] at hp hz4 ⊢
  exact hQ x1 x2 _ tk2 hx1 hx2 (Heap.get?_push_of_some _ hz₃) (D1.frame _ _ _ hj1 fun b _ o e => Heap.get?_push_of_some _ e) (D2.frame _ _ _ sn2 fun b _ o e => Heap.get?_push_of_some _ e) hp hz4 fun c o c1 c2 c3 e => Heap.get?_push_of_some _ (hk c o c1 c2 c3 e)
theorem end_held {Q : Fin → Shared → Prop} (S : ZipSep2 z TI TO i1 i2 fp1 fp2) (D1 : Draws prog w A i1 fp1 n1 P1 St1) (D2 : Draws prog w A i2 fp2 n2 P2 St2)
    (hz : IsZipHeld s.heap z TI TO T f) (hT : s.heap.get? T = some oT) (hTI : IsTupOf2 s.heap TI (.ref i1) (.ref i2)) (st1 : St1 i s.heap) (st2 : St2 i s.heap) (hle1 : i ≤ n1) (hle2 : i ≤ n2) (hend : i = n1 ∨ i = n2)
    (hE : ∀ h' tk e, (∀ c o, c ≠ z → c ≠ i1 → c ≠ i2 → s.heap.get? c = some o → h'.get? c = some o) → (∃ o, h'.get? e = some o ∧ o.cls = .type "StopIteration") → E (.ref e) { s with heap := h', toks := tk }) :
    wpAny (model prog w) A (Builtin.«zip.__next__» ⟨[.ref z], []⟩) Q E s := by
  obtain ⟨hp, g, d, tk0, os⟩ := s
  show wpAny _ _ (field (.ref z) 2 >>= _) _ _ _
  refine wpAny_bind (wpAny_field hz rfl (x := .bool false) rfl ?_)
  show wpAny _ _ (field (.ref z) 3 >>= _) _ _ _
  refine wpAny_bind (wpAny_field hz rfl (x := .ref TI) rfl ?_)
  refine wpAny_bind (wpAny_seqItems hTI rfl ?_)
  show wpAny _ _ (Builtin.SmallTypes.ownedTupleIsFree (.ref z) >>= _) _ _ _
  refine wpAny_bind (wpAny_tupleHeld_zip hz hT fun h₁ hz₁ hs₁ => ?_)
  replace hs₁ : Heap.SameBut z hp h₁ := hs₁
  simp only [Bool.false_eq_true, if_false]
  refine wpAny_bind ?_
  rw [← Array.forIn_toList]
  simp only [List.forIn_cons, List.forIn_nil]
  refine wpAny_bind (wpAny_bind (wpAny_holding ?_))
  show wpAny _ _ (Builtin.SmallTypes.nextOf (.ref i1) >>= _) _ _ ⟨h₁, g, d, tk0, os⟩
  by_cases hlt1 : i < n1
  · refine wpAny_bind (D1.item i _ _ _ hlt1 (D1.over st1 hs₁ S.zf1) fun x1 p1 tk1 hx1 sn1 hp1 => wpAny_pure ?_)
    replace hp1 : Heap.SameBut i1 h₁ p1 := hp1
    refine wpAny_pure ?_
    refine wpAny_bind (wpAny_bind (wpAny_holding ?_))
    show wpAny _ _ (Builtin.SmallTypes.nextOf (.ref i2) >>= _) _ _ ⟨p1, g, d, tk1, os⟩
    have hi2 : i = n2 := by omega
    refine wpAny_bind (D2.done ⟨p1, g, d, tk1, os⟩ _ _ (by rw [← hi2]; exact D2.over (D2.over st2 hs₁ S.zf2) hp1 S.sep1_2) fun q e hq he => ?_)
    replace hq : Heap.ExtBut i2 p1 q := hq
    exact hE q tk1 e (fun c o cz c1 c2 x => hq _ _ c2 (hp1.extBut _ _ c1 (hs₁.extBut _ _ cz x))) he
  · have hi1 : i = n1 := by omega
    refine wpAny_bind (D1.done ⟨h₁, g, d, tk0, os⟩ _ _ (by rw [← hi1]; exact D1.over st1 hs₁ S.zf1) fun q e hq he => ?_)
    replace hq : Heap.ExtBut i1 h₁ q := hq
    exact hE q tk0 e (fun c o cz c1 c2 x => hq _ _ c1 (hs₁.extBut _ _ cz x)) he
theorem pyNext_held {Q : Option Value → Shared → Prop} (S : ZipSep2 z TI TO i1 i2 fp1 fp2) (D1 : Draws prog w A.in1 i1 fp1 n1 P1 St1) (D2 : Draws prog w A.in1 i2 fp2 n2 P2 St2)
    (hz : IsZipHeld s.heap z TI TO T f) (hT : s.heap.get? T = some oT) (hTI : IsTupOf2 s.heap TI (.ref i1) (.ref i2)) (st1 : St1 i s.heap) (st2 : St2 i s.heap) (hlt1 : i < n1) (hlt2 : i < n2)
    (hQ : ∀ x1 x2 h' tk, P1 i x1 → P2 i x2 → IsZipHeld h' z TI TO T true → St1 (i + 1) h' → St2 (i + 1) h' → IsTupOf2 h' s.heap.objs.size x1 x2 → h'.objs.size = s.heap.objs.size + 1 →
      (∀ c o, c ≠ z → c ≠ i1 → c ≠ i2 → s.heap.get? c = some o → h'.get? c = some o) → Q (some (.ref s.heap.objs.size)) { s with heap := h', toks := tk }) :
    wpAny (model prog w) A (pyNext (.ref z)) Q E s := by
  have hTy : s.TypeIs (.ref z) "zip" := ⟨_, hz, rfl⟩
  unfold pyNext
  exact wpAny_bind (wpAny_attempt (wpAny_callSpecial?_slot (name := Str.ofString "__next__") hTy F.slot_zip_next
    (wpAny_call_entry F.slot_zip_next hTy F.entry_zip_next
      (next_held S D1 D2 hz hT hTI st1 st2 hlt1 hlt2 fun x1 x2 h' tk y1 y2 b1 d1 d2 b5 b6 b7 => wpAny_pure (hQ x1 x2 h' tk y1 y2 b1 d1 d2 b5 b6 b7)) (F.args_zip_next_1 _))))
theorem pyEnd_held {Q : Option Value → Shared → Prop} (S : ZipSep2 z TI TO i1 i2 fp1 fp2) (D1 : Draws prog w A.in1 i1 fp1 n1 P1 St1) (D2 : Draws prog w A.in1 i2 fp2 n2 P2 St2)
    (hz : IsZipHeld s.heap z TI TO T f) (hT : s.heap.get? T = some oT) (hTI : IsTupOf2 s.heap TI (.ref i1) (.ref i2)) (st1 : St1 i s.heap) (st2 : St2 i s.heap) (hle1 : i ≤ n1) (hle2 : i ≤ n2) (hend : i = n1 ∨ i = n2)
    (hQ : ∀ h' tk, (∀ c o, c ≠ z → c ≠ i1 → c ≠ i2 → s.heap.get? c = some o → h'.get? c = some o) → Q none { s with heap := h', toks := tk }) : wpAny (model prog w) A (pyNext (.ref z)) Q E s := by
  have hTy : s.TypeIs (.ref z) "zip" := ⟨_, hz, rfl⟩
  unfold pyNext
  refine wpAny_bind (wpAny_attempt (wpAny_callSpecial?_slot (name := Str.ofString "__next__") hTy F.slot_zip_next
    (wpAny_call_entry F.slot_zip_next hTy F.entry_zip_next (end_held S D1 D2 hz hT hTI st1 st2 hle1 hle2 hend fun h' tk e hk he => ?_) (F.args_zip_next_1 _))))
  obtain ⟨o, ho, hc⟩ := he
  refine wpAny_bind (wpAny_isInstance (T := "StopIteration") (b := true) ⟨o, ho, hc⟩ isSubtype_stop ?_)
  exact wpAny_pure (hQ _ _ hk)
theorem znext {L : Addr} {Q : Option Value → Shared → Prop} (S : ZipSep2 z TI TO i1 i2 fp1 fp2) (D1 : Draws prog w A.in1 i1 fp1 n1 P1 St1) (D2 : Draws prog w A.in1 i2 fp2 n2 P2 St2) (hst : ZSt z TI TO i1 i2 L St1 St2 i s.heap) (hL : L < s.heap.objs.size) (hlt1 : i < n1) (hlt2 : i < n2)
    (hQ : ∀ x1 x2 h' tk, P1 i x1 → P2 i x2 → ZSt z TI TO i1 i2 L St1 St2 (i + 1) h' → IsTupOf2 h' s.heap.objs.size x1 x2 → h'.objs.size = s.heap.objs.size + 1 →
      (∀ c o, c ≠ z → c ≠ TO → c ≠ i1 → c ≠ i2 → s.heap.get? c = some o → h'.get? c = some o) → Q (some (.ref s.heap.objs.size)) { s with heap := h', toks := tk }) :
    wpAny (model prog w) A (pyNext (.ref z)) Q E s := by
  obtain ⟨hTI, s1, s2, hz⟩ := hst
  have lt : ∀ {c o}, s.heap.get? c = some o → s.heap.objs.size ≠ c := fun e => Nat.ne_of_gt (Heap.lt_size e)
  have m1 : s.heap.objs.size ≠ i1 := let ⟨_, e⟩ := D1.live _ _ s1; lt e
  have m2 : s.heap.objs.size ≠ i2 := let ⟨_, e⟩ := D2.live _ _ s2; lt e
  rcases hz with ⟨hz, a, b, hTO⟩ | ⟨T, f, oT, hz, hT, r1, r2, r3, r4⟩
  · refine wpAny_pyNext_zipD2_item S D1 D2 hz hTI hTO s1 s2 hlt1 hlt2 fun x1 x2 h' tk p1 p2 hz' hTO' t1 t2 hT hsz hk => ?_
    exact hQ x1 x2 h' tk p1 p2 ⟨hk _ _ S.TIz S.TITO S.TIi1 S.TIi2 hTI, t1, t2, .inr ⟨s.heap.objs.size, false, _, hz', hT, lt hz, m1, m2, Nat.ne_of_gt hL⟩⟩ hT hsz hk
  · refine pyNext_held S D1 D2 hz hT hTI s1 s2 hlt1 hlt2 fun x1 x2 h' tk p1 p2 hz' t1 t2 hT' hsz hk => ?_
    exact hQ x1 x2 h' tk p1 p2 ⟨hk _ _ S.TIz S.TIi1 S.TIi2 hTI, t1, t2, .inr ⟨T, true, oT, hz', hk _ _ r1 r2 r3 hT, r1, r2, r3, r4⟩⟩ hT' hsz fun c o c1 _ c3 c4 e => hk c o c1 c3 c4 e
theorem zdone {L : Addr} {Q : Option Value → Shared → Prop} (S : ZipSep2 z TI TO i1 i2 fp1 fp2) (D1 : Draws prog w A.in1 i1 fp1 n1 P1 St1) (D2 : Draws prog w A.in1 i2 fp2 n2 P2 St2) (hst : ZSt z TI TO i1 i2 L St1 St2 i s.heap) (hle1 : i ≤ n1) (hle2 : i ≤ n2) (hend : i = n1 ∨ i = n2)
    (hQ : ∀ h' tk, (∀ c o, c ≠ z → c ≠ TO → c ≠ i1 → c ≠ i2 → s.heap.get? c = some o → h'.get? c = some o) → Q none { s with heap := h', toks := tk }) :
    wpAny (model prog w) A (pyNext (.ref z)) Q E s := by
  obtain ⟨hTI, s1, s2, hz⟩ := hst
  rcases hz with ⟨hz, a, b, hTO⟩ | ⟨T, f, oT, hz, hT, r1, r2, r3, r4⟩
  · exact wpAny_pyNext_zipD2_end S D1 D2 hz hTI hTO s1 s2 hle1 hle2 hend hQ
  · exact pyEnd_held S D1 D2 hz hT hTI s1 s2 hle1 hle2 hend fun h' tk hk => hQ h' tk fun c o c1 _ c3 c4 e => hk c o c1 c3 c4 e
end
section
variable {prog : Program} {w : World} {A : Around} {E : Value → Shared → Prop} {s : Shared} {z TI TO i1 i2 T : Addr} {fp1 fp2 : List Addr} {n1 n2 i : Nat} {P1 P2 : Nat → Value → Prop} {St1 St2 : Nat → Heap → Prop}
theorem loopZ {L lo : Addr} {R : Result → Shared → Prop} (S : ZipSep2 z TI TO i1 i2 fp1 fp2) (D1 : Draws prog w A.in1.in1 i1 fp1 n1 P1 St1) (D2 : Draws prog w A.in1.in1 i2 fp2 n2 P2 St2) (off : Off z TI TO fp1 fp2 L) (hn : min n1 n2 ≤ sizeLine) (res : Value) {h₁ : Heap} (low : ∀ b, b = L ∨ b = z ∨ b = TO ∨ b = i1 ∨ b = i2 → b < lo)
    (hR : ∀ h' tk acc c as, (∀ b o, b ≠ L → b ≠ z → b ≠ TO → b ≠ i1 → b ≠ i2 → h₁.get? b = some o → h'.get? b = some o) → h'.get? L = some { cls := .type "list", dict := none, data := .seq acc c, slots := #[] } → as.length = min n1 n2 → Made P1 P2 lo h' as →
      acc.toList = as.map Value.ref → R (.ok (.ret res)) { s with heap := h', toks := tk }) :
    ∀ (k i : Nat) (h : Heap) (tk c : Nat) (acc : Array Value) (as : List Addr), min n1 n2 - i = k → i ≤ min n1 n2 → ZSt z TI TO i1 i2 L St1 St2 i h → (∀ b o, b ≠ L → b ≠ z → b ≠ TO → b ≠ i1 → b ≠ i2 → h₁.get? b = some o → h.get? b = some o) →
      h.get? L = some { cls := .type "list", dict := none, data := .seq acc c, slots := #[] } → acc.toList = as.map Value.ref → as.length = i → Made P1 P2 lo h as → lo ≤ h.objs.size →
      codeAny (model prog w) A (.builtin "list.extend.loop" ⟨[.ref L, .ref z, res], []⟩) R { s with heap := h, toks := tk } := by
  have l1 : L ≠ i1 := fun q => off.f1 (q ▸ S.mem1)
  have l2 : L ≠ i2 := fun q => off.f2 (q ▸ S.mem2)
  intro k
  induction k with
  | zero =>
    intro i h tk c acc as hk hi hst hkeep hL hacc hal hG hlo
    refine codeAny_builtin PySem.F.entry_extend_loop ?_
    rw [Around.under_plainId PySem.F.plain_extend_loop _]
    show wpAny _ A.in1 (pyNext (.ref z) >>= _) _ _ _
    have e : i = min n1 n2 := by omega
    refine wpAny_bind (zdone (s := { s with heap := h, toks := tk }) (A := A.in1) S D1 D2 hst (by omega) (by omega) (by omega) fun h' tk' he => ?_)
    refine wpAny_pure (hR h' tk' acc c as (fun b o h1 h2 h3 h4 h5 e => he b o h2 h3 h4 h5 (hkeep b o h1 h2 h3 h4 h5 e)) (he L _ off.z off.TO l1 l2 hL) (by omega) ⟨hG.rise, hG.above, fun j a hj => ?_⟩ hacc)
    obtain ⟨x, y, e1, e2, e3⟩ := hG.pairs j a hj
    have ab := hG.above a (List.mem_of_getElem? hj)
    have ne : ∀ b, b = L ∨ b = z ∨ b = TO ∨ b = i1 ∨ b = i2 → a ≠ b := fun b hb => Nat.ne_of_gt (Nat.lt_of_lt_of_le (low b hb) ab)
    exact ⟨x, y, e1, e2, he a _ (ne z (by simp)) (ne TO (by simp)) (ne i1 (by simp)) (ne i2 (by simp)) e3⟩
  | succ k ih =>
    intro i h tk c acc as hk hi hst hkeep hL hacc hal hG hlo
    have hsz : acc.size = i := by rw [← Array.length_toList, hacc, List.length_map, hal]
    refine codeAny_builtin PySem.F.entry_extend_loop ?_
    rw [Around.under_plainId PySem.F.plain_extend_loop _]
    show wpAny _ A.in1 (pyNext (.ref z) >>= _) _ _ _
    refine wpAny_bind (znext (s := { s with heap := h, toks := tk }) (A := A.in1) (L := L) S D1 D2 hst (Heap.lt_size hL) (by omega) (by omega) fun x1 x2 h' tk' p1 p2 hst' ht hz hkp => ?_)
    dsimp only at ht hz hkp ⊢
    have hL' := hkp L _ off.z off.TO l1 l2 hL
    have up : ∀ b o, b ≠ L → h'.get? b = some o → (h'.update L (Obj.mapSeq (·.push (Value.ref h.objs.size)))).get? b = some o := fun b o hb e => (Heap.get?_update_other _ _ (Ne.symm hb)).trans e
    have hLl : L < h.objs.size := Heap.lt_size hL
    show wpAny _ A.in1 (updateSeq L (·.push (Value.ref h.objs.size)) >>= _) _ _ _
    refine wpAny_bind ?_
    refine wpAny_updateSeq hL' rfl (wpAny_pure ⟨plainId_quiet PySem.F.plain_extend_loop _, ih (i + 1) _ tk' _ (acc.push (Value.ref h.objs.size)) (as ++ [h.objs.size]) (by omega) (by omega) (hst'.keep (A := A.in1) D1 D2 off up)
      (fun b o h1 h2 h3 h4 h5 e => up b o h1 (hkp b o h2 h3 h4 h5 (hkeep b o h1 h2 h3 h4 h5 e))) (Heap.get?_update_self _ hL' rfl) (by rw [Array.toList_push, hacc, List.map_append]; rfl) (by rw [List.length_append, hal]; rfl) ⟨?_, ?_, ?_⟩ ?_⟩) (by rw [hsz]; omega) (by show (acc.push (Value.ref h.objs.size)).size ≤ sizeLine + 1; rw [Array.size_push, hsz]; omega)
    · refine List.pairwise_append.mpr ⟨hG.rise, List.pairwise_singleton _ _, fun a ha b hb => ?_⟩
      rw [List.mem_singleton.mp hb]
      exact hG.there ha
    · intro a ha
      rcases List.mem_append.mp ha with ha | ha
      · exact hG.above a ha
      · rw [List.mem_singleton.mp ha]; exact hlo
    · intro j b hj
      rcases Nat.lt_trichotomy j as.length with h1 | h1 | h1
      · rw [List.getElem?_append_left h1] at hj
        obtain ⟨x, y, e1, e2, e3⟩ := hG.pairs j b hj
        have ab := hG.above b (List.mem_of_getElem? hj)
        have ne : ∀ c, c = L ∨ c = z ∨ c = TO ∨ c = i1 ∨ c = i2 → b ≠ c := fun c hc => Nat.ne_of_gt (Nat.lt_of_lt_of_le (low c hc) ab)
        exact ⟨x, y, e1, e2, up b _ (ne L (by simp)) (hkp b _ (ne z (by simp)) (ne TO (by simp)) (ne i1 (by simp)) (ne i2 (by simp)) e3)⟩
      · subst h1
        have hb : h.objs.size = b := by simpa using hj
        subst hb
        exact ⟨x1, x2, by rw [hal]; exact p1, by rw [hal]; exact p2, up _ _ (Nat.ne_of_gt hLl) ht⟩
      · have hnone : (as ++ [h.objs.size])[j]? = none := List.getElem?_eq_none (by rw [List.length_append, List.length_singleton]; omega)
        rw [hnone] at hj; cases hj
    · have e : (h'.update L (Obj.mapSeq (·.push (Value.ref h.objs.size)))).get? h.objs.size = _ := up _ _ (Nat.ne_of_gt hLl) ht
      exact Nat.le_trans hlo (Nat.le_of_lt (Heap.lt_size e))
theorem zip_no_len : typeLookup (.type "zip") "__len__" = pure none := am_miss_of_fast (by decide +kernel)
theorem zip_no_hint : typeLookup (.type "zip") "__length_hint__" = pure none := am_miss_of_fast (by decide +kernel)
theorem hint_zip {Q : Bool → Shared → Prop} (hT : s.TypeIs (.ref z) "zip") (h : Q true s) : wpAny (model prog w) A (Builtin.List.listLengthHint (.ref z)) Q E s := by
  unfold Builtin.List.listLengthHint
  refine wpAny_bind (wpAny_specialOf hT zip_no_len ?_)
  refine wpAny_bind (wpAny_specialOf hT zip_no_hint ?_)
  exact wpAny_pure h
theorem extZ {L c₀ : Nat} {R : Result → Shared → Prop} (S : ZipSep2 z TI TO i1 i2 fp1 fp2) (D1 : Draws prog w A.in1.in1 i1 fp1 n1 P1 St1) (D2 : Draws prog w A.in1.in1 i2 fp2 n2 P2 St2) (off : Off z TI TO fp1 fp2 L) (hn : min n1 n2 ≤ sizeLine) (res : Value) (low : ∀ b, b = L ∨ b = z ∨ b = TO ∨ b = i1 ∨ b = i2 → b < s.heap.objs.size)
    (hz : IsZip s.heap z TI TO .none) (hTI : IsTupOf2 s.heap TI (.ref i1) (.ref i2)) (hTO : ∃ a b, IsTupOf2 s.heap TO a b) (s1 : St1 0 s.heap) (s2 : St2 0 s.heap) (hL : s.heap.get? L = some { cls := .type "list", data := .seq #[] c₀ })
    (hR : ∀ h' tk acc c as, (∀ b o, b ≠ L → b ≠ z → b ≠ TO → b ≠ i1 → b ≠ i2 → s.heap.get? b = some o → h'.get? b = some o) → h'.get? L = some { cls := .type "list", dict := none, data := .seq acc c, slots := #[] } → as.length = min n1 n2 → Made P1 P2 s.heap.objs.size h' as →
      acc.toList = as.map Value.ref → R (.ok (.ret res)) { s with heap := h', toks := tk }) :
    wpAny (model prog w) A.in1 (Builtin.List.listExtendWith (.ref L) (.ref z) res)
      (fun fin s' => match fin with | .done f => R (.ok f) s' | .again c' => c'.quiet = true ∧ codeAny (model prog w) A c' R s') (fun e s' => R (.error e) s') s := by
  have hT : s.TypeIs (.ref z) "zip" := ⟨_, hz, rfl⟩
  have key : ∀ (h : Heap) (c₁ tk : Nat), h.objs.size = s.heap.objs.size → (∀ b o, b ≠ L → s.heap.get? b = some o → h.get? b = some o) →
      h.get? L = some { cls := .type "list", data := .seq #[] c₁ } → codeAny (model prog w) A (.builtin "list.extend.loop" ⟨[.ref L, .ref z, res], []⟩) R { s with heap := h, toks := tk } := by
    intro h c₁ tk hsz hk hL₁
    have st : ZSt z TI TO i1 i2 L St1 St2 0 h := by
      obtain ⟨a, b, hTO⟩ := hTO
      exact (show ZSt z TI TO i1 i2 L St1 St2 0 s.heap from ⟨hTI, s1, s2, .inl ⟨hz, a, b, hTO⟩⟩).keep (A := A.in1) D1 D2 off hk
    refine loopZ (s := s) (h₁ := s.heap) (L := L) (lo := s.heap.objs.size) S D1 D2 off hn res low (fun h' tk' acc c as hk' hS' hl hG hacc => hR h' tk' acc c as hk' hS' hl hG hacc)
      (min n1 n2) 0 h tk c₁ #[] [] (Nat.sub_zero _) (Nat.zero_le _) st (fun b o hb _ _ _ _ e => hk b o hb e) hL₁ rfl rfl
      ⟨List.Pairwise.nil, (fun _ ha => nomatch ha), (fun j a hj => by simp at hj)⟩ (Nat.le_of_eq hsz.symm)
  unfold Builtin.List.listExtendWith
  refine wpAny_bind (wpAny_typeOf (T := "zip") hT ?_)
  have h1 : Builtin.List.listSameRef (.ref L) (.ref z) = false := by simp [Builtin.List.listSameRef, off.z]
  have h2 : (Value.type "zip" == Value.type "list") = false := by decide
  have h3 : (Value.type "zip" == Value.type "tuple") = false := by decide
  simp only [h1, h2, h3, Bool.or_false, Bool.false_eq_true, if_false]
  refine wpAny_bind (wpAny_pyIter_zip hz ?_)
  refine wpAny_bind (wpAny_holding (hint_zip hT ?_))
  refine wpAny_ite_split (fun _ => ?_) (fun _ => wpAny_pure ⟨plainId_quiet PySem.F.plain_extend_loop _, key _ c₀ _ rfl (fun b o _ e => e) hL⟩)
  refine wpAny_bind (wpAny_rule ?_)
  refine wpAny_bind ?_
  show wpAny _ _ (updateSeq L (·.push .none) >>= fun _ => updateSeq L (·.pop)) _ _ _
  refine wpAny_bind (wpAny_updateSeq hL rfl ?_)
  have hS₂ := Heap.get?_update_self (Obj.mapSeq (·.push Value.none)) hL rfl
  refine wpAny_updateSeq (hz := by seq_fits) hS₂ rfl ?_
  have hS₃ := Heap.get?_update_self (Obj.mapSeq (·.pop)) hS₂ rfl
  refine wpAny_pure ⟨plainId_quiet PySem.F.plain_extend_loop _, key _ _ _ ?_ (fun b o hb e => ?_) hS₃⟩
  · rw [Heap.size_update, Heap.size_update]
  · exact (Heap.get?_update_other _ _ (Ne.symm hb)).trans ((Heap.get?_update_other _ _ (Ne.symm hb)).trans e)
theorem initZ {L : Nat} {R : Result → Shared → Prop} (S : ZipSep2 z TI TO i1 i2 fp1 fp2) (D1 : Draws prog w A.in1.in1 i1 fp1 n1 P1 St1) (D2 : Draws prog w A.in1.in1 i2 fp2 n2 P2 St2) (off : Off z TI TO fp1 fp2 L) (hn : min n1 n2 ≤ sizeLine) (low : ∀ b, b = L ∨ b = z ∨ b = TO ∨ b = i1 ∨ b = i2 → b < s.heap.objs.size)
    (hz : IsZip s.heap z TI TO .none) (hTI : IsTupOf2 s.heap TI (.ref i1) (.ref i2)) (hTO : ∃ a b, IsTupOf2 s.heap TO a b) (s1 : St1 0 s.heap) (s2 : St2 0 s.heap) (hL : s.heap.get? L = some { cls := .type "list", data := .seq #[] })
    (hR : ∀ h' tk acc c as, (∀ b o, b ≠ L → b ≠ z → b ≠ TO → b ≠ i1 → b ≠ i2 → s.heap.get? b = some o → h'.get? b = some o) → h'.get? L = some { cls := .type "list", dict := none, data := .seq acc c, slots := #[] } → as.length = min n1 n2 → Made P1 P2 s.heap.objs.size h' as →
      acc.toList = as.map Value.ref → R (.ok (.ret .none)) { s with heap := h', toks := tk }) :
    wpAny (model prog w) A.in1 (Builtin.«list.__init__» ⟨[.ref L, .ref z], []⟩)
      (fun fin s' => match fin with | .done f => R (.ok f) s' | .again c' => c'.quiet = true ∧ codeAny (model prog w) A c' R s') (fun e s' => R (.error e) s') s := by
  show wpAny _ _ (do let old ← Builtin.List.listItems (.ref L); Builtin.List.listUpdate (.ref L) (fun _ => #[]); letGo old.toList.reverse; Builtin.List.listExtendWith (.ref L) (.ref z) .none) _ _ s
  refine wpAny_bind ?_
  unfold Builtin.List.listItems
  refine wpAny_bind (wpAny_seqItems hL rfl (wpAny_pure ?_))
  show wpAny _ _ (updateSeq L (fun _ => #[]) >>= fun _ => letGo (#[] : Array Value).toList.reverse >>= fun _ => Builtin.List.listExtendWith (.ref L) (.ref z) .none) _ _ s
  refine wpAny_bind (wpAny_updateSeq hL rfl ?_)
  have hS₂ := Heap.get?_update_self (Obj.mapSeq (fun _ => (#[] : Array Value))) hL rfl
  have oth : ∀ b o, b ≠ L → s.heap.get? b = some o → (s.heap.update L (Obj.mapSeq (fun _ => (#[] : Array Value)))).get? b = some o :=
    fun b o hb e => (Heap.get?_update_other _ _ (Ne.symm hb)).trans e
  have hsz : (s.heap.update L (Obj.mapSeq (fun _ => (#[] : Array Value)))).objs.size = s.heap.objs.size := Heap.size_update ..
  refine wpAny_bind (wpAny_letGo ?_)
  obtain ⟨a, b, hTO⟩ := hTO
  refine extZ (L := L) S D1 D2 off hn .none (fun b hb => by rw [hsz]; exact low b hb) (oth _ _ off.z.symm hz) (oth _ _ off.TI.symm hTI) ⟨a, b, oth _ _ off.TO.symm hTO⟩
    (D1.frame _ _ _ s1 fun b hb o e => oth b o (fun q => off.f1 (q ▸ hb)) e) (D2.frame _ _ _ s2 fun b hb o e => oth b o (fun q => off.f2 (q ▸ hb)) e) hS₂ fun h' tk acc c as hk hS hl hG hacc => ?_
  exact hR h' tk acc c as (fun b o h1 h2 h3 h4 h5 e => hk b o h1 h2 h3 h4 h5 (oth b o h1 e)) hS hl ⟨hG.rise, fun a ha => by have := hG.above a ha; rw [hsz] at this; exact this, hG.pairs⟩ hacc
theorem callZ {Q : Value → Shared → Prop} (S : ZipSep2 z TI TO i1 i2 fp1 fp2) (D1 : Draws prog w A.in1.in1.in1 i1 fp1 n1 P1 St1) (D2 : Draws prog w A.in1.in1.in1 i2 fp2 n2 P2 St2) (inb : ∀ b ∈ z :: TI :: TO :: (fp1 ++ fp2), b < s.heap.objs.size) (hn : min n1 n2 ≤ sizeLine)
    (hz : IsZip s.heap z TI TO .none) (hTI : IsTupOf2 s.heap TI (.ref i1) (.ref i2)) (hTO : ∃ a b, IsTupOf2 s.heap TO a b) (s1 : St1 0 s.heap) (s2 : St2 0 s.heap)
    (hQ : ∀ h' tk acc c as, (∀ b o, b ≠ z → b ≠ TO → b ≠ i1 → b ≠ i2 → s.heap.get? b = some o → h'.get? b = some o) → h'.get? s.heap.objs.size = some { cls := .type "list", dict := none, data := .seq acc c, slots := #[] } → as.length = min n1 n2 → Made P1 P2 (s.heap.objs.size + 1) h' as →
      acc.toList = as.map Value.ref → Q (.ref s.heap.objs.size) { s with heap := h', toks := tk }) :
    wpAny (model prog w) A (call (.type "list") [.ref z]) Q E s := by
  refine callType_codes (Q₁ := fun obj s₁ => obj = .ref s.heap.objs.size ∧ s₁ = { s with heap := s.heap.push { cls := .type "list", data := .seq #[] } }) PySem.F.called_list (PySem.F.typeCall_list_1 _) PySem.F.entry_list_init
    (code_list_new _ ⟨rfl, rfl⟩) fun obj s₁ h₁ => ?_
  obtain ⟨rfl, rfl⟩ := h₁
  have hL : (s.heap.push { cls := .type "list", data := .seq #[] }).get? s.heap.objs.size = some { cls := .type "list", data := .seq #[] } := Heap.get?_push_size _ rfl
  have up : ∀ b o, s.heap.get? b = some o → (s.heap.push { cls := .type "list", data := .seq #[] }).get? b = some o := fun b o e => Heap.get?_push_of_some _ e
  have hsz : (s.heap.push ({ cls := .type "list", data := .seq #[] } : Obj)).objs.size = s.heap.objs.size + 1 := Heap.size_push ..
  have off : Off z TI TO fp1 fp2 s.heap.objs.size := ⟨Nat.ne_of_gt (inb z (by simp)), Nat.ne_of_gt (inb TI (by simp)), Nat.ne_of_gt (inb TO (by simp)), fun q => Nat.lt_irrefl _ (inb _ (by simp [q])), fun q => Nat.lt_irrefl _ (inb _ (by simp [q]))⟩
  obtain ⟨a, b, hTO⟩ := hTO
  refine ⟨⟨_, hL, rfl⟩, PySem.F.args_list_init_2 _ _, initZ (A := A.in1) (L := s.heap.objs.size) S D1 D2 off hn (fun b hb => ?_) (up _ _ hz) (up _ _ hTI) ⟨a, b, up _ _ hTO⟩
    (D1.frame _ _ _ s1 fun b _ o e => up b o e) (D2.frame _ _ _ s2 fun b _ o e => up b o e) hL fun h' tk acc c as hk hS hl hG hacc => ?_⟩
  · rw [hsz]
    rcases hb with rfl | rfl | rfl | rfl | rfl
    · exact Nat.lt_succ_self _
    · exact Nat.lt_succ_of_lt (inb _ (by simp))
    · exact Nat.lt_succ_of_lt (inb _ (by simp))
    · exact Nat.lt_succ_of_lt (inb _ (by simp [S.mem1]))
    · exact Nat.lt_succ_of_lt (inb _ (by simp [S.mem2]))
  · exact ⟨rfl, hQ h' tk acc c as (fun b o h2 h3 h4 h5 e => hk b o (Nat.ne_of_lt (Heap.lt_size e)) h2 h3 h4 h5 (up b o e)) hS hl ⟨hG.rise, fun a ha => by have := hG.above a ha; rw [hsz] at this; exact this, hG.pairs⟩ hacc⟩
end
def putP : Hp → List Addr → List (V × V) → Hp
  | H, a :: as, p :: ps => putP (upd H a (.tup [p.1, p.2])) as ps
  | H, _, _ => H
theorem putP_off {b : Addr} : ∀ (as : List Addr) (ps : List (V × V)) (H : Hp), b ∉ as → putP H as ps b = H b
  | [], _, _, _ => rfl
  | _ :: _, [], _, _ => rfl
  | a :: as, p :: ps, H, h => by
    show putP (upd H a (.tup [p.1, p.2])) as ps b = H b
    rw [putP_off as ps _ (fun z => h (List.mem_cons_of_mem _ z)), upd_ne (fun z => h (by rw [z]; exact List.mem_cons_self))]
theorem putP_at : ∀ (as : List Addr) (ps : List (V × V)) (H : Hp), as.length = ps.length → as.Nodup → Paired (fun (t : Addr) (p : V × V) => putP H as ps t = some (.tup [p.1, p.2])) as ps
  | [], [], _, _, _ => .nil
  | [], _ :: _, _, h, _ => by cases h
  | _ :: _, [], _, h, _ => by cases h
  | a :: as, p :: ps, H, h, hn => by
    have hn' := List.nodup_cons.mp hn
    have ih := putP_at as ps (upd H a (.tup [p.1, p.2])) (Nat.succ.inj h) hn'.2
    refine .cons ?_ ih
    show putP (upd H a (.tup [p.1, p.2])) as ps a = some (.tup [p.1, p.2])
    rw [putP_off as ps _ hn'.1, upd_same]
section
variable {X : Cx}
theorem laidZ {pins : List (Addr × Obj)} {σ : L2.St} {H : Hp} {s : Shared} {h' : Heap} {tk : Nat} {ps : List (V × V)} {P1 P2 : Nat → Value → Prop} {acc : Array Value} {c L lo : Nat} {as : List Addr} (I : Inv X pins σ H s) (hz : ps.length ≤ sizeLine)
    (h12 : ∀ (j : Nat) (p : V × V) (x y : Value), ps[j]? = some p → P1 j x → P2 j y → RelV p.1 x ∧ RelV p.2 y)
    (hk : ∀ b o, s.heap.get? b = some o → h'.get? b = some o) (hge : s.heap.objs.size ≤ L) (hlo : L < lo) (hS : h'.get? L = some { cls := .type "list", dict := none, data := .seq acc c, slots := #[] }) (hl : as.length = ps.length) (hG : Made P1 P2 lo h' as) (hacc : acc.toList = as.map Value.ref) :
    H L = none ∧ (∀ t ∈ as, H t = none) ∧ L ∉ as ∧ as.Nodup ∧ Inv X pins σ (upd (putP H as ps) L (.lst (as.map V.ref))) { s with heap := h', toks := tk } := by
  have hSn : L ∉ as := fun z => Nat.lt_irrefl _ (Nat.lt_of_lt_of_le hlo (hG.above _ z))
  have nd : as.Nodup := List.Pairwise.imp (fun {a b} (h : a < b) => Nat.ne_of_lt h) hG.rise
  have hgt : ∀ t ∈ as, s.heap.objs.size ≤ t := fun t ht => Nat.le_trans hge (Nat.le_of_lt (Nat.lt_of_lt_of_le hlo (hG.above t ht)))
  have new : ∀ t ∈ as, H t = none := fun t ht => I.hok.fresh (hgt t ht)
  have newS : H L = none := I.hok.fresh hge
  have atP := putP_at as ps H hl nd
  have off : ∀ b, b ∉ as → b ≠ L → upd (putP H as ps) L (.lst (as.map V.ref)) b = H b := fun b h1 h2 => by rw [upd_ne h2, putP_off as ps _ h1]
  have low : ∀ b o, s.heap.get? b = some o → b ∉ as ∧ b ≠ L := fun b o e => ⟨fun z => absurd (Heap.lt_size e) (Nat.not_lt.mpr (hgt b z)), Nat.ne_of_lt (Nat.lt_of_lt_of_le (Heap.lt_size e) hge)⟩
  have kp : ∀ b u, H b = some u → (upd (putP H as ps) L (.lst (as.map V.ref))) b = some u := fun b u e => by
    rw [off b (fun z => by rw [new b z] at e; cases e) (fun z => by rw [z, newS] at e; cases e)]
    exact e
  have eS : upd (putP H as ps) L (.lst (as.map V.ref)) L = some (.lst (as.map V.ref)) := upd_same
  refine ⟨newS, new, hSn, nd, ?_⟩
  refine I.call' (ch := []) rfl ⟨fun b o q _ _ _ => hk b o q, fun b o q _ _ _ => ⟨o.slots, hk b o q⟩, fun b o q n _ => ?_, fun b o q _ => ⟨o, hk b o q⟩, fun b xs q => kp b _ q, fun b o u q => kp b _ q, fun b ps q => ⟨#[], by rw [kp b _ q]; simp⟩⟩ (fun b u q => ?_) I.bare fun b z => by simp at z
  · obtain ⟨z1, z2⟩ := low b o q
    rw [off b z1 z2]
    exact n
  · by_cases hb : b ∈ as
    · obtain ⟨j, pk, e1, e2, e3⟩ := LiI.paired_ix atP hb
      have e3 : upd (putP H as ps) L (.lst (as.map V.ref)) b = some (.tup [pk.1, pk.2]) := by rw [upd_ne (fun z => hSn (by rw [← z]; exact hb))]; exact e3
      rw [e3] at q
      cases q
      obtain ⟨x, y, f1, f2, f3⟩ := hG.pairs j b e1
      obtain ⟨r1, r2⟩ := h12 j pk x y e2 f1 f2
      exact ⟨by show 2 ≤ sizeLine; decide, [x, y], .cons r1 (.cons r2 .nil), ⟨_, f3, rfl, _, rfl⟩⟩
    · by_cases hb2 : b = L
      · rw [hb2] at q ⊢
        rw [eS] at q
        cases q
        refine ⟨by rw [List.length_map]; omega, acc.toList, c, by rw [hacc]; exact LiI.vals_refs as, ?_⟩
        rw [Array.toArray_toList]
        exact hS
      · rw [off b hb hb2] at q
        exact (I.hok b u q).stay (fun d v _ y => hk d v y) (fun d y => kp d _ y) fun d xs y => kp d _ y
def rZipL (K : PySem.W.Frag) : List V → Hp → VK → Prop := fun vs H Q => ∃ (a b : Addr) (xs ys : List V), vs = [.ref a, .ref b] ∧ SqT K H a xs ∧ SqT K H b ys ∧ ∀ (p : Addr) (as : List Addr), H p = none → (∀ t ∈ as, H t = none) → p ∉ as → as.Nodup → as.length = (xs.zip ys).length → Q (.ref p) (upd (putP H as (xs.zip ys)) p (.lst (as.map V.ref)))
theorem vals_get : ∀ {xs : List V} {us : List Value}, Vals xs us → ∀ {j : Nat} {x : V} {u : Value}, xs[j]? = some x → us[j]? = some u → RelV x u
  | _, _, .nil, j, _, _, h, _ => by cases h
  | _, _, .cons r _, 0, _, _, h, h' => by cases h; cases h'; exact r
  | _, _, .cons _ t, j + 1, _, _, h, h' => vals_get t h h'
def tListZip (K : PySem.W.Frag) (ta : TA) : TE := fun σ H Q => ta σ H fun vs H1 => rZipL K vs H1 Q
/-- list(zip(a, b)), a and b tuples -/
theorem pe_listZip {a b : Expr} {ta : TA} {p p2 pos pos2 : Pos} (hc : X.calm = true) (hg : Gl X "list") (hm : X.mg "list" = none) (hg2 : Gl X "zip") (hm2 : X.mg "zip" = none) (ha : PA X [a, b] ta) (hs : starEach [a, b] X.env = (false, eval a X.env) :: starEach [b] X.env := by rfl) (hpl : (backTo pos2 (starEach [b] X.env)).any (·.1) = false := by rfl)
    (hsz : starEach [.Call (.Name "zip" p2) [a, b] [] pos2] X.env = (false, eval (.Call (.Name "zip" p2) [a, b] [] pos2) X.env) :: starEach [] X.env := by rfl) :
    PE X (.Call (.Name "list" p) [.Call (.Name "zip" p2) [a, b] [] pos2] [] pos) (tListZip X.K ta) := by
  refine ⟨fun pins s σ H Q I hq => ?_⟩
  refine wpAny_Call_Name_kw (ld_blt I hg hm (show bootBuiltins "list" = some (.type "list") by decide +kernel) ?_)
  refine PyProof.Rows.callWith_type1 ?_ hsz rfl
  rw [hsz]
  show wpAny _ _ (spliced ((false, eval (.Call (.Name "zip" p2) [a, b] [] pos2) X.env) :: backTo pos (starEach [] X.env))) _ _ s
  refine Calls.spliced_cons ?_
  refine wpAny_Call_Name_kw (ld_blt I hg2 hm2 PyProof.Rows.boot_zip ?_)
  refine PyProof.Rows.callWith_type1 (thn (ha.run pos2 pins s σ H _ I hq) fun us s1 ⟨vs, H1, I1, r1, q1⟩ => ?_) hs hpl
  obtain ⟨l, m, xs, ys, ex, hqx, hqy, q⟩ := q1
  subst ex
  cases r1 with
  | cons r rr =>
    cases rr with
    | cons r' rr =>
      cases rr
      cases r
      cases r'
      obtain ⟨its, rv, p1, z1⟩ := I1.tuple hqx
      obtain ⟨its2, rv2, p2', z2⟩ := I1.tuple hqy
      obtain ⟨o1, ho1, _⟩ := id p1
      obtain ⟨o2, ho2, _⟩ := id p2'
      have lx : xs.length = its.length := rv.length
      have ly : ys.length = its2.length := rv2.length
      refine zip_begins2 (begins_tuple l its.toArray) (begins_tuple m its2.toArray) p1 p2' fun h' hz hTI hTO h1 h2 hsz' hk => ?_
      have hh : X.A.handled = none := I1.ok.hd hc
      have D1 := Draws.tuple (prog := X.prog) (w := X.w) (A := X.A.in1.in1.in1) hh s1.heap.objs.size l (Nat.ne_of_lt (Heap.lt_size ho1)) its.toArray
      have D2 := Draws.tuple (prog := X.prog) (w := X.w) (A := X.A.in1.in1.in1) hh (s1.heap.objs.size + 1) m (Nat.ne_of_lt (Nat.lt_succ_of_lt (Heap.lt_size ho2))) its2.toArray
      have S := zip_sep2 (N := s1.heap.objs.size) (fp1 := [l]) (fp2 := [m]) (by simpa using Heap.lt_size ho1) (by simpa using Heap.lt_size ho2)
      have inb : ∀ b ∈ (s1.heap.objs.size + 4) :: (s1.heap.objs.size + 2) :: (s1.heap.objs.size + 3) :: ([s1.heap.objs.size, l] ++ [s1.heap.objs.size + 1, m]), b < h'.objs.size := fun b hb => by
        rw [hsz']
        have e1 := Heap.lt_size ho1
        have e2 := Heap.lt_size ho2
        simp only [List.mem_cons, List.cons_append, List.nil_append, List.not_mem_nil, or_false] at hb
        rcases hb with rfl | rfl | rfl | rfl | rfl | rfl | rfl
        · exact Nat.add_lt_add_left (by decide) _
        · exact Nat.add_lt_add_left (by decide) _
        · exact Nat.add_lt_add_left (by decide) _
        · exact Nat.lt_add_of_pos_right (by decide)
        · exact Nat.lt_of_lt_of_le e1 (Nat.le_add_right _ _)
        · exact Nat.add_lt_add_left (by decide) _
        · exact Nat.lt_of_lt_of_le e2 (Nat.le_add_right _ _)
      have hn : min its.toArray.size its2.toArray.size ≤ sizeLine := by
        rw [List.size_toArray, List.size_toArray, ← lx, ← ly]
        exact Nat.le_trans (Nat.min_le_left ..) z1
      refine Calls.spliced_nil ?_
      refine callZ (s := { s1 with heap := h' }) S D1 D2 inb hn hz hTI ⟨_, _, hTO⟩ ⟨⟨_, h1, rfl, rfl⟩, Heap.IsTuple.at (show s1.heap.IsTuple l its.toArray from p1) fun o e => hk l o e⟩ ⟨⟨_, h2, rfl, rfl⟩, Heap.IsTuple.at (show s1.heap.IsTuple m its2.toArray from p2') fun o e => hk m o e⟩ fun h'' tk acc c as hk2 hS hl hG hacc => ?_
      have hk3 : ∀ b o, s1.heap.get? b = some o → h''.get? b = some o := fun b o e => by
        have lt := Heap.lt_size e
        exact hk2 b o (Nat.ne_of_lt (Nat.lt_of_lt_of_le lt (Nat.le_add_right _ _))) (Nat.ne_of_lt (Nat.lt_of_lt_of_le lt (Nat.le_add_right _ _))) (Nat.ne_of_lt lt) (Nat.ne_of_lt (Nat.lt_of_lt_of_le lt (Nat.le_add_right _ _))) (hk b o e)
      have hl' : as.length = (xs.zip ys).length := by rw [hl, List.length_zip, lx, ly, List.size_toArray, List.size_toArray]
      obtain ⟨k1, k2, k3, k4, J⟩ := laidZ (tk := tk) (ps := xs.zip ys) I1 (by rw [← hl', hl]; exact hn) (fun j pk x y e f1 f2 => by
        obtain ⟨g1, g2⟩ := List.getElem?_zip_eq_some.mp e
        rw [List.getElem?_toArray] at f1 f2
        exact ⟨vals_get rv g1 f1, vals_get rv2 g2 f2⟩) hk3 (show s1.heap.objs.size ≤ h'.objs.size by rw [hsz']; exact Nat.le_add_right _ _) (Nat.lt_succ_self _) hS hl' hG hacc
      exact ⟨.ref _, _, J, rfl, q _ as k1 k2 k3 k4 hl'⟩
end
end LzZ
namespace DL
open PySem PySem.Spec PyProof.Rows L2
/-- list(zip(x, y)) of two tuples -/
@[simp] def zipTT : List D → Option (List D)
  | [.tup xs, .tup ys] => some (zipOf xs ys)
  | _ => none
@[simp] def eLstZ (G : AF) : EF := fun ρ b => (G ρ b).bind fun ds b1 => match zipTT ds with
  | some zs => .ok (.lst zs) b1
  | none => .stuck
theorem putP_ok {K : PySem.W.Frag} {C : Cq} {ρ : Env} {b : Bag} {σ : L2.St} : ∀ (as : List Addr) {xs ys : List V} {ds es : List D} {S : Hp} {H : Hp}, OkS K C S ρ b σ H → (∀ t ∈ as, H t = none) → as.Nodup → as.length = (xs.zip ys).length → DRs K C.ba S xs ds → DRs K C.ba S ys es →
    ∃ S', Same S S' ∧ OkS K C S' ρ b σ (LzZ.putP H as (xs.zip ys)) ∧ DRs K C.ba S' (as.map V.ref) (zipOf ds es)
  | [], xs, ys, ds, es, S, H, ok, _, _, hl, r1, r2 => by
    refine ⟨S, Same.refl _, ok, ?_⟩
    have h1 := r1.length
    have h2 := r2.length
    have h3 : (zipOf ds es).length = 0 := by
      rw [zip_lenL, ← h1, ← h2]
      rw [List.length_zip] at hl
      exact hl.symm
    rw [List.length_eq_zero_iff.mp h3]
    exact .nil
  | a :: as, xs, ys, ds, es, S, H, ok, hn, hd, hl, r1, r2 => by
    cases r1 with
    | nil => cases hl
    | cons x1 x2 =>
      cases r2 with
      | nil => cases hl
      | cons y1 y2 =>
        have hd' := List.nodup_cons.mp hd
        have ha := hn a List.mem_cons_self
        obtain ⟨s1, ok1, p1⟩ := pair_of ok ha x1 y1
        obtain ⟨S', s2, ok2, p2⟩ := putP_ok as ok1 (fun t ht => by
          rw [upd_ne (fun e => hd'.1 (by rw [← e]; exact ht))]
          exact hn t (List.mem_cons_of_mem _ ht)) hd'.2 (Nat.succ.inj hl) (x2.up s1) (y2.up s1)
        exact ⟨S', s1.trans s2, ok2, .cons (p1.up s2) p2⟩
section
variable {X : Cx} {C : Cq} {W : WX} {a b : Expr} {p p2 pos pos2 : Pos} {G : AF}
theorem d_listZ (hc : X.calm = true) (hg : Gl X "list") (hm : X.mg "list" = none) (hg2 : Gl X "zip") (hm2 : X.mg "zip" = none) (ha : PA X [a, b] (tDA X.K C W G)) (hs : starEach [a, b] X.env = (false, eval a X.env) :: starEach [b] X.env := by rfl) (hpl : (backTo pos2 (starEach [b] X.env)).any (·.1) = false := by rfl)
    (hsz : starEach [.Call (.Name "zip" p2) [a, b] [] pos2] X.env = (false, eval (.Call (.Name "zip" p2) [a, b] [] pos2) X.env) :: starEach [] X.env := by rfl) :
    PE X (.Call (.Name "list" p) [.Call (.Name "zip" p2) [a, b] [] pos2] [] pos) (tDF X.K C W (eLstZ G)) := pe_imp (LzZ.pe_listZip hc hg hm hg2 hm2 ha hs hpl hsz) fun σ H Q ⟨S, ρ, b, ok, q⟩ => by
  refine ⟨S, ρ, b, ok, ?_⟩
  unfold eLstZ at q
  cases hG : G ρ b with
  | stuck => rw [hG] at q; exact q.elim
  | ex c ns ds => rw [hG] at q; exact q
  | ok ds b1 =>
    rw [hG] at q
    intro S1 H1 e1 ok1 vs r
    have q : OutF X.K C W S ρ σ Q (match zipTT ds with
      | some zs => .ok (.lst zs) b1
      | none => .stuck) := q
    cases hz : zipTT ds with
    | none => rw [hz] at q; exact q.elim
    | some zs =>
      rw [hz] at q
      have q : ∀ S' H' p u, Same S S' → OkF X.K C S' ρ b1 σ H' p u → ODR X.K C.ba S' u (.lst zs) → Q (.ref p) H' := q
      unfold zipTT at hz
      split at hz
      · cases hz
        cases r with
        | cons r1 r2 =>
          cases r2 with
          | cons r2 r3 =>
            cases r3
            cases r1 with
            | tup h1 h2 =>
              cases r2 with
              | tup h3 h4 =>
                refine ⟨_, _, _, _, rfl, seqT ok1.core.sub h1, seqT ok1.core.sub h3, fun p as hp hn hpn hd hl => ?_⟩
                obtain ⟨S2, s2, ok2, p2⟩ := putP_ok as ok1 hn hd hl h2 h4
                exact q S2 _ p _ (e1.trans s2) (ok2.fresh (by rw [LzZ.putP_off as _ _ hpn]; exact hp)) (.lst p2)
      · cases hz
end
end DL

set_option maxHeartbeats 2000000
namespace DL
open PySem PySem.Spec PyProof.Rows L2
def mergeT (acc : List (List Key × V)) (kvs : List (List Key × Addr × V)) : List (List Key × V) := kvs.foldl (fun acc kv => putK acc kv.1 kv.2.2) acc
theorem mergeT_len : ∀ (kvs : List (List Key × Addr × V)) (acc : List (List Key × V)), (mergeT acc kvs).length ≤ acc.length + kvs.length
  | [], acc => Nat.le_refl _
  | p :: r, acc => by
    have h1 := mergeT_len r (putK acc p.1 p.2.2)
    have h2 := length_putK acc p.1 p.2.2
    show (mergeT (putK acc p.1 p.2.2) r).length ≤ _
    rw [List.length_cons]
    omega
section
variable {X : Cx}
abbrev TPair (H : Hp) (p : Addr) (kv : List Key × Addr × V) : Prop := H p = some (.tup [.ref kv.2.1, kv.2.2]) ∧ H kv.2.1 = some (.tup (kv.1.map kV))
theorem KT_merge {H : Hp} : ∀ {kvs : List (List Key × Addr × V)} {xs : List (List Key × Addr × Value)} {acc : List (List Key × V)} {bs : List (List Key × Addr × Value)}, Paired (fun kv x => kv.1 = x.1 ∧ kv.2.1 = x.2.1 ∧ RelV kv.2.2 x.2.2 ∧ H kv.2.1 = some (.tup (kv.1.map kV))) kvs xs → KT H acc bs → KT H (mergeT acc kvs) (storedAllH bs xs)
  | _, _, acc, bs, .nil, h => h
  | _, _, acc, bs, .cons (a := kv) (b := x) r t, h => by
    obtain ⟨r1, r2, r3, r4⟩ := r
    show KT H (mergeT (putK acc kv.1 kv.2.2) _) (storedAllH (storedH bs x.1 x.2.1 x.2.2) _)
    rw [← r1, ← r2]
    exact KT_merge t (h.put kv.1 r4 r3)
theorem tpairs_of {pins : List (Addr × Obj)} {σ : L2.St} {H : Hp} {s : Shared} (I : Inv X pins σ H s) : ∀ {ps : List Addr} {kvs : List (List Key × Addr × V)}, Paired (TPair H) ps kvs →
    ∃ xs : List (List Key × Addr × Value), Paired (fun kv x => kv.1 = x.1 ∧ kv.2.1 = x.2.1 ∧ RelV kv.2.2 x.2.2 ∧ H kv.2.1 = some (.tup (kv.1.map kV))) kvs xs ∧ xs.length = ps.length ∧ ∀ (j : Nat) (x : List Key × Addr × Value), xs[j]? = some x → ∃ b : Addr, ps[j]? = some b ∧ IsTup s.heap b #[.ref x.2.1, x.2.2] ∧ (tupleKind (mixKind X.prog X.w)).is s.heap x.1 x.2.1
  | _, _, .nil => ⟨[], .nil, rfl, fun j q e => by simp at e⟩
  | _, _, .cons (a := p) (b := kv) h t => by
    obtain ⟨xs, r, hl, hp⟩ := tpairs_of I t
    obtain ⟨its, rv, ht, _⟩ := I.tuple (.inl (.inl h.1))
    obtain ⟨u, y, ei, ru, ry⟩ := vals2 rv
    subst ei
    obtain rfl : u = Value.ref kv.2.1 := ru
    refine ⟨(kv.1, kv.2.1, y) :: xs, .cons ⟨rfl, rfl, ry, h.2⟩ r, by rw [List.length_cons, List.length_cons, hl], fun j q e => ?_⟩
    cases j with
    | zero =>
      have e' : (kv.1, kv.2.1, y) = q := Option.some.inj e
      subst e'
      exact ⟨p, rfl, ht, key_of I.hok h.2⟩
    | succ j =>
      obtain ⟨b, e1, e2, e3⟩ := hp j q (by simpa using e)
      exact ⟨b, by simpa using e1, e2, e3⟩
theorem call_dictPT (hcalm : X.calm = true) (hu : X.A.units + 64 < cLine) : CallR X (.type "dict") (fun xs H Q => ∃ (a : Addr) (ps : List Addr) (kvs : List (List Key × Addr × V)), xs = [.ref a] ∧ SqL X.K H a (ps.map V.ref) ∧ Paired (TPair H) ps kvs ∧
    ∀ p, H p = none → Q (.ref p) (upd H p (.dT (mergeT [] kvs)))) := by
  intro pins s σ H xs us Q I r q
  obtain ⟨a, ps, kvs, ex, hq, hp, q⟩ := q
  subst ex
  obtain ⟨u, eu, rx⟩ := vals1 r
  subst eu
  cases rx
  obtain ⟨its, rv, pl, hz⟩ := I.list hq
  have ei := refs_at rv
  subst ei
  rw [List.length_map] at hz
  obtain ⟨ts, rel, hl, hpr⟩ := tpairs_of I hp
  obtain ⟨o, n, ho, hc, hd, hdat⟩ := pl
  have P := PySem.PairArg.list (prog := X.prog) (w := X.w) a (ps.map Value.ref).toArray (fun j => (ps[j]?).getD 0) (ts.map fun x => (Value.ref x.2.1, x.2.2))
  have hps : PairItems s.heap (ps.map Value.ref).toArray (fun j => (ps[j]?).getD 0) (ts.map fun x => (Value.ref x.2.1, x.2.2)) := by
    refine ⟨by simp [hl], fun j k v e => ?_⟩
    rw [List.getElem?_map, Option.map_eq_some_iff] at e
    obtain ⟨x, e1, e2⟩ := e
    cases e2
    obtain ⟨b, f1, f2, f3⟩ := hpr j x e1
    refine ⟨by simp [f1], ?_⟩
    simp only [f1, Option.getD_some]
    exact .inl f2
  refine call_dict_pairsH (knd := tupleKind (mixKind X.prog X.w)) (ps := ts) P (I.ok.hd hcalm) (tupleKind_room_in1 (A := X.A.in1) (show X.A.units + 1 + 1 < cLine by omega)) ⟨⟨o, n, ho, hc, hd, hdat⟩, hps⟩ ⟨(List.length_map ..).symm, fun i key v h => ?_⟩ (fun h' hk x hx => ?_) (by rw [List.length_map, hl]; exact hz) fun h' tk hd' k => ?_
  · rw [PairRel, List.getElem?_map, Option.map_eq_some_iff] at h
    obtain ⟨x, e1, e2⟩ := h
    cases e2
    exact ⟨x.1, x.2.1, e1, rfl⟩
  · obtain ⟨j, hj⟩ := List.mem_iff_getElem?.mp hx
    obtain ⟨b, f1, f2, f3⟩ := hpr j x hj
    exact tupleKind_stays.stays (fun b o vs n e _ => hk b o (Nat.ne_of_lt (Heap.lt_size e)) (by simp) e) f3
  · have hm : (s.heap.objs.size == sysModules) = false := beq_eq_false_iff_ne.mpr (Nat.ne_of_gt I.big)
    have hlen : (mergeT [] kvs).length ≤ sizeLine := by
      refine Nat.le_trans (mergeT_len kvs []) ?_
      rw [List.length_nil, Nat.zero_add, ← Paired.length hp]
      exact hz
    have hn : H s.heap.objs.size = none := I.hok.fresh (Nat.le_refl _)
    obtain ⟨q', es, ep, hq', h2, h3, h4, _, h5⟩ := hd'
    exact ⟨.ref s.heap.objs.size, upd H s.heap.objs.size (.dT (mergeT [] kvs)), I.laid (t' := tk) (fun b o e => k b o (by simp) e) (Nat.le_refl _) (show ObjOk X.prog X.w _ _ _ (.dT (mergeT [] kvs)) from ⟨hlen, hm, _, (KT_merge rel .nil).keeps fun c ys ec => by
      rw [upd_ne (fun z => by rw [z, hn] at ec; cases ec)]
      exact ec, q', es, ep, hq', h2, h3, h4, h5⟩), rfl, q _ hn⟩
end
@[simp] def putPT : D → D → Option D
  | .dtp ks ds, .tup [k, e] => match keyT k with
    | some j => some (putT ks ds j e)
    | none => none
  | _, _ => none
@[simp] def dictPT : D → List D → Option D
  | acc, [] => some acc
  | acc, d :: ds => match putPT acc d with
    | some a => dictPT a ds
    | none => none
@[simp] def lstPT : D → Option D
  | .lst ds => dictPT (.dtp [] []) ds
  | _ => none
def eDictPT (F : EF) : EF := fun ρ b => (F ρ b).bind fun d b1 => Out.pureO (lstPT d) b1
theorem pairs_drT {K : PySem.W.Frag} {ba : Option Addr} {S : Hp} : ∀ {ds : List D} {vs : List V} {acc z : D}, DRs K ba S vs ds → dictPT acc ds = some z →
    ∃ (ps : List Addr) (kvs : List (List Key × Addr × V)), vs = ps.map V.ref ∧ Paired (TPair S) ps kvs ∧ ∀ kvs0, ODR K ba S (.dT kvs0) acc → ODR K ba S (.dT (mergeT kvs0 kvs)) z
  | [], vs, acc, z, r, h => by
    cases r
    cases h
    exact ⟨[], [], rfl, .nil, fun _ h => h⟩
  | d :: ds, vs, acc, z, r, h => by
    cases r with
    | @cons v vs _ _ r1 r2 =>
      unfold dictPT at h
      split at h
      · rename_i a ha
        obtain ⟨ps, kvs, e1, e2, e3⟩ := pairs_drT r2 h
        subst e1
        unfold putPT at ha
        split at ha
        · rename_i ks es k e
          split at ha
          · rename_i j hj
            cases ha
            cases r1 with
            | @tup p xs _ h1 h2 =>
              cases h2 with
              | @cons v1 _ _ _ g1 g2 =>
                cases g2 with
                | @cons v2 _ _ _ g3 g4 =>
                  cases g4
                  obtain ⟨bk, rfl, hb⟩ := keyT_dr g1 hj
                  refine ⟨p :: ps, (j, bk, v2) :: kvs, rfl, .cons ⟨h1, hb⟩ e2, fun kvs0 h0 => ?_⟩
                  cases h0 with
                  | dtp g5 g6 =>
                    subst g5
                    exact e3 _ (putT_dr g6 g3)
          · cases ha
        · cases ha
      · cases h
section
variable {X : Cx} {C : Cq} {W : WX} {a : Expr} {pos p : Pos} {F : EF}
theorem d_dictPT (hc : X.calm = true) (hu : X.A.units + 64 < cLine) (hg : Gl X "dict") (hm : X.mg "dict" = none) (ha : PE X a (tD X.K C W F)) (he : starEach [a] X.env = (false, eval a X.env) :: starEach [] X.env := by rfl) (hpl : (backTo pos (starEach [] X.env)).any (·.1) = false := by rfl) :
    PE X (.Call (.Name "dict" p) [a] [] pos) (tDF X.K C W (eDictPT F)) := pe_imp (pe_callTy (call_dictPT hc hu) hg hm (by decide +kernel) (pa_cons ha pa_nil he) (by decide) (by decide) he hpl) fun σ H Q ⟨S, ρ, b, ok, q⟩ => by
  refine ⟨S, ρ, b, ok, ?_⟩
  unfold eDictPT at q
  cases hF : F ρ b with
  | stuck => rw [hF] at q; exact q.elim
  | ex c ns ds => rw [hF] at q; exact q
  | ok d b1 =>
    rw [hF] at q
    intro S1 H1 e1 ok1 v r
    have q : OutF X.K C W S ρ σ Q (Out.pureO (lstPT d) b1) := q
    cases hz : lstPT d with
    | none => rw [hz] at q; exact q.elim
    | some z =>
      rw [hz] at q
      have q2 : ∀ S' H' p u, Same S S' → OkF X.K C S' ρ b1 σ H' p u → ODR X.K C.ba S' u z → Q (.ref p) H' := q
      cases d with
      | lst ds =>
        cases r with
        | lst h1 h2 =>
          obtain ⟨ps, kvs, g1, g2, g3⟩ := pairs_drT h2 hz
          subst g1
          exact ⟨_, ps, kvs, rfl, .inl (.inl (ok1.core.sub _ _ h1)), Paired.mapP g2 fun _ _ x => ⟨ok1.core.sub _ _ x.1, ok1.core.sub _ _ x.2⟩, fun p hp => q2 S1 _ p _ e1 (ok1.fresh hp) (g3 [] (.dtp rfl .nil))⟩
      | _ => cases hz
end
end DL

set_option maxHeartbeats 2000000
namespace DL
open PySem PySem.Spec PyProof.Rows L2
def rInG (K : PySem.W.Frag) (neg : Bool) : R2 := fun x y H Q => ∃ d e ds, (e = PyData.list ds ∨ e = PyData.tuple ds) ∧ Dp K H x d ∧ Dp K H y e ∧ SeqAt.shaped d = true ∧ SeqAt.shaped e = true ∧ d.depth ≤ 60 ∧ Q (.bl (if neg then !(ds.any fun z => PyData.eqv z d) else ds.any fun z => PyData.eqv z d)) H
section
variable {X : Cx}
theorem op_inG (hu : X.A.units + 64 < cLine) : OpR X (compareOp .In) (rInG X.K false) := by
  intro pins s σ H x y v u Q I rx ry h
  obtain ⟨d, e, ds, he0, hd, he, sd, se, hp, q⟩ := h
  obtain ⟨as, r1⟩ := Dp.reads I d x v hd rx
  obtain ⟨bs, r2⟩ := Dp.reads I e y u he ry
  rcases he0 with rfl | rfl
  · exact SeqAt.in_list_reads r2 r1 (SeqAt.canLay_of_shaped se) (SeqAt.canLay_of_shaped sd) (by have := Nat.min_le_right (PyData.depthAll ds) d.depth; omega) ⟨.bl _, H, I, rfl, q⟩
  · exact SeqAt.in_tuple_reads r2 r1 (SeqAt.canLay_of_shaped se) (SeqAt.canLay_of_shaped sd) (by have := Nat.min_le_right (PyData.depthAll ds) d.depth; omega) ⟨.bl _, H, I, rfl, q⟩
theorem op_notInG (hu : X.A.units + 64 < cLine) : OpR X (compareOp .NotIn) (rInG X.K true) := by
  intro pins s σ H x y v u Q I rx ry h
  obtain ⟨d, e, ds, he0, hd, he, sd, se, hp, q⟩ := h
  obtain ⟨as, r1⟩ := Dp.reads I d x v hd rx
  obtain ⟨bs, r2⟩ := Dp.reads I e y u he ry
  rcases he0 with rfl | rfl
  · exact SeqAt.notIn_list_reads r2 r1 (SeqAt.canLay_of_shaped se) (SeqAt.canLay_of_shaped sd) (by have := Nat.min_le_right (PyData.depthAll ds) d.depth; omega) ⟨.bl _, H, I, rfl, q⟩
  · exact SeqAt.notIn_tuple_reads r2 r1 (SeqAt.canLay_of_shaped se) (SeqAt.canLay_of_shaped sd) (by have := Nat.min_le_right (PyData.depthAll ds) d.depth; omega) ⟨.bl _, H, I, rfl, q⟩
end
def seqP : PyData → Option (List PyData)
  | .list ds => some ds
  | .tuple ds => some ds
  | _ => none
theorem seqP_of {e : PyData} {ds : List PyData} (h : seqP e = some ds) : e = PyData.list ds ∨ e = PyData.tuple ds := by
  cases e <;> simp [seqP] at h
  · exact .inl (by rw [h])
  · exact .inr (by rw [h])
def inG (neg : Bool) (d e : D) : Option D := match d.pd, e.pd with
  | some p, some q => match seqP q with
    | some qs => if SeqAt.shaped p = true ∧ SeqAt.shaped q = true ∧ p.depth ≤ 60 then some (.bl (if neg then !(qs.any fun z => PyData.eqv z p) else qs.any fun z => PyData.eqv z p)) else none
    | none => none
  | _, _ => none
theorem inG2 {K : PySem.W.Frag} {C : Cq} {neg : Bool} : Op2 K C (rInG K neg) (inG neg) := by
  intro S ρ b σ H v w d e z Q ok r1 r2 hz q
  unfold inG at hz
  split at hz
  · rename_i p p' h1 h2
    split at hz
    · rename_i qs hqs
      split at hz
      · rename_i hs
        cases hz
        exact ⟨p, p', qs, seqP_of hqs, DR.dp ok.core.sub d v p r1 h1, DR.dp ok.core.sub e w p' r2 h2, hs.1, hs.2.1, hs.2.2, q _ S H (Same.refl _) ok (.bl _)⟩
      · cases hz
    · cases hz
  · cases hz
/-- xs owned -/
def eInGOw (neg : Bool) (i : Nat) (F : EF) : EF := fun ρ b => match ρ[i]? with
  | some (some (.ow (.lst ds))) => (F ρ b).bind fun d b1 => Out.pureO (inG neg d (.lst ds)) b1
  | _ => .stuck
section
variable {X : Cx} {C : Cq} {W : WX} {a e : Expr} {pos : Pos} {F Fa Fb : EF}
theorem inGOw_of {K : PySem.W.Frag} {neg : Bool} {i : Nat} {σ : L2.St} {H : Hp} {Q : VK} (h : tD K C W (eInGOw neg i F) σ H Q) : tOp (rInG K neg) (tD K C W F) (tVar i) σ H Q := by
  obtain ⟨S, ρ, b0, ok, q⟩ := h
  unfold eInGOw at q
  split at q
  · rename_i ds hr
    refine ⟨S, ρ, b0, ok, q.bind.imp fun d b1 S1 H1 s1 ok1 q1 v rv => ?_⟩
    obtain ⟨z, hz, q2⟩ := q1.pureO
    unfold inG at hz
    split at hz
    · rename_i p p' h1 h2
      split at hz
      · rename_i qs hqs
        split at hz
        · rename_i hs
          cases hz
          obtain ⟨pp', u', e1', hp', r', _⟩ := ok1.getOw hr
          cases r' with
          | lst r' =>
            simp only [D.pd, Option.map_eq_some_iff] at h2
            obtain ⟨ps, hps, rfl⟩ := h2
            exact ⟨_, e1', p, _, qs, seqP_of hqs, DR.dp ok1.core.sub d v p rv h1, .lst (SqL.of hp') (DRs.dp ok1.core.sub ds _ _ r' hps), hs.1, hs.2.1, hs.2.2, q2 S1 H1 (Same.refl _) ok1 _ (.bl _)⟩
        · cases hz
      · cases hz
    · cases hz
  · exact q.elim
theorem t_inG (hu : X.A.units + 64 < cLine) (ha : PE X a (tD X.K C W Fa)) (hb : PE X e (tD X.K C W Fb)) (hm : behindInMarks .In e = false := by with_unfolding_all rfl) : PT X (.Compare a [.In] [e] pos) (tDt X.K C W (bB (e2 (inG false) Fa Fb))) := d_tcmp (op_inG hu) inG2 ha hb hm
theorem t_ninG (hu : X.A.units + 64 < cLine) (ha : PE X a (tD X.K C W Fa)) (hb : PE X e (tD X.K C W Fb)) (hm : behindInMarks .NotIn e = false := by with_unfolding_all rfl) : PT X (.Compare a [.NotIn] [e] pos) (tDt X.K C W (bB (e2 (inG true) Fa Fb))) := d_tcmp (op_notInG hu) inG2 ha hb hm
theorem t_ninGOw {i : Nat} (hu : X.A.units + 64 < cLine) (ha : PE X a (tD X.K C W F)) (hb : PE X e (tVar i)) (hm : behindInMarks .NotIn e = false := by with_unfolding_all rfl) : PT X (.Compare a [.NotIn] [e] pos) (tDt X.K C W (bB (eInGOw true i F))) := pt_imp (pt_cmpR (op_notInG hu) ha hb hm) fun _ _ _ h => inGOw_of (tTest_of h)
end
end DL

set_option maxHeartbeats 2000000
namespace DL
open PySem PySem.Spec PyProof.Rows L2
def G__law_pairs_v2 : SF := (sSeq (sOwn eDnewT 2) (sSeq (sFor (aRng (aCons (eB lenF (aCons (eIx (eV 0) (eC (.int 1))) aNil)) aNil)) (gN 3) (sFor (aRng (aCons (eB lenF (aCons (eIx (eV 1) (eC (.int 1))) aNil)) aNil)) (gN 4) (sDputT 2 (eTup (aCons (eV 3) (aCons (eV 4) aNil))) (eLstZ (aCons (eIx (eIx (eIx (eV 0) (eC (.int 1))) (eV 3)) (eC (.int 1))) (aCons (eIx (eIx (eIx (eV 1) (eC (.int 1))) (eV 4)) (eC (.int 1))) aNil)))))) (sFreeze 2 (sRet (eV 2)))))
def F__law_pairs_v2 : DFn := runD 5 2 (G__law_pairs_v2)
def G__law_reached_v3 : SF := (sSeq (sOw1 2 3 (eLst (aCons (eV 1) aNil)) (eC (.int 0))) (sSeq (sWhile 100000 (bB (e2 ltF (eV 3) (eLenOw 2))) (sSeq (sFor (aAny (eDgT (eV 0) (eIxOw 2 (eV 3)))) (gN 4) (sIf (bB (eInGOw true 2 (eV 4))) (sPush 2 (eV 4)) sNil)) (sAsg (e2 addF (eV 3) (eC (.int 1))) (gN 3)))) (sFreeze 2 (sRet (eV 2)))))
def F__law_reached_v3 : DFn := runD 5 2 (G__law_reached_v3)
def G__law_is_loop_v2 : SF := (sSeq (sAsg (eDictPT (eLc (aAny (eV 1)) [2] (gN 2) bYes (eTup (aCons (eV 2) (aCons (eLc (aAny (eDgT (eV 0) (eV 2))) [3] (gN 3) (bB (e2 (inG false) (eV 3) (eV 1))) (eV 3)) aNil))))) (gN 4)) (sSeq (sFor (aAny (eV 1)) (gN 2) (sSeq (sAsg (eLst aNil) (gN 5)) (sSeq (sFor (aAny (eDgT (eV 4) (eV 2))) (gN 3) (sAsg (e2 addF (eV 5) (eLc (aAny (eCall (F__law_reached_v3) (aCons (eV 4) (aCons (eV 3) aNil)))) [6] (gN 6) (bB (e2 (inG true) (eV 6) (eV 5))) (eV 6))) (gN 5))) (sIf (bB (e2 neF (eLc (aAny (eV 1)) [6] (gN 6) (bB (e2 (inG true) (eV 6) (eV 5))) (eV 6)) (eLst aNil))) (sRet (eC (.bl false))) sNil)))) (sRet (eC (.bl true)))))
def F__law_is_loop_v2 : DFn := runD 7 2 (G__law_is_loop_v2)
def G__law_loops_v3 : SF := (sSeq (sAsg (eLst (aCons (eTup aNil) aNil)) (gN 2)) (sSeq (sFor (aAny (eCall (F__law_reached_v3) (aCons (eV 0) (aCons (eV 1) aNil)))) (gN 3) (sAsg (e2 addF (eV 2) (eLc (aAny (eV 2)) [4] (gN 4) bYes (e2 addF (eV 4) (eTup (aCons (eV 3) aNil))))) (gN 2))) (sRet (eLc (aAny (eV 2)) [4] (gN 4) (bAnd (bB (e2 neF (eV 4) (eTup aNil))) (bB (eCall (F__law_is_loop_v2) (aCons (eV 0) (aCons (eV 4) aNil))))) (eV 4)))))
def F__law_loops_v3 : DFn := runD 5 2 (G__law_loops_v3)
def G__law_tops : SF := (sRet (eTup (aCons (eB maxLF (aCons (eLc (aAny (eV 2)) [3, 4] (gT 2 (gsC (gN 3) (gsC (gN 4) gsN))) bYes (eIx (eIx (eIx (eV 0) (eC (.int 1))) (eV 3)) (eC (.int 0)))) aNil)) (aCons (eB maxLF (aCons (eLc (aAny (eV 2)) [3, 4] (gT 2 (gsC (gN 3) (gsC (gN 4) gsN))) bYes (eIx (eIx (eIx (eV 1) (eC (.int 1))) (eV 4)) (eC (.int 0)))) aNil)) aNil))))
def F__law_tops : DFn := runD 5 3 (G__law_tops)
end DL

set_option maxHeartbeats 2000000
namespace DL
open PySem PySem.Spec PyProof.Rows L2
def G__law_even_starts : SF := (sSeq (sOw2 2 3 (eCall (F__law_pairs_v2) (aCons (eV 0) (aCons (eV 1) aNil))) (eLst aNil)) (sSeq (sFor (aAny (eLstT (eV 2))) (gN 4) (sFor (aAny (eCall (F__law_loops_v3) (aCons (eV 2) (aCons (eV 4) aNil)))) (gN 5) (sIf (bAnd (bB (e2 eqF (eLc (aAny (eCall (F__law_tops) (aCons (eV 0) (aCons (eV 1) (aCons (eV 5) aNil))))) [6] (gN 6) bYes (e2 modF (eB intF (aCons (eV 6) aNil)) (eC (.int 2)))) (eLst (aCons (eC (.int 0)) (aCons (eC (.int 0)) aNil))))) (bB (eInGOw true 3 (eIx (eV 5) (eC (.int 0)))))) (sPush 3 (eIx (eV 5) (eC (.int 0)))) sNil))) (sFreeze 3 (sRet (eV 3)))))
def F__law_even_starts : DFn := runD 7 2 (G__law_even_starts)
def G__law_words : SF := (sSeq (sPar2 2 3 (aCons (eLst (aCons (eC (.str "")) aNil)) (aCons (eLst (aCons (eC (.str "")) aNil)) aNil))) (sSeq (sFor (aRng (aCons (eV 1) aNil)) (gN 4) (sSeq (sAsg (eLst aNil) (gN 5)) (sSeq (sFor (aAny (eV 3)) (gN 6) (sAsg (e2 addF (eV 5) (eLc (aAny (eV 0)) [7] (gN 7) bYes (e2 addF (eV 6) (eV 7)))) (gN 5))) (sPar2 2 3 (aCons (e2 addF (eV 2) (eV 5)) (aCons (eV 5) aNil)))))) (sRet (eV 2))))
def F__law_words : DFn := runD 8 2 (G__law_words)
def G__law_is_fine : SF := (sRet (e2 neF (eLc (aAny (eCall (F__law_reached_v3) (aCons (eV 0) (aCons (eV 2) aNil)))) [3] (gN 3) (bB (e2 (inG false) (eV 3) (eV 1))) (eV 3)) (eLst aNil)))
def F__law_is_fine : DFn := runD 4 3 (G__law_is_fine)
def G__law_due_v2 : SF := (sSeq (sAsg (eLst (aCons (eC (.str "ab")) (aCons (eTup (aCons (eTup (aCons (eC (.int 0)) (aCons (eTup (aCons (eC (.int 0)) (aCons (eC (.int 0)) aNil))) aNil))) aNil)) aNil))) (gN 2)) (sSeq (sPar2 3 4 (aCons (eCall (F__law_pairs_v2) (aCons (eV 0) (aCons (eV 2) aNil))) (aCons (eCall (F__law_even_starts) (aCons (eV 0) (aCons (eV 2) aNil))) aNil))) (sSeq (sPar2 5 6 (aCons (eCall (F__law_pairs_v2) (aCons (eV 0) (aCons (eV 1) aNil))) (aCons (eCall (F__law_even_starts) (aCons (eV 0) (aCons (eV 1) aNil))) aNil))) (sSeq (sFor (aAny (eCall (F__law_words) (aCons (eC (.str "ab")) (aCons (eC (.int 6)) aNil)))) (gN 7) (sSeq (sAsg (eTup (aCons (eCall (F__law_end_v2) (aCons (eV 0) (aCons (eC (.int 0)) (aCons (eV 7) aNil)))) (aCons (eCall (F__law_end_v2) (aCons (eV 1) (aCons (eC (.int 0)) (aCons (eV 7) aNil)))) aNil))) (gN 8)) (sIf (bAnd (bB (eCall (F__law_is_fine) (aCons (eV 3) (aCons (eV 4) (aCons (eTup (aCons (eIx (eV 8) (eC (.int 0))) (aCons (eC (.int 0)) aNil))) aNil))))) (bNot (bB (eCall (F__law_is_fine) (aCons (eV 5) (aCons (eV 6) (aCons (eV 8) aNil))))))) (sRet (eV 7)) sNil))) (sRet (eC .non))))))
def F__law_due_v2 : DFn := runD 9 2 (G__law_due_v2)
end DL

set_option maxHeartbeats 2000000
namespace DL
open PySem PySem.Spec PyProof.Rows L2
theorem hu1 {A : Around} (h : A.units + 64 < cLine) : A.units + 1 < cLine := by omega
def Getter (K : PySem.W.Frag) (M : Addr) (pr fl : Str) : Prop := ∃ p g fd, PropOf K M pr p g ∧ (∀ P w mg base, FnOk P w K mg base CX0 1 g fd ["self"] (getSp M fl)) ∧ Binds K fd ["self"] []
structure Facts (K : PySem.W.Frag) (mg : Str → Option Value) (M : Addr) : Prop where
  m_abs : mg "abs" = none
  m_all : mg "all" = none
  m_any : mg "any" = none
  m_bool : mg "bool" = none
  m_dict : mg "dict" = none
  m_divmod : mg "divmod" = none
  m_enumerate : mg "enumerate" = none
  m_int : mg "int" = none
  m_isinstance : mg "isinstance" = none
  m_len : mg "len" = none
  m_list : mg "list" = none
  m_max : mg "max" = none
  m_min : mg "min" = none
  m_range : mg "range" = none
  m_repr : mg "repr" = none
  m_str : mg "str" = none
  m_sum : mg "sum" = none
  m_tuple : mg "tuple" = none
  m_zip : mg "zip" = none
  m_EVEN : ∃ t, mg "EVEN" = some (.int 0 t)
  m_MOST_COLOUR : ∃ t, mg "MOST_COLOUR" = some (.int 6 t)
  m_MOST_LETTERS : ∃ t, mg "MOST_LETTERS" = some (.int 3 t)
  m_MOST_STATES : ∃ t, mg "MOST_STATES" = some (.int 6 t)
  m_ALPHABET : ∃ t, mg "ALPHABET" = some (.str "abcdefghijklmnopqrstuvwxyz" t)
  m_Machine : mg "Machine" = some (.ref M)
  cM : Cls K M
  iM : ClsI K M
  n_letters : NoAttr K M "_letters"
  n_states : NoAttr K M "_states"
  g_letters : Getter K M "letters" "_letters"
  g_states : Getter K M "states" "_states"
  k_str : PySem.W.kitOne K (.ref M) (.type "str") = some false
  k_int : PySem.W.kitOne K (.ref M) (.type "int") = some false
  k_bool : PySem.W.kitOne K (.ref M) (.type "bool") = some false
  k_tuple : PySem.W.kitOne K (.ref M) (.type "tuple") = some false
  k_M : PySem.W.kitOne K (.ref M) (.ref M) = some true
  k_b : ∀ n, kitM n = some false → PySem.W.kitOne K (.type n) (.ref M) = some false
theorem Facts.own {K : PySem.W.Frag} {mg : Str → Option Value} {M : Addr} (T : Facts K mg M) {u : Value} (h : PySem.W.kitOne K (.ref M) u = some false) {A : Addr} {b : Bool} (e : ownB M A = some b) : ClsI K A ∧ PySem.W.kitOne K (.ref A) u = some b := by
  unfold ownB at e
  split at e
  · rename_i hA; subst hA; cases e; exact ⟨T.iM, h⟩
  · cases e
theorem Facts.ownM {K : PySem.W.Frag} {mg : Str → Option Value} {M : Addr} (T : Facts K mg M) {A : Addr} {b : Bool} (e : DL.ownM M A = some b) : ClsI K A ∧ PySem.W.kitOne K (.ref A) (.ref M) = some b := by
  unfold DL.ownM at e
  split at e
  · rename_i hA; subst hA; cases e; exact ⟨T.iM, T.k_M⟩
  · cases e
theorem Facts.kitM {K : PySem.W.Frag} {mg : Str → Option Value} {M : Addr} (T : Facts K mg M) {n : String} {b : Bool} (e : DL.kitM n = some b) : PySem.W.kitOne K (.type n) (.ref M) = some b := by
  have : b = false := by
    unfold DL.kitM at e
    split at e
    · cases e; rfl
    · cases e
  subst this
  exact T.k_b n e
section
variable {X : Cx} {C : Cq} {W : WX} {E : XK} {e : Expr} {es : List Expr} {pos p : Pos} {F : EF} {G : AF} {x : Str}
theorem d_propG {A : Addr} {f pr : Str} {k : Nat} (he : PE X e (tD X.K C W F)) (c : Cls X.K A) (h : Getter X.K A pr f) (hr : Room k X.A) (hj : 2 ≤ k) (hab : attributeBase e pr X.env (eval e X.env) = eval e X.env := by rfl) : PE X (.Attribute e pr pos) (tD X.K C W (e1 (fldF A f) F)) := by
  obtain ⟨pp, g, fd, hp, FO, hb⟩ := h
  exact d_prop he c hp (FO _ _ _ _) (hr.mono hj) hb hab
/-- a def by its name, called with keywords alone -/
def HasK (P : Program) (w : World) (K : PySem.W.Frag) (mg : Str → Option Value) (base : Heap) (Gd : Around → Prop) (k : Nat) (x : Str) (ps ks : List Str) (perm : List Nat) (sp : Sp) : Prop :=
  ∃ f fd, FnG P w K mg base Gd k f fd ps sp ∧ mg x = some (.ref f) ∧ PySem.W.keepIn K (.ref f) = true ∧ KBn K fd ps 0 ks (fun _ ws => pick perm ws) (fun _ vs => pick perm vs)
theorem d_callKH {Fn : DFn} {j k : Nat} {ps ks : List Str} {perm : List Nat} {kws : List Keyword} (h : HasK X.prog X.w X.K X.mg X.base GT j x ps ks perm (spD X.K Fn)) (hr : Room k X.A) (hj : j ≤ k) (hg : Gl X x) (hx : Passes (L2.CX X.prog X.w) X E) (hkw : PK X kws (tDA X.K C (WD E) G))
    (hall : (backToKw pos (keywordEach kws X.env)).all (·.1.isSome) = true := by rfl) (hks : (backToKw pos (keywordEach kws X.env)).filterMap (·.1) = ks := by rfl)
    (hdb : (x == ("__debug__" : Str)) = false := by decide) (hpl : ((backTo pos (starEach [] X.env)).any (·.1) || (backToKw pos (keywordEach kws X.env)).any (·.1.isNone)) = false := by rfl) :
    PE X (.Call (.Name x p) [] kws pos) (tD X.K C (WD E) (eCallK ks.length Fn (pick perm) G)) := by
  obtain ⟨f, fd, FO, hm, hk, hb⟩ := h
  exact d_callK0 FO.fnok (hr.mono hj) hg hm hk hb (fun _ _ _ _ r => pick_dr r perm) hx hkw hall hks hdb hpl
end
section
variable {P : Program} {w : World} {K : PySem.W.Frag} {mg : Str → Option Value} {base : Heap} {M fa : Addr} {fd : FuncData}
def N__law_draw : List Str := ["_law_purse_here", "_law_size", "_law_seed", "_law_by", "_law_digit"]
def P__law_draw : List Str := ["_law_purse_here", "_law_size"]
theorem sc__law_draw : FnScope N__law_draw P__law_draw (defScope s__law_draw) := ⟨rfl, rfl, rfl, by decide +kernel, rfl, by decide +kernel, by decide +kernel⟩
theorem ok__law_draw (T : Facts K mg M) (Fu : Fun K "_law_draw" "_law_draw" s__law_draw fa fd) : FnG P w K mg base GT 1 fa fd P__law_draw (spD K (F__law_draw)) := by
  refine d_def (N := N__law_draw) (ps := P__law_draw) (G := G__law_draw) Fu sc__law_draw fun cdv A outer s H E C hr hg => ?_
  have nd := sc__law_draw.nd
  have hu := hr.units
  exact (d_cons (d_par2 (ps_par rfl nd rfl rfl (by decide) rfl rfl (d_acons (d_ix (d_var (pv 0)) (d_const pe_int fun _ => .int _) (fun _ _ => rfl)) (d_acons (d_add (d_mod (d_int rfl T.m_int (d_acons (d_ix (d_var (pv 0)) (d_const pe_int fun _ => .int _) (fun _ _ => rfl)) d_anil)) (d_const pe_int fun _ => .int _)) (d_const pe_int fun _ => .int _)) d_anil)) rfl)) (d_cons (d_asg (d_add (d_ix (d_var (pv 0)) (d_const pe_int fun _ => .int _) (fun _ _ => rfl)) (d_const pe_int fun _ => .int _)) (d_gbag (pg_sub (pv 0) pe_int set_list (fun _ => rfl)))) (d_cons (d_asg (d_mod (d_int rfl T.m_int (d_acons (d_add (d_add (d_mul (d_var (pv 2)) (d_var (pv 3))) (d_mul (d_const pe_int fun _ => .int _) (d_ix (d_var (pv 0)) (d_const pe_int fun _ => .int _) (fun _ _ => rfl)))) (d_const pe_int fun _ => .int _)) d_anil)) (d_const pe_int fun _ => .int _)) (d_gbag (pg_sub (pv 0) pe_int set_list (fun _ => rfl)))) (d_cons (d_sif (t_gt (d_ix (d_var (pv 0)) (d_const pe_int fun _ => .int _) (fun _ _ => rfl)) (d_const pe_int fun _ => .int _)) (d_cons (d_asg (d_divmod rfl T.m_divmod (d_acons (d_ix (d_var (pv 0)) (d_const pe_int fun _ => .int _) (fun _ _ => rfl)) (d_acons (d_var (pv 1)) d_anil))) (d_gtup rfl (d_gcons (d_gbag (pg_sub (pv 0) pe_int set_list (fun _ => rfl))) (d_gcons (d_gname (pg_name (i := 4) nd rfl (Or.inl rfl))) d_gnil)))) (d_one (d_ret (d_var (pv 4))))) d_nil) (d_one (d_ret (d_mod (d_int rfl T.m_int (d_acons (d_fdiv (d_ix (d_var (pv 0)) (d_const pe_int fun _ => .int _) (fun _ _ => rfl)) (d_const pe_int fun _ => .int _)) d_anil)) (d_var (pv 1)))))))))
def N__law_pick : List Str := ["_law_purse_here", "_law_menu"]
def P__law_pick : List Str := ["_law_purse_here", "_law_menu"]
theorem sc__law_pick : FnScope N__law_pick P__law_pick (defScope s__law_pick) := ⟨rfl, rfl, rfl, by decide +kernel, rfl, by decide +kernel, by decide +kernel⟩
theorem ok__law_pick (T : Facts K mg M) (Fu : Fun K "_law_pick" "_law_pick" s__law_pick fa fd) (H__law_draw : Has P w K mg base GT 1 "_law_draw" P__law_draw (spD K (F__law_draw))) : FnG P w K mg base GT 2 fa fd P__law_pick (spD K (F__law_pick)) := by
  refine d_def (N := N__law_pick) (ps := P__law_pick) (G := G__law_pick) Fu sc__law_pick fun cdv A outer s H E C hr hg => ?_
  have nd := sc__law_pick.nd
  have hu := hr.units
  exact (d_one (d_ret (d_ix (d_var (pv 1)) (d_callH (k := 1) H__law_draw hr (by decide) trivial rfl (takes_of rfl rfl rfl rfl) (d_acons (d_var (pv 0)) (d_acons (d_len rfl T.m_len (d_acons (d_var (pv 1)) d_anil)) d_anil))) (fun _ _ => rfl))))
def N__law_tool : List Str := ["_law_purse_here", "_law_letters_here", "_law_most", "_law_top", "_law_many", "_law_found", "_law_k", "_law_targets_here", "_law_letter"]
def P__law_tool : List Str := ["_law_purse_here", "_law_letters_here", "_law_most", "_law_top"]
theorem sc__law_tool : FnScope N__law_tool P__law_tool (defScope s__law_tool) := ⟨rfl, rfl, rfl, by decide +kernel, rfl, by decide +kernel, by decide +kernel⟩
theorem ok__law_tool (T : Facts K mg M) (Fu : Fun K "_law_tool" "_law_tool" s__law_tool fa fd) (H__law_draw : Has P w K mg base GT 1 "_law_draw" P__law_draw (spD K (F__law_draw))) : FnG P w K mg base GT 2 fa fd P__law_tool (spD K (F__law_tool)) := by
  refine d_def (N := N__law_tool) (ps := P__law_tool) (G := G__law_tool) Fu sc__law_tool fun cdv A outer s H E C hr hg => ?_
  have nd := sc__law_tool.nd
  have hu := hr.units
  exact (d_cons (d_set (ps_set (i := 4) nd rfl (Or.inr rfl) (d_add (d_const pe_int fun _ => .int _) (d_callH (k := 1) H__law_draw hr (by decide) trivial rfl (takes_of rfl rfl rfl rfl) (d_acons (d_var (pv 0)) (d_acons (d_var (pv 2)) d_anil)))))) (d_cons (d_own (ps_set (i := 5) nd rfl (Or.inl rfl) (d_lst d_anil))) (d_cons (d_for (passes_of rfl) rfl (d_irange rfl T.m_range (d_acons (d_var (pv 4)) d_anil)) (d_gname (pg_name (i := 6) nd rfl (Or.inl rfl))) (d_cons (d_set (ps_set (i := 7) nd rfl (Or.inl rfl) (d_tuple rfl T.m_tuple (d_acons (d_share (d_lc (ctg_name (i := 8) (by decide)) (pe_lc (own := [("_law_letter", 8)]) rfl nd (d_iany (d_var (pv 1))) (blkOk_by (N := N__law_tool) (sc := defScope s__law_tool) (by decide +kernel)) (fun _ _ _ _ _ => (pg_name (i := 8) nd rfl (Or.inl rfl))) (fun _ _ _ _ _ => d_tsany fun C => d_tsnil) (fun _ _ _ _ _ => d_any fun C => (d_callH (k := 1) H__law_draw hr (by decide) trivial rfl takes0 (d_acons (d_var (pv 0)) (d_acons (d_var (pv 4)) d_anil))))))) d_anil)))) (d_one (d_push (pv 5) (d_tup (d_acons (d_callH (k := 1) H__law_draw hr (by decide) trivial rfl (takes_of rfl rfl rfl rfl) (d_acons (d_var (pv 0)) (d_acons (d_add (d_var (pv 3)) (d_const pe_int fun _ => .int _)) d_anil))) (d_acons (d_var (pv 7)) d_anil))))))) (d_one (d_freeze (i := 5) (d_ret (d_share (d_lst (d_acons (d_var (pv 1)) (d_acons (d_tuple rfl T.m_tuple (d_acons (d_var (pv 5)) d_anil)) d_anil))))))))))
def N_is_letters : List Str := ["value", "in_bounds", "letter", "low", "high"]
def P_is_letters : List Str := ["value"]
theorem sc_is_letters : FnScope N_is_letters P_is_letters (defScope s_is_letters) := ⟨rfl, rfl, rfl, by decide +kernel, rfl, by decide +kernel, by decide +kernel⟩
theorem ok_is_letters (T : Facts K mg M) (Fu : Fun K "is_letters" "is_letters" s_is_letters fa fd) : FnG P w K mg base GT 1 fa fd P_is_letters (spD K (F_is_letters M)) := by
  refine d_def (N := N_is_letters) (ps := P_is_letters) (G := G_is_letters M) Fu sc_is_letters fun cdv A outer s H E C hr hg => ?_
  have nd := sc_is_letters.nd
  have hu := hr.units
  exact (d_cons (d_sif (PW.pt (d_or (d_not (d_tval (d_isi (.ty _) (fun _ _ h => kit_ty h) (fun A b h => T.own T.k_str h) rfl T.m_isinstance (d_acons (d_var (pv 0)) (d_acons (d_tyn rfl T.m_str (by decide +kernel)) d_anil))) (fun _ => rfl))) (pw_or1 (d_not (t_lele (d_const pe_int fun _ => .int _) (d_len rfl T.m_len (d_acons (d_var (pv 0)) d_anil)) (d_inte rfl T.m_MOST_LETTERS)))))) (d_one (d_ret (d_const pe_bl fun _ => .bl _))) d_nil) (d_cons (d_set (ps_set (i := 1) nd rfl (Or.inl rfl) (d_all rfl rfl T.m_all (d_acons (d_share (d_lc (ctg_name (i := 2) (by decide)) (pe_lc (own := [("letter", 2)]) rfl nd (d_iany (d_var (pv 0))) (blkOk_by (N := N_is_letters) (sc := defScope s_is_letters) (by decide +kernel)) (fun _ _ _ _ _ => (pg_name (i := 2) nd rfl (Or.inl rfl))) (fun _ _ _ _ _ => d_tsany fun C => d_tsnil) (fun _ _ _ _ _ => d_any fun C => (d_in (d_var (pv 2)) (d_stre rfl T.m_ALPHABET)))))) d_anil)))) (d_one (d_ret (d_eand (d_var (pv 1)) (pe_one (d_all rfl rfl T.m_all (d_acons (d_share (d_lc (ctg_pair (i := 3) (j := 4) (by decide) (by decide)) (pe_lc (own := [("low", 3), ("high", 4)]) rfl nd (d_izipS rfl T.m_zip (d_acons (d_var (pv 0)) (d_acons (d_slice (d_var (pv 0)) (d_osome (d_const pe_int fun _ => .int _)) d_ono) d_anil))) (blkOk_by (N := N_is_letters) (sc := defScope s_is_letters) (by decide +kernel)) (fun _ _ _ _ _ => (pg_tup rfl (pgs_cons (pg_name (i := 3) nd rfl (Or.inl rfl)) (pgs_cons (pg_name (i := 4) nd rfl (Or.inl rfl)) pgs_nil rfl) rfl) rfl rfl)) (fun _ _ _ _ _ => d_tsany fun C => d_tsnil) (fun _ _ _ _ _ => d_any fun C => (d_lt (d_var (pv 3)) (d_var (pv 4))))))) d_anil))))))))
def N_is_number : List Str := ["value", "most"]
def P_is_number : List Str := ["value", "most"]
theorem sc_is_number : FnScope N_is_number P_is_number (defScope s_is_number) := ⟨rfl, rfl, rfl, by decide +kernel, rfl, by decide +kernel, by decide +kernel⟩
theorem ok_is_number (T : Facts K mg M) (Fu : Fun K "is_number" "is_number" s_is_number fa fd) : FnG P w K mg base GT 1 fa fd P_is_number (spD K (F_is_number M)) := by
  refine d_def (N := N_is_number) (ps := P_is_number) (G := G_is_number M) Fu sc_is_number fun cdv A outer s H E C hr hg => ?_
  have nd := sc_is_number.nd
  have hu := hr.units
  exact (d_one (d_ret (d_eand (d_isi (.ty _) (fun _ _ h => kit_ty h) (fun A b h => T.own T.k_int h) rfl T.m_isinstance (d_acons (d_var (pv 0)) (d_acons (d_tyn rfl T.m_int (by decide +kernel)) d_anil))) (d_eand (d_enot (d_isi (.ty _) (fun _ _ h => kit_ty h) (fun A b h => T.own T.k_bool h) rfl T.m_isinstance (d_acons (d_var (pv 0)) (d_acons (d_tyn rfl T.m_bool (by decide +kernel)) d_anil)))) (pe_one (d_lele (d_const pe_int fun _ => .int _) (d_var (pv 0)) (d_var (pv 1))))))))
def N_is_state : List Str := ["value", "width", "count", "colour", "following", "number"]
def P_is_state : List Str := ["value", "width", "count"]
theorem sc_is_state : FnScope N_is_state P_is_state (defScope s_is_state) := ⟨rfl, rfl, rfl, by decide +kernel, rfl, by decide +kernel, by decide +kernel⟩
theorem ok_is_state (T : Facts K mg M) (Fu : Fun K "is_state" "is_state" s_is_state fa fd) (H_is_number : Has P w K mg base GT 1 "is_number" P_is_number (spD K (F_is_number M))) : FnG P w K mg base GT 2 fa fd P_is_state (spD K (F_is_state M)) := by
  refine d_def (N := N_is_state) (ps := P_is_state) (G := G_is_state M) Fu sc_is_state fun cdv A outer s H E C hr hg => ?_
  have nd := sc_is_state.nd
  have hu := hr.units
  exact (d_cons (d_sif (PW.pt (d_or (d_not (d_tval (d_isi (.ty _) (fun _ _ h => kit_ty h) (fun A b h => T.own T.k_tuple h) rfl T.m_isinstance (d_acons (d_var (pv 0)) (d_acons (d_tyn rfl T.m_tuple (by decide +kernel)) d_anil))) (fun _ => rfl))) (pw_or1 (t_ne hu (d_len rfl T.m_len (d_acons (d_var (pv 0)) d_anil)) (d_const pe_int fun _ => .int _))))) (d_one (d_ret (d_const pe_bl fun _ => .bl _))) d_nil) (d_cons (d_asg (d_var (pv 0)) (d_gtup rfl (d_gcons (d_gname (pg_name (i := 3) nd rfl (Or.inl rfl))) (d_gcons (d_gname (pg_name (i := 4) nd rfl (Or.inl rfl))) d_gnil)))) (d_cons (d_sif (PW.pt (d_or (d_not (d_tval (d_callH (k := 1) H_is_number hr (by decide) trivial rfl (takes_of rfl rfl rfl rfl) (d_acons (d_var (pv 3)) (d_acons (d_inte rfl T.m_MOST_COLOUR) d_anil))) (fun _ => rfl))) (d_or (d_not (d_tval (d_isi (.ty _) (fun _ _ h => kit_ty h) (fun A b h => T.own T.k_tuple h) rfl T.m_isinstance (d_acons (d_var (pv 4)) (d_acons (d_tyn rfl T.m_tuple (by decide +kernel)) d_anil))) (fun _ => rfl))) (pw_or1 (t_ne hu (d_len rfl T.m_len (d_acons (d_var (pv 4)) d_anil)) (d_var (pv 1))))))) (d_one (d_ret (d_const pe_bl fun _ => .bl _))) d_nil) (d_one (d_ret (d_all rfl rfl T.m_all (d_acons (d_share (d_lc (ctg_name (i := 5) (by decide)) (pe_lc (own := [("number", 5)]) rfl nd (d_iany (d_var (pv 4))) (blkOk_by (N := N_is_state) (sc := defScope s_is_state) (by decide +kernel)) (fun _ _ _ _ _ => (pg_name (i := 5) nd rfl (Or.inl rfl))) (fun _ _ _ _ _ => d_tsany fun C => d_tsnil) (fun _ _ _ _ _ => d_any fun C => (d_callH (k := 1) H_is_number hr (by decide) trivial rfl takes0 (d_acons (d_var (pv 5)) (d_acons (d_sub (d_var (pv 2)) (d_const pe_int fun _ => .int _)) d_anil))))))) d_anil)))))))
def N_first_wrong_state : List Str := ["letters", "states", "index", "state"]
def P_first_wrong_state : List Str := ["letters", "states"]
theorem sc_first_wrong_state : FnScope N_first_wrong_state P_first_wrong_state (defScope s_first_wrong_state) := ⟨rfl, rfl, rfl, by decide +kernel, rfl, by decide +kernel, by decide +kernel⟩
theorem ok_first_wrong_state (T : Facts K mg M) (Fu : Fun K "first_wrong_state" "first_wrong_state" s_first_wrong_state fa fd) (H_is_state : Has P w K mg base GT 2 "is_state" P_is_state (spD K (F_is_state M))) : FnG P w K mg base GT 3 fa fd P_first_wrong_state (spD K (F_first_wrong_state M)) := by
  refine d_def (N := N_first_wrong_state) (ps := P_first_wrong_state) (G := G_first_wrong_state M) Fu sc_first_wrong_state fun cdv A outer s H E C hr hg => ?_
  have nd := sc_first_wrong_state.nd
  have hu := hr.units
  exact (d_cons (d_for (passes_of rfl) rfl (d_ienumT rfl T.m_enumerate (d_acons (d_var (pv 1)) d_anil)) (d_gtup rfl (d_gcons (d_gname (pg_name (i := 2) nd rfl (Or.inl rfl))) (d_gcons (d_gname (pg_name (i := 3) nd rfl (Or.inl rfl))) d_gnil))) (d_one (d_sif (PW.pt (d_or (t_eq hu (d_var (pv 2)) (d_inte rfl T.m_MOST_STATES)) (pw_or1 (d_not (d_tval (d_callH (k := 2) H_is_state hr (by decide) trivial rfl (takes_of rfl rfl rfl rfl) (d_acons (d_var (pv 3)) (d_acons (d_len rfl T.m_len (d_acons (d_var (pv 0)) d_anil)) (d_acons (d_len rfl T.m_len (d_acons (d_var (pv 1)) d_anil)) d_anil)))) (fun _ => rfl)))))) (d_one (d_ret (d_var (pv 2)))) d_nil))) (d_one (d_ret (d_neg (d_const pe_int fun _ => .int _)))))
def N_Machine_init : List Str := ["self", "letters", "states", "wrong"]
def P_Machine_init : List Str := ["self", "letters", "states"]
theorem sc_Machine_init : FnScope N_Machine_init P_Machine_init (defScope s_Machine_init) := ⟨rfl, rfl, rfl, by decide +kernel, rfl, by decide +kernel, by decide +kernel⟩
theorem ok_Machine_init (T : Facts K mg M) (Fu : Fun K "__init__" "Machine.__init__" s_Machine_init fa fd) (H_first_wrong_state : Has P w K mg base GT 3 "first_wrong_state" P_first_wrong_state (spD K (F_first_wrong_state M))) (H_is_letters : Has P w K mg base GT 1 "is_letters" P_is_letters (spD K (F_is_letters M))) : FnG P w K mg base GT 4 fa fd P_Machine_init (spI K M (Fx_Machine M)) := by
  refine d_init (N := N_Machine_init) (ps := P_Machine_init) (F := G_Machine_init M) Fu sc_Machine_init fun y cdv Ar outer s H E C hr hg => ?_
  have nd := sc_Machine_init.nd
  have hu := hr.units
  exact (i_cons (fun C => (d_sif (d_not (d_tval (d_callH (k := 3) H_is_letters hr (by decide) trivial rfl (takes_of rfl rfl rfl rfl) (d_acons (d_var (pv 1)) d_anil)) (fun _ => rfl))) (d_one d_never) d_nil)) (i_cons (fun C => (d_sif (PW.pt (d_or (d_not (d_tval (d_isi (.ty _) (fun _ _ h => kit_ty h) (fun A b h => T.own T.k_tuple h) rfl T.m_isinstance (d_acons (d_var (pv 2)) (d_acons (d_tyn rfl T.m_tuple (by decide +kernel)) d_anil))) (fun _ => rfl))) (pw_or1 (t_eq hu (d_len rfl T.m_len (d_acons (d_var (pv 2)) d_anil)) (d_const pe_int fun _ => .int _))))) (d_one d_never) d_nil)) (i_cons (fun C => (d_set (ps_set (i := 3) nd rfl (Or.inl rfl) (d_callH (k := 3) H_first_wrong_state hr (by decide) trivial rfl (takes_of rfl rfl rfl rfl) (d_acons (d_var (pv 1)) (d_acons (d_var (pv 2)) d_anil)))))) (i_cons (fun C => (d_sif (t_ge (d_var (pv 3)) (d_const pe_int fun _ => .int _)) (d_one d_never) d_nil)) (i_store (pv 0) (fun C => (d_var (pv 1))) T.cM T.n_letters (i_store (pv 0) (fun C => (d_var (pv 2))) T.cM T.n_states i_nil))))))
def HasM (P : Program) (w : World) (K : PySem.W.Frag) (mg : Str → Option Value) (base : Heap) (M : Addr) : Prop := ∃ f fd, Mk K M f ∧ FnG P w K mg base GT 4 f fd P_Machine_init (spI K M (Fx_Machine M)) ∧ Binds K fd P_Machine_init []
theorem d_makeH {X : Cx} {C : Cq} {E : XK} {e : Expr} {es : List Expr} {pos p : Pos} {G : AF} {k : Nat} {x : Str} (h : HasM X.prog X.w X.K X.mg X.base M) (hr : Room k X.A) (hj : 5 ≤ k) (hg : Gl X x) (hm : X.mg x = some (.ref M)) (hx : Passes (L2.CX X.prog X.w) X E)
    (ha : PA X (e :: es) (tDA X.K C (WD E) G)) (hdb : (x == ("__debug__" : Str)) = false := by decide) (he : starEach (e :: es) X.env = (false, eval e X.env) :: starEach es X.env := by rfl) (hpl : (backTo pos (starEach es X.env)).any (·.1) = false := by rfl) :
    PE X (.Call (.Name x p) (e :: es) [] pos) (tD X.K C (WD E) (eMake M (Fm_Machine M) G)) := by
  obtain ⟨f, fd, hM, FO, hb⟩ := h
  exact d_make hM FO.fnok (fm_ok M) (hr.mono hj) hg hm hb hx ha hdb he hpl
def N__law_made : List Str := ["_law_tool_here"]
def P__law_made : List Str := ["_law_tool_here"]
theorem sc__law_made : FnScope N__law_made P__law_made (defScope s__law_made) := ⟨rfl, rfl, rfl, by decide +kernel, rfl, by decide +kernel, by decide +kernel⟩
theorem ok__law_made (T : Facts K mg M) (Fu : Fun K "_law_made" "_law_made" s__law_made fa fd) (H_Machine : HasM P w K mg base M) : FnG P w K mg base GT 6 fa fd P__law_made (spD K (F__law_made M)) := by
  refine d_def (N := N__law_made) (ps := P__law_made) (G := G__law_made M) Fu sc__law_made fun cdv A outer s H E C hr hg => ?_
  have nd := sc__law_made.nd
  have hu := hr.units
  exact (d_one (d_ret (d_makeH H_Machine hr (by decide) rfl T.m_Machine (passes_call (takes_of rfl rfl rfl rfl) fun _ _ _ _ h => h) (d_acons (d_ix (d_var (pv 0)) (d_const pe_int fun _ => .int _) (fun _ _ => rfl)) (d_acons (d_ix (d_var (pv 0)) (d_const pe_int fun _ => .int _) (fun _ _ => rfl)) d_anil)))))
def N__law_pairs_v2 : List Str := ["_law_tool_here", "_law_mate_here", "_law_found", "_law_k", "_law_j"]
def P__law_pairs_v2 : List Str := ["_law_tool_here", "_law_mate_here"]
theorem sc__law_pairs_v2 : FnScope N__law_pairs_v2 P__law_pairs_v2 (defScope s__law_pairs_v2) := ⟨rfl, rfl, rfl, by decide +kernel, rfl, by decide +kernel, by decide +kernel⟩
theorem ok__law_pairs_v2 (T : Facts K mg M) (Fu : Fun K "_law_pairs" "_law_pairs" s__law_pairs_v2 fa fd) : FnG P w K mg base GT 1 fa fd P__law_pairs_v2 (spD K (F__law_pairs_v2)) := by
  refine d_def (N := N__law_pairs_v2) (ps := P__law_pairs_v2) (G := G__law_pairs_v2) Fu sc__law_pairs_v2 fun cdv A outer s H E C hr hg => ?_
  have nd := sc__law_pairs_v2.nd
  have hu := hr.units
  exact (d_cons (d_own (ps_set (i := 2) nd rfl (Or.inl rfl) d_dnewT)) (d_cons (d_for (passes_of rfl) rfl (d_irange rfl T.m_range (d_acons (d_len rfl T.m_len (d_acons (d_ix (d_var (pv 0)) (d_const pe_int fun _ => .int _) (fun _ _ => rfl)) d_anil)) d_anil)) (d_gname (pg_name (i := 3) nd rfl (Or.inl rfl))) (d_one (d_for (passes_of rfl) rfl (d_irange rfl T.m_range (d_acons (d_len rfl T.m_len (d_acons (d_ix (d_var (pv 1)) (d_const pe_int fun _ => .int _) (fun _ _ => rfl)) d_anil)) d_anil)) (d_gname (pg_name (i := 4) nd rfl (Or.inl rfl))) (d_one (d_dputT (hu1 hu) (pv 2) (d_tup (d_acons (d_var (pv 3)) (d_acons (d_var (pv 4)) d_anil))) (d_share (d_listZ rfl rfl T.m_list rfl T.m_zip (d_acons (d_ix (d_ix (d_ix (d_var (pv 0)) (d_const pe_int fun _ => .int _) (fun _ _ => rfl)) (d_var (pv 3)) (fun _ _ => rfl)) (d_const pe_int fun _ => .int _) (fun _ _ => rfl)) (d_acons (d_ix (d_ix (d_ix (d_var (pv 1)) (d_const pe_int fun _ => .int _) (fun _ _ => rfl)) (d_var (pv 4)) (fun _ _ => rfl)) (d_const pe_int fun _ => .int _) (fun _ _ => rfl)) d_anil))))))))) (d_one (d_freeze (i := 2) (d_ret (d_var (pv 2)))))))
def N__law_reached_v3 : List Str := ["_law_arrows_here", "_law_first", "_law_found", "_law_spot", "_law_mate_here"]
def P__law_reached_v3 : List Str := ["_law_arrows_here", "_law_first"]
theorem sc__law_reached_v3 : FnScope N__law_reached_v3 P__law_reached_v3 (defScope s__law_reached_v3) := ⟨rfl, rfl, rfl, by decide +kernel, rfl, by decide +kernel, by decide +kernel⟩
theorem ok__law_reached_v3 (T : Facts K mg M) (Fu : Fun K "_law_reached" "_law_reached" s__law_reached_v3 fa fd) : FnG P w K mg base GT 1 fa fd P__law_reached_v3 (spD K (F__law_reached_v3)) := by
  refine d_def (N := N__law_reached_v3) (ps := P__law_reached_v3) (G := G__law_reached_v3) Fu sc__law_reached_v3 fun cdv A outer s H E C hr hg => ?_
  have nd := sc__law_reached_v3.nd
  have hu := hr.units
  exact (d_cons (d_ow1 (ps_par rfl nd rfl rfl (by decide) rfl rfl (pa_cons (d_lst (d_acons (d_var (pv 1)) d_anil)) (pa_cons (d_in3 fun C => (d_const pe_int fun _ => .int _)) pa_nil rfl) rfl) rfl)) (d_cons (d_while (passes_of rfl) (t_lt (d_var (pv 3)) (d_lenOw rfl T.m_len (pv 2))) (d_cons (d_for (passes_of rfl) rfl (d_iany (d_dgT (hu1 hu) (d_var (pv 0)) (d_ixOw (pv 2) (d_var (pv 3)) (fun _ _ => rfl)) (fun _ _ => rfl))) (d_gname (pg_name (i := 4) nd rfl (Or.inl rfl))) (d_one (d_sif (t_ninGOw hu (d_var (pv 4)) (pv 2)) (d_one (d_push (pv 2) (d_var (pv 4)))) d_nil))) (d_one (d_set (ps_set (i := 3) nd rfl (Or.inl rfl) (d_add (d_var (pv 3)) (d_const pe_int fun _ => .int _))))))) (d_one (d_freeze (i := 2) (d_ret (d_var (pv 2)))))))
def N__law_is_loop_v2 : List Str := ["_law_arrows_here", "_law_some", "_law_each", "_law_mate_here", "_law_own", "_law_behind", "_law_far"]
def P__law_is_loop_v2 : List Str := ["_law_arrows_here", "_law_some"]
theorem sc__law_is_loop_v2 : FnScope N__law_is_loop_v2 P__law_is_loop_v2 (defScope s__law_is_loop_v2) := ⟨rfl, rfl, rfl, by decide +kernel, rfl, by decide +kernel, by decide +kernel⟩
theorem ok__law_is_loop_v2 (T : Facts K mg M) (Fu : Fun K "_law_is_loop" "_law_is_loop" s__law_is_loop_v2 fa fd) (H__law_reached_v3 : Has P w K mg base GT 1 "_law_reached" P__law_reached_v3 (spD K (F__law_reached_v3))) : FnG P w K mg base GT 2 fa fd P__law_is_loop_v2 (spD K (F__law_is_loop_v2)) := by
  refine d_def (N := N__law_is_loop_v2) (ps := P__law_is_loop_v2) (G := G__law_is_loop_v2) Fu sc__law_is_loop_v2 fun cdv A outer s H E C hr hg => ?_
  have nd := sc__law_is_loop_v2.nd
  have hu := hr.units
  exact (d_cons (d_setF (ps_set (i := 4) nd rfl (Or.inl rfl) (d_dictPT rfl hu rfl T.m_dict (d_share (d_lc (ctg_name (i := 2) (by decide)) (pe_lc (own := [("_law_each", 2)]) rfl nd (d_iany (d_var (pv 1))) (blkOk_by (N := N__law_is_loop_v2) (sc := defScope s__law_is_loop_v2) (by decide +kernel)) (fun _ _ _ _ _ => (pg_name (i := 2) nd rfl (Or.inl rfl))) (fun _ _ _ _ _ => d_tsany fun C => d_tsnil) (fun _ _ _ _ _ => d_any fun C => (d_tup (d_acons (d_var (pv 2)) (d_acons (d_share (d_lc (ctg_name (i := 3) (by decide)) (pe_lc (own := [("_law_mate_here", 3)]) rfl nd (d_iany (d_dgT (hu1 hu) (d_var (pv 0)) (d_var (pv 2)) (fun _ _ => rfl))) (blkOk_by (by kernel_rfl)) (fun _ _ _ _ _ => (pg_name (i := 3) nd rfl (Or.inl rfl))) (fun _ _ _ _ _ => d_tsany fun C => (d_tsone (t_inG hu (d_var (pv 3)) (d_var (pv 1))))) (fun _ _ _ _ _ => d_any fun C => (d_var (pv 3)))))) d_anil)))))))))) (d_cons (d_for (passes_of rfl) rfl (d_iany (d_var (pv 1))) (d_gname (pg_name (i := 2) nd rfl (Or.inl rfl))) (d_cons (d_setF (ps_set (i := 5) nd rfl (Or.inr rfl) (d_lst d_anil))) (d_cons (d_for (passes_of rfl) rfl (d_iany (d_dgT (hu1 hu) (d_var (pv 4)) (d_var (pv 2)) (fun _ _ => rfl))) (d_gname (pg_name (i := 3) nd rfl (Or.inl rfl))) (d_one (d_set (ps_set (i := 5) nd rfl (Or.inr rfl) (d_add (d_var (pv 5)) (d_share (d_lc (ctg_name (i := 6) (by decide)) (pe_lc (own := [("_law_far", 6)]) rfl nd (d_iany (d_callH (k := 1) H__law_reached_v3 hr (by decide) trivial rfl (takes_of rfl rfl rfl rfl) (d_acons (d_var (pv 4)) (d_acons (d_var (pv 3)) d_anil)))) (blkOk_by (N := N__law_is_loop_v2) (sc := defScope s__law_is_loop_v2) (by decide +kernel)) (fun _ _ _ _ _ => (pg_name (i := 6) nd rfl (Or.inl rfl))) (fun _ _ _ _ _ => d_tsany fun C => (d_tsone (t_ninG hu (d_var (pv 6)) (d_var (pv 5))))) (fun _ _ _ _ _ => d_any fun C => (d_var (pv 6))))))))))) (d_one (d_sif (t_ne hu (d_share (d_lc (ctg_name (i := 6) (by decide)) (pe_lc (own := [("_law_far", 6)]) rfl nd (d_iany (d_var (pv 1))) (blkOk_by (N := N__law_is_loop_v2) (sc := defScope s__law_is_loop_v2) (by decide +kernel)) (fun _ _ _ _ _ => (pg_name (i := 6) nd rfl (Or.inl rfl))) (fun _ _ _ _ _ => d_tsany fun C => (d_tsone (t_ninG hu (d_var (pv 6)) (d_var (pv 5))))) (fun _ _ _ _ _ => d_any fun C => (d_var (pv 6)))))) (d_share (d_lst d_anil))) (d_one (d_ret (d_const pe_bl fun _ => .bl _))) d_nil))))) (d_one (d_ret (d_const pe_bl fun _ => .bl _)))))
def N__law_loops_v3 : List Str := ["_law_arrows_here", "_law_first", "_law_found", "_law_each", "_law_some"]
def P__law_loops_v3 : List Str := ["_law_arrows_here", "_law_first"]
theorem sc__law_loops_v3 : FnScope N__law_loops_v3 P__law_loops_v3 (defScope s__law_loops_v3) := ⟨rfl, rfl, rfl, by decide +kernel, rfl, by decide +kernel, by decide +kernel⟩
theorem ok__law_loops_v3 (T : Facts K mg M) (Fu : Fun K "_law_loops" "_law_loops" s__law_loops_v3 fa fd) (H__law_reached_v3 : Has P w K mg base GT 1 "_law_reached" P__law_reached_v3 (spD K (F__law_reached_v3))) (H__law_is_loop_v2 : Has P w K mg base GT 2 "_law_is_loop" P__law_is_loop_v2 (spD K (F__law_is_loop_v2))) : FnG P w K mg base GT 3 fa fd P__law_loops_v3 (spD K (F__law_loops_v3)) := by
  refine d_def (N := N__law_loops_v3) (ps := P__law_loops_v3) (G := G__law_loops_v3) Fu sc__law_loops_v3 fun cdv A outer s H E C hr hg => ?_
  have nd := sc__law_loops_v3.nd
  have hu := hr.units
  exact (d_cons (d_setF (ps_set (i := 2) nd rfl (Or.inl rfl) (d_lst (d_acons (d_tup d_anil) d_anil)))) (d_cons (d_for (passes_of rfl) rfl (d_iany (d_callH (k := 2) H__law_reached_v3 hr (by decide) trivial rfl (takes_of rfl rfl rfl rfl) (d_acons (d_var (pv 0)) (d_acons (d_var (pv 1)) d_anil)))) (d_gname (pg_name (i := 3) nd rfl (Or.inr rfl))) (d_one (d_set (ps_set (i := 2) nd rfl (Or.inl rfl) (d_add (d_var (pv 2)) (d_share (d_lc (ctg_name (i := 4) (by decide)) (pe_lc (own := [("_law_some", 4)]) rfl nd (d_iany (d_var (pv 2))) (blkOk_by (N := N__law_loops_v3) (sc := defScope s__law_loops_v3) (by decide +kernel)) (fun _ _ _ _ _ => (pg_name (i := 4) nd rfl (Or.inl rfl))) (fun _ _ _ _ _ => d_tsany fun C => d_tsnil) (fun _ _ _ _ _ => d_any fun C => (d_add (d_var (pv 4)) (d_tup (d_acons (d_var (pv 3)) d_anil)))))))))))) (d_one (d_ret (d_share (d_lc (ctg_name (i := 4) (by decide)) (pe_lc (own := [("_law_some", 4)]) rfl nd (d_iany (d_var (pv 2))) (blkOk_by (N := N__law_loops_v3) (sc := defScope s__law_loops_v3) (by decide +kernel)) (fun _ _ _ _ _ => (pg_name (i := 4) nd rfl (Or.inl rfl))) (fun _ _ _ _ _ => d_tsany fun C => (d_tsone (PW.pt (d_and (t_ne hu (d_var (pv 4)) (d_tup d_anil)) (pw_and1 (d_tval (d_callH (k := 2) H__law_is_loop_v2 hr (by decide) trivial rfl takes0 (d_acons (d_var (pv 0)) (d_acons (d_var (pv 4)) d_anil))) (fun _ => rfl))))))) (fun _ _ _ _ _ => d_any fun C => (d_var (pv 4))))))))))
def N__law_tops : List Str := ["_law_tool_here", "_law_mate_here", "_law_some", "_law_k", "_law_j"]
def P__law_tops : List Str := ["_law_tool_here", "_law_mate_here", "_law_some"]
theorem sc__law_tops : FnScope N__law_tops P__law_tops (defScope s__law_tops) := ⟨rfl, rfl, rfl, by decide +kernel, rfl, by decide +kernel, by decide +kernel⟩
theorem ok__law_tops (T : Facts K mg M) (Fu : Fun K "_law_tops" "_law_tops" s__law_tops fa fd) : FnG P w K mg base GT 1 fa fd P__law_tops (spD K (F__law_tops)) := by
  refine d_def (N := N__law_tops) (ps := P__law_tops) (G := G__law_tops) Fu sc__law_tops fun cdv A outer s H E C hr hg => ?_
  have nd := sc__law_tops.nd
  have hu := hr.units
  exact (d_one (d_ret (d_tup (d_acons (d_maxL rfl rfl T.m_max (d_acons (d_share (d_lc (ctg_pair (i := 3) (j := 4) (by decide) (by decide)) (pe_lc (own := [("_law_k", 3), ("_law_j", 4)]) rfl nd (d_iany (d_var (pv 2))) (blkOk_by (N := N__law_tops) (sc := defScope s__law_tops) (by decide +kernel)) (fun _ _ _ _ _ => (pg_tup rfl (pgs_cons (pg_name (i := 3) nd rfl (Or.inl rfl)) (pgs_cons (pg_name (i := 4) nd rfl (Or.inl rfl)) pgs_nil rfl) rfl) rfl rfl)) (fun _ _ _ _ _ => d_tsany fun C => d_tsnil) (fun _ _ _ _ _ => d_any fun C => (d_ix (d_ix (d_ix (d_var (pv 0)) (d_const pe_int fun _ => .int _) (fun _ _ => rfl)) (d_var (pv 3)) (fun _ _ => rfl)) (d_const pe_int fun _ => .int _) (fun _ _ => rfl)))))) d_anil)) (d_acons (d_maxL rfl rfl T.m_max (d_acons (d_share (d_lc (ctg_pair (i := 3) (j := 4) (by decide) (by decide)) (pe_lc (own := [("_law_k", 3), ("_law_j", 4)]) rfl nd (d_iany (d_var (pv 2))) (blkOk_by (N := N__law_tops) (sc := defScope s__law_tops) (by decide +kernel)) (fun _ _ _ _ _ => (pg_tup rfl (pgs_cons (pg_name (i := 3) nd rfl (Or.inl rfl)) (pgs_cons (pg_name (i := 4) nd rfl (Or.inl rfl)) pgs_nil rfl) rfl) rfl rfl)) (fun _ _ _ _ _ => d_tsany fun C => d_tsnil) (fun _ _ _ _ _ => d_any fun C => (d_ix (d_ix (d_ix (d_var (pv 1)) (d_const pe_int fun _ => .int _) (fun _ _ => rfl)) (d_var (pv 4)) (fun _ _ => rfl)) (d_const pe_int fun _ => .int _) (fun _ _ => rfl)))))) d_anil)) d_anil)))))
def N__law_even_starts : List Str := ["_law_tool_here", "_law_mate_here", "_law_arrows_here", "_law_found", "_law_pair", "_law_some", "_law_top"]
def P__law_even_starts : List Str := ["_law_tool_here", "_law_mate_here"]
theorem sc__law_even_starts : FnScope N__law_even_starts P__law_even_starts (defScope s__law_even_starts) := ⟨rfl, rfl, rfl, by decide +kernel, rfl, by decide +kernel, by decide +kernel⟩
theorem ok__law_even_starts (T : Facts K mg M) (Fu : Fun K "_law_even_starts" "_law_even_starts" s__law_even_starts fa fd) (H__law_pairs_v2 : Has P w K mg base GT 1 "_law_pairs" P__law_pairs_v2 (spD K (F__law_pairs_v2))) (H__law_loops_v3 : Has P w K mg base GT 3 "_law_loops" P__law_loops_v3 (spD K (F__law_loops_v3))) (H__law_tops : Has P w K mg base GT 1 "_law_tops" P__law_tops (spD K (F__law_tops))) : FnG P w K mg base GT 4 fa fd P__law_even_starts (spD K (F__law_even_starts)) := by
  refine d_def (N := N__law_even_starts) (ps := P__law_even_starts) (G := G__law_even_starts) Fu sc__law_even_starts fun cdv A outer s H E C hr hg => ?_
  have nd := sc__law_even_starts.nd
  have hu := hr.units
  exact (d_cons (d_ow2 (ps_par rfl nd rfl rfl (by decide) rfl rfl (pa_cons (d_callH (k := 3) H__law_pairs_v2 hr (by decide) trivial rfl (takes_of rfl rfl rfl rfl) (d_acons (d_var (pv 0)) (d_acons (d_var (pv 1)) d_anil))) (pa_cons (d_lst d_anil) pa_nil rfl) rfl) rfl)) (d_cons (d_for (passes_of rfl) rfl (d_iany (d_share (d_lstT rfl rfl T.m_list (d_var (pv 2))))) (d_gname (pg_name (i := 4) nd rfl (Or.inl rfl))) (d_one (d_for (passes_of rfl) rfl (d_iany (d_callH (k := 3) H__law_loops_v3 hr (by decide) trivial rfl (takes_of rfl rfl rfl rfl) (d_acons (d_var (pv 2)) (d_acons (d_var (pv 4)) d_anil)))) (d_gname (pg_name (i := 5) nd rfl (Or.inl rfl))) (d_one (d_sif (PW.pt (d_and (t_eq hu (d_share (d_lc (ctg_name (i := 6) (by decide)) (pe_lc (own := [("_law_top", 6)]) rfl nd (d_iany (d_callH (k := 3) H__law_tops hr (by decide) trivial rfl (takes_of rfl rfl rfl rfl) (d_acons (d_var (pv 0)) (d_acons (d_var (pv 1)) (d_acons (d_var (pv 5)) d_anil))))) (blkOk_by (N := N__law_even_starts) (sc := defScope s__law_even_starts) (by decide +kernel)) (fun _ _ _ _ _ => (pg_name (i := 6) nd rfl (Or.inl rfl))) (fun _ _ _ _ _ => d_tsany fun C => d_tsnil) (fun _ _ _ _ _ => d_any fun C => (d_mod (d_int rfl T.m_int (d_acons (d_var (pv 6)) d_anil)) (d_const pe_int fun _ => .int _)))))) (d_share (d_lst (d_acons (d_const pe_int fun _ => .int _) (d_acons (d_const pe_int fun _ => .int _) d_anil))))) (pw_and1 (t_ninGOw hu (d_ix (d_var (pv 5)) (d_const pe_int fun _ => .int _) (fun _ _ => rfl)) (pv 3))))) (d_one (d_push (pv 3) (d_ix (d_var (pv 5)) (d_const pe_int fun _ => .int _) (fun _ _ => rfl)))) d_nil))))) (d_one (d_freeze (i := 3) (d_ret (d_var (pv 3)))))))
def N__law_words : List Str := ["_law_letters_here", "_law_most", "_law_found", "_law_last", "_law_turn", "_law_fresh", "_law_run", "_law_letter"]
def P__law_words : List Str := ["_law_letters_here", "_law_most"]
theorem sc__law_words : FnScope N__law_words P__law_words (defScope s__law_words) := ⟨rfl, rfl, rfl, by decide +kernel, rfl, by decide +kernel, by decide +kernel⟩
theorem ok__law_words (T : Facts K mg M) (Fu : Fun K "_law_words" "_law_words" s__law_words fa fd) : FnG P w K mg base GT 1 fa fd P__law_words (spD K (F__law_words)) := by
  refine d_def (N := N__law_words) (ps := P__law_words) (G := G__law_words) Fu sc__law_words fun cdv A outer s H E C hr hg => ?_
  have nd := sc__law_words.nd
  have hu := hr.units
  exact (d_cons (d_par2 (ps_par rfl nd rfl rfl (by decide) rfl rfl (d_acons (d_share (d_lst (d_acons (d_const pe_str fun _ => .str _) d_anil))) (d_acons (d_share (d_lst (d_acons (d_const pe_str fun _ => .str _) d_anil))) d_anil)) rfl)) (d_cons (d_for (passes_of rfl) rfl (d_irange rfl T.m_range (d_acons (d_var (pv 1)) d_anil)) (d_gname (pg_name (i := 4) nd rfl (Or.inl rfl))) (d_cons (d_setF (ps_set (i := 5) nd rfl (Or.inl rfl) (d_lst d_anil))) (d_cons (d_for (passes_of rfl) rfl (d_iany (d_var (pv 3))) (d_gname (pg_name (i := 6) nd rfl (Or.inr rfl))) (d_one (d_set (ps_set (i := 5) nd rfl (Or.inl rfl) (d_add (d_var (pv 5)) (d_share (d_lc (ctg_name (i := 7) (by decide)) (pe_lc (own := [("_law_letter", 7)]) rfl nd (d_iany (d_var (pv 0))) (blkOk_by (N := N__law_words) (sc := defScope s__law_words) (by decide +kernel)) (fun _ _ _ _ _ => (pg_name (i := 7) nd rfl (Or.inl rfl))) (fun _ _ _ _ _ => d_tsany fun C => d_tsnil) (fun _ _ _ _ _ => d_any fun C => (d_add (d_var (pv 6)) (d_var (pv 7)))))))))))) (d_one (d_par2 (ps_par rfl nd rfl rfl (by decide) rfl rfl (d_acons (d_add (d_var (pv 2)) (d_var (pv 5))) (d_acons (d_var (pv 5)) d_anil)) rfl)))))) (d_one (d_ret (d_var (pv 2))))))
def N__law_walk_v2 : List Str := ["_law_tool_here", "_law_state_here", "_law_run", "_law_found", "_law_letter"]
def P__law_walk_v2 : List Str := ["_law_tool_here", "_law_state_here", "_law_run"]
theorem sc__law_walk_v2 : FnScope N__law_walk_v2 P__law_walk_v2 (defScope s__law_walk_v2) := ⟨rfl, rfl, rfl, by decide +kernel, rfl, by decide +kernel, by decide +kernel⟩
theorem ok__law_walk_v2 (T : Facts K mg M) (Fu : Fun K "_law_walk" "_law_walk" s__law_walk_v2 fa fd) : FnG P w K mg base GT 1 fa fd P__law_walk_v2 (spD K (F__law_walk_v2)) := by
  refine d_def (N := N__law_walk_v2) (ps := P__law_walk_v2) (G := G__law_walk_v2) Fu sc__law_walk_v2 fun cdv A outer s H E C hr hg => ?_
  have nd := sc__law_walk_v2.nd
  have hu := hr.units
  exact (d_cons (d_own (ps_set (i := 3) nd rfl (Or.inl rfl) (d_lst d_anil))) (d_cons (d_for (passes_of rfl) rfl (d_iany (d_var (pv 2))) (d_gname (pg_name (i := 4) nd rfl (Or.inl rfl))) (d_cons (d_set (ps_set (i := 1) nd rfl (Or.inl rfl) (d_ix (d_ix (d_ix (d_ix (d_var (pv 0)) (d_const pe_int fun _ => .int _) (fun _ _ => rfl)) (d_var (pv 1)) (fun _ _ => rfl)) (d_const pe_int fun _ => .int _) (fun _ _ => rfl)) (d_bm PySem.F.slot_str_index PySem.F.type_str_index mt_sindex m_sidx (d_ix (d_var (pv 0)) (d_const pe_int fun _ => .int _) (fun _ _ => rfl)) (d_acons (d_var (pv 4)) d_anil)) (fun _ _ => rfl)))) (d_one (d_push (pv 3) (d_var (pv 1)))))) (d_one (d_freeze (i := 3) (d_ret (d_var (pv 3)))))))
def N__law_end_v2 : List Str := ["_law_tool_here", "_law_state_here", "_law_run"]
def P__law_end_v2 : List Str := ["_law_tool_here", "_law_state_here", "_law_run"]
theorem sc__law_end_v2 : FnScope N__law_end_v2 P__law_end_v2 (defScope s__law_end_v2) := ⟨rfl, rfl, rfl, by decide +kernel, rfl, by decide +kernel, by decide +kernel⟩
theorem ok__law_end_v2 (T : Facts K mg M) (Fu : Fun K "_law_end" "_law_end" s__law_end_v2 fa fd) (H__law_walk_v2 : Has P w K mg base GT 1 "_law_walk" P__law_walk_v2 (spD K (F__law_walk_v2))) : FnG P w K mg base GT 2 fa fd P__law_end_v2 (spD K (F__law_end_v2)) := by
  refine d_def (N := N__law_end_v2) (ps := P__law_end_v2) (G := G__law_end_v2) Fu sc__law_end_v2 fun cdv A outer s H E C hr hg => ?_
  have nd := sc__law_end_v2.nd
  have hu := hr.units
  exact (d_one (d_ret (d_ix (d_add (d_share (d_lst (d_acons (d_var (pv 1)) d_anil))) (d_callH (k := 1) H__law_walk_v2 hr (by decide) trivial rfl (takes_of rfl rfl rfl rfl) (d_acons (d_var (pv 0)) (d_acons (d_var (pv 1)) (d_acons (d_var (pv 2)) d_anil))))) (d_neg (d_const pe_int fun _ => .int _)) (fun _ _ => rfl))))
def N__law_is_fine : List Str := ["_law_arrows_here", "_law_starts_here", "_law_pair", "_law_each"]
def P__law_is_fine : List Str := ["_law_arrows_here", "_law_starts_here", "_law_pair"]
theorem sc__law_is_fine : FnScope N__law_is_fine P__law_is_fine (defScope s__law_is_fine) := ⟨rfl, rfl, rfl, by decide +kernel, rfl, by decide +kernel, by decide +kernel⟩
theorem ok__law_is_fine (T : Facts K mg M) (Fu : Fun K "_law_is_fine" "_law_is_fine" s__law_is_fine fa fd) (H__law_reached_v3 : Has P w K mg base GT 1 "_law_reached" P__law_reached_v3 (spD K (F__law_reached_v3))) : FnG P w K mg base GT 2 fa fd P__law_is_fine (spD K (F__law_is_fine)) := by
  refine d_def (N := N__law_is_fine) (ps := P__law_is_fine) (G := G__law_is_fine) Fu sc__law_is_fine fun cdv A outer s H E C hr hg => ?_
  have nd := sc__law_is_fine.nd
  have hu := hr.units
  exact (d_one (d_ret (d_ne hu (d_share (d_lc (ctg_name (i := 3) (by decide)) (pe_lc (own := [("_law_each", 3)]) rfl nd (d_iany (d_callH (k := 1) H__law_reached_v3 hr (by decide) trivial rfl (takes_of rfl rfl rfl rfl) (d_acons (d_var (pv 0)) (d_acons (d_var (pv 2)) d_anil)))) (blkOk_by (N := N__law_is_fine) (sc := defScope s__law_is_fine) (by decide +kernel)) (fun _ _ _ _ _ => (pg_name (i := 3) nd rfl (Or.inl rfl))) (fun _ _ _ _ _ => d_tsany fun C => (d_tsone (t_inG hu (d_var (pv 3)) (d_var (pv 1))))) (fun _ _ _ _ _ => d_any fun C => (d_var (pv 3)))))) (d_share (d_lst d_anil)))))
def N__law_due_v2 : List Str := ["_law_tool_here", "_law_mate_here", "_law_alone", "_law_own", "_law_own_starts", "_law_both", "_law_starts_here", "_law_run", "_law_pair"]
def P__law_due_v2 : List Str := ["_law_tool_here", "_law_mate_here"]
theorem sc__law_due_v2 : FnScope N__law_due_v2 P__law_due_v2 (defScope s__law_due_v2) := ⟨rfl, rfl, rfl, by decide +kernel, rfl, by decide +kernel, by decide +kernel⟩
theorem ok__law_due_v2 (T : Facts K mg M) (Fu : Fun K "_law_due" "_law_due" s__law_due_v2 fa fd) (H__law_even_starts : Has P w K mg base GT 4 "_law_even_starts" P__law_even_starts (spD K (F__law_even_starts))) (H__law_pairs_v2 : Has P w K mg base GT 1 "_law_pairs" P__law_pairs_v2 (spD K (F__law_pairs_v2))) (H__law_words : Has P w K mg base GT 1 "_law_words" P__law_words (spD K (F__law_words))) (H__law_end_v2 : Has P w K mg base GT 2 "_law_end" P__law_end_v2 (spD K (F__law_end_v2))) (H__law_is_fine : Has P w K mg base GT 2 "_law_is_fine" P__law_is_fine (spD K (F__law_is_fine))) : FnG P w K mg base GT 5 fa fd P__law_due_v2 (spD K (F__law_due_v2)) := by
  refine d_def (N := N__law_due_v2) (ps := P__law_due_v2) (G := G__law_due_v2) Fu sc__law_due_v2 fun cdv A outer s H E C hr hg => ?_
  have nd := sc__law_due_v2.nd
  have hu := hr.units
  exact (d_cons (d_setF (ps_set (i := 2) nd rfl (Or.inl rfl) (d_lst (d_acons (d_const pe_str fun _ => .str _) (d_acons (d_tup (d_acons (d_tup (d_acons (d_const pe_int fun _ => .int _) (d_acons (d_tup (d_acons (d_const pe_int fun _ => .int _) (d_acons (d_const pe_int fun _ => .int _) d_anil))) d_anil))) d_anil)) d_anil))))) (d_cons (d_par2 (ps_par rfl nd rfl rfl (by decide) rfl rfl (d_acons (d_callH (k := 4) H__law_pairs_v2 hr (by decide) trivial rfl (takes_of rfl rfl rfl rfl) (d_acons (d_var (pv 0)) (d_acons (d_var (pv 2)) d_anil))) (d_acons (d_callH (k := 4) H__law_even_starts hr (by decide) trivial rfl (takes_of rfl rfl rfl rfl) (d_acons (d_var (pv 0)) (d_acons (d_var (pv 2)) d_anil))) d_anil)) rfl)) (d_cons (d_par2 (ps_par rfl nd rfl rfl (by decide) rfl rfl (d_acons (d_callH (k := 4) H__law_pairs_v2 hr (by decide) trivial rfl (takes_of rfl rfl rfl rfl) (d_acons (d_var (pv 0)) (d_acons (d_var (pv 1)) d_anil))) (d_acons (d_callH (k := 4) H__law_even_starts hr (by decide) trivial rfl (takes_of rfl rfl rfl rfl) (d_acons (d_var (pv 0)) (d_acons (d_var (pv 1)) d_anil))) d_anil)) rfl)) (d_cons (d_for (passes_of rfl) rfl (d_iany (d_callH (k := 4) H__law_words hr (by decide) trivial rfl (takes_of rfl rfl rfl rfl) (d_acons (d_const pe_str fun _ => .str _) (d_acons (d_const pe_int fun _ => .int _) d_anil)))) (d_gname (pg_name (i := 7) nd rfl (Or.inl rfl))) (d_cons (d_set (ps_set (i := 8) nd rfl (Or.inl rfl) (d_tup (d_acons (d_callH (k := 4) H__law_end_v2 hr (by decide) trivial rfl (takes_of rfl rfl rfl rfl) (d_acons (d_var (pv 0)) (d_acons (d_const pe_int fun _ => .int _) (d_acons (d_var (pv 7)) d_anil)))) (d_acons (d_callH (k := 4) H__law_end_v2 hr (by decide) trivial rfl (takes_of rfl rfl rfl rfl) (d_acons (d_var (pv 1)) (d_acons (d_const pe_int fun _ => .int _) (d_acons (d_var (pv 7)) d_anil)))) d_anil))))) (d_one (d_sif (PW.pt (d_and (d_tval (d_callH (k := 4) H__law_is_fine hr (by decide) trivial rfl (takes_of rfl rfl rfl rfl) (d_acons (d_var (pv 3)) (d_acons (d_var (pv 4)) (d_acons (d_tup (d_acons (d_ix (d_var (pv 8)) (d_const pe_int fun _ => .int _) (fun _ _ => rfl)) (d_acons (d_const pe_int fun _ => .int _) d_anil))) d_anil)))) (fun _ => rfl)) (pw_and1 (d_not (d_tval (d_callH (k := 4) H__law_is_fine hr (by decide) trivial rfl (takes_of rfl rfl rfl rfl) (d_acons (d_var (pv 5)) (d_acons (d_var (pv 6)) (d_acons (d_var (pv 8)) d_anil)))) (fun _ => rfl)))))) (d_one (d_ret (d_var (pv 7)))) d_nil)))) (d_one (d_ret (d_const pe_non fun _ => .non)))))))
def N_check_machine : List Str := ["value"]
def P_check_machine : List Str := ["value"]
theorem sc_check_machine : FnScope N_check_machine P_check_machine (defScope s_check_machine) := ⟨rfl, rfl, rfl, by decide +kernel, rfl, by decide +kernel, by decide +kernel⟩
theorem ok_check_machine (T : Facts K mg M) (Fu : Fun K "check_machine" "check_machine" s_check_machine fa fd) : FnG P w K mg base GT 1 fa fd P_check_machine (spD K (F_check_machine M)) := by
  refine d_def (N := N_check_machine) (ps := P_check_machine) (G := G_check_machine M) Fu sc_check_machine fun cdv A outer s H E C hr hg => ?_
  have nd := sc_check_machine.nd
  have hu := hr.units
  exact (d_one (d_sif (d_not (d_tval (d_isi (.own _) (fun _ _ h => T.kitM h) (fun A b h => T.ownM h) rfl T.m_isinstance (d_acons (d_var (pv 0)) (d_acons (d_clsn rfl T.m_Machine) d_anil))) (fun _ => rfl))) (d_one d_never) d_nil))
def N_check_pair : List Str := ["one", "other"]
def P_check_pair : List Str := ["one", "other"]
theorem sc_check_pair : FnScope N_check_pair P_check_pair (defScope s_check_pair) := ⟨rfl, rfl, rfl, by decide +kernel, rfl, by decide +kernel, by decide +kernel⟩
theorem ok_check_pair (T : Facts K mg M) (Fu : Fun K "check_pair" "check_pair" s_check_pair fa fd) (H_check_machine : Has P w K mg base GT 1 "check_machine" P_check_machine (spD K (F_check_machine M))) : FnG P w K mg base GT 3 fa fd P_check_pair (spD K (F_check_pair M)) := by
  refine d_def (N := N_check_pair) (ps := P_check_pair) (G := G_check_pair M) Fu sc_check_pair fun cdv A outer s H E C hr hg => ?_
  have nd := sc_check_pair.nd
  have hu := hr.units
  exact (d_cons (d_expr (d_callH (k := 2) H_check_machine hr (by decide) trivial rfl (takes_of rfl rfl rfl rfl) (d_acons (d_var (pv 0)) d_anil))) (d_cons (d_expr (d_callH (k := 2) H_check_machine hr (by decide) trivial rfl (takes_of rfl rfl rfl rfl) (d_acons (d_var (pv 1)) d_anil))) (d_one (d_sif (t_ne hu (d_propG (k := 2) (d_var (pv 0)) T.cM T.g_letters hr (by decide)) (d_propG (k := 2) (d_var (pv 1)) T.cM T.g_letters hr (by decide))) (d_one d_never) d_nil))))
def N_Machine_len_ : List Str := ["self"]
def P_Machine_len_ : List Str := ["self"]
theorem sc_Machine_len_ : FnScope N_Machine_len_ P_Machine_len_ (defScope s_Machine_len_) := ⟨rfl, rfl, rfl, by decide +kernel, rfl, by decide +kernel, by decide +kernel⟩
theorem ok_Machine_len_ (T : Facts K mg M) (Fu : Fun K "__len__" "Machine.__len__" s_Machine_len_ fa fd) : FnG P w K mg base GT 1 fa fd P_Machine_len_ (spD K (F_Machine_len_ M)) := by
  refine d_def (N := N_Machine_len_) (ps := P_Machine_len_) (G := G_Machine_len_ M) Fu sc_Machine_len_ fun cdv A outer s H E C hr hg => ?_
  have nd := sc_Machine_len_.nd
  have hu := hr.units
  exact (d_one (d_ret (d_len rfl T.m_len (d_acons (d_fld (d_var (pv 0)) T.cM T.n_states) d_anil))))
def HasLen (P : Program) (w : World) (K : PySem.W.Frag) (mg : Str → Option Value) (base : Heap) (M : Addr) : Prop := ∃ f fd, PySem.W.findIn K (.ref M) "__len__" = some (some (.ref f)) ∧ PySem.W.isFn K (.ref f) = true ∧ FnG P w K mg base GT 1 f fd P_Machine_len_ (spD K (F_Machine_len_ M)) ∧ Binds K fd P_Machine_len_ []
theorem d_lenH {X : Cx} {C : Cq} {W : WX} {a : Expr} {pos p : Pos} {G : AF} {k : Nat} (h : HasLen X.prog X.w X.K X.mg X.base M) (hr : Room k X.A) (hj : 2 ≤ k) (hg : Gl X "len") (hm : X.mg "len" = none) (ha : PA X [a] (tDA X.K C W G)) (he : starEach [a] X.env = (false, eval a X.env) :: starEach [] X.env := by rfl)
    (hpl : (backTo pos (starEach [] X.env)).any (·.1) = false := by rfl) : PE X (.Call (.Name "len" p) [a] [] pos) (tD X.K C W (eLenO M (F_Machine_len_ M) G)) := by
  obtain ⟨f, fd, hs, hf, FO, hb⟩ := h
  exact d_lenO hs hf FO.fnok (hr.mono hj) hb hg hm ha he hpl
def N_pair_arrows : List Str := ["one", "other", "many", "state", "beside", "low", "high"]
def P_pair_arrows : List Str := ["one", "other"]
theorem sc_pair_arrows : FnScope N_pair_arrows P_pair_arrows (defScope s_pair_arrows) := ⟨rfl, rfl, rfl, by decide +kernel, rfl, by decide +kernel, by decide +kernel⟩
theorem ok_pair_arrows (T : Facts K mg M) (Fu : Fun K "pair_arrows" "pair_arrows" s_pair_arrows fa fd) (H_len : HasLen P w K mg base M) : FnG P w K mg base GT 3 fa fd P_pair_arrows (spD K (F_pair_arrows M)) := by
  refine d_def (N := N_pair_arrows) (ps := P_pair_arrows) (G := G_pair_arrows M) Fu sc_pair_arrows fun cdv A outer s H E C hr hg => ?_
  have nd := sc_pair_arrows.nd
  have hu := hr.units
  exact (d_cons (d_set (ps_set (i := 2) nd rfl (Or.inr rfl) (d_lenH (k := 2) H_len hr (by decide) rfl T.m_len (d_acons (d_var (pv 1)) d_anil)))) (d_one (d_ret (d_share (d_lc2 (ctg_name (i := 3) (by decide)) (ctg_name (i := 4) (by decide)) (pe_lc2 (own := [("state", 3), ("beside", 4)]) rfl nd (d_iany (d_propG (k := 2) (d_var (pv 0)) T.cM T.g_states hr (by decide))) (blkOk_by (N := N_pair_arrows) (sc := defScope s_pair_arrows) (by decide +kernel)) (by decide) (fun _ _ _ _ _ => (pg_name (i := 3) nd rfl (Or.inl rfl))) (fun _ _ _ _ _ => d_tsany fun C => d_tsnil) (fun _ _ _ _ _ => d_iany2 fun C => (d_iany (d_propG (k := 2) (d_var (pv 1)) T.cM T.g_states hr (by decide)))) (fun _ _ _ _ _ => (pg_name (i := 4) nd rfl (Or.inl rfl))) (fun _ _ _ _ _ => d_tsany fun C => d_tsnil) (fun _ _ _ _ _ => d_any fun C => (d_share (d_lc (ctg_pair (i := 5) (j := 6) (by decide) (by decide)) (pe_lc (own := [("low", 5), ("high", 6)]) rfl nd (d_izip rfl T.m_zip (d_acons (d_ix (d_var (pv 3)) (d_const pe_int fun _ => .int _) (fun _ _ => rfl)) (d_acons (d_ix (d_var (pv 4)) (d_const pe_int fun _ => .int _) (fun _ _ => rfl)) d_anil))) (blkOk_by (by kernel_rfl)) (fun _ _ _ _ _ => (pg_tup rfl (pgs_cons (pg_name (i := 5) nd rfl (Or.inl rfl)) (pgs_cons (pg_name (i := 6) nd rfl (Or.inl rfl)) pgs_nil rfl) rfl) rfl rfl)) (fun _ _ _ _ _ => d_tsany fun C => d_tsnil) (fun _ _ _ _ _ => d_any fun C => (d_add (d_mul (d_var (pv 5)) (d_var (pv 2))) (d_var (pv 6))))))))))))))
def N_pair_colours : List Str := ["one", "other", "pairs", "state", "beside", "pair"]
def P_pair_colours : List Str := ["one", "other"]
theorem sc_pair_colours : FnScope N_pair_colours P_pair_colours (defScope s_pair_colours) := ⟨rfl, rfl, rfl, by decide +kernel, rfl, by decide +kernel, by decide +kernel⟩
theorem ok_pair_colours (T : Facts K mg M) (Fu : Fun K "pair_colours" "pair_colours" s_pair_colours fa fd) : FnG P w K mg base GT 3 fa fd P_pair_colours (spD K (F_pair_colours M)) := by
  refine d_def (N := N_pair_colours) (ps := P_pair_colours) (G := G_pair_colours M) Fu sc_pair_colours fun cdv A outer s H E C hr hg => ?_
  have nd := sc_pair_colours.nd
  have hu := hr.units
  exact (d_cons (d_setF (d_setlc2 (ctg_name (i := 3) (by decide)) (ctg_name (i := 4) (by decide)) (ps_setLc2 (i := 2) (own := [("state", 3), ("beside", 4)]) rfl nd rfl rfl (sw_true rfl rfl rfl (by decide +kernel)) (d_iany (d_propG (k := 2) (d_var (pv 0)) T.cM T.g_states hr (by decide))) (blkOk_by (N := N_pair_colours) (sc := defScope s_pair_colours) (by decide +kernel)) (by decide) (fun _ _ _ _ _ => (pg_name (i := 3) nd rfl (Or.inl rfl))) (fun _ _ _ _ _ => d_tsany fun C => d_tsnil) (fun _ _ _ _ _ => d_iany2 fun C => (d_iany (d_propG (k := 2) (d_var (pv 1)) T.cM T.g_states hr (by decide)))) (fun _ _ _ _ _ => (pg_name (i := 4) nd rfl (Or.inl rfl))) (fun _ _ _ _ _ => d_tsany fun C => d_tsnil) (fun _ _ _ _ _ => d_any fun C => (d_tup (d_acons (d_ix (d_var (pv 3)) (d_const pe_int fun _ => .int _) (fun _ _ => rfl)) (d_acons (d_ix (d_var (pv 4)) (d_const pe_int fun _ => .int _) (fun _ _ => rfl)) d_anil))))))) (d_one (d_ret (d_tup (d_acons (d_share (d_lc (ctg_name (i := 5) (by decide)) (pe_lc (own := [("pair", 5)]) rfl nd (d_iany (d_var (pv 2))) (blkOk_by (N := N_pair_colours) (sc := defScope s_pair_colours) (by decide +kernel)) (fun _ _ _ _ _ => (pg_name (i := 5) nd rfl (Or.inl rfl))) (fun _ _ _ _ _ => d_tsany fun C => d_tsnil) (fun _ _ _ _ _ => d_any fun C => (d_ix (d_var (pv 5)) (d_const pe_int fun _ => .int _) (fun _ _ => rfl)))))) (d_acons (d_share (d_lc (ctg_name (i := 5) (by decide)) (pe_lc (own := [("pair", 5)]) rfl nd (d_iany (d_var (pv 2))) (blkOk_by (N := N_pair_colours) (sc := defScope s_pair_colours) (by decide +kernel)) (fun _ _ _ _ _ => (pg_name (i := 5) nd rfl (Or.inl rfl))) (fun _ _ _ _ _ => d_tsany fun C => d_tsnil) (fun _ _ _ _ _ => d_any fun C => (d_ix (d_var (pv 5)) (d_const pe_int fun _ => .int _) (fun _ _ => rfl)))))) d_anil))))))
def N_bits_ahead : List Str := ["arrows", "numbers", "bits", "number", "between", "k"]
def P_bits_ahead : List Str := ["arrows", "numbers"]
theorem sc_bits_ahead : FnScope N_bits_ahead P_bits_ahead (defScope s_bits_ahead) := ⟨rfl, rfl, rfl, by decide +kernel, rfl, by decide +kernel, by decide +kernel⟩
theorem ok_bits_ahead (T : Facts K mg M) (Fu : Fun K "bits_ahead" "bits_ahead" s_bits_ahead fa fd) : FnG P w K mg base GT 1 fa fd P_bits_ahead (spD K (F_bits_ahead)) := by
  refine d_def (N := N_bits_ahead) (ps := P_bits_ahead) (G := G_bits_ahead) Fu sc_bits_ahead fun cdv A outer s H E C hr hg => ?_
  have nd := sc_bits_ahead.nd
  have hu := hr.units
  exact (d_cons (d_own (ps_set (i := 2) nd rfl (Or.inl rfl) d_dnew)) (d_cons (d_for (passes_of rfl) rfl (d_iany (d_var (pv 1))) (d_gname (pg_name (i := 3) nd rfl (Or.inr rfl))) (d_one (d_dput (hu1 hu) (pv 2) (d_var (pv 3)) (d_sum rfl rfl T.m_sum (d_acons (d_share (d_lc (ctg_name (i := 5) (by decide)) (pe_lc (own := [("k", 5)]) rfl nd (d_iany (d_var (pv 1))) (blkOk_by (N := N_bits_ahead) (sc := defScope s_bits_ahead) (by decide +kernel)) (fun _ _ _ _ _ => (pg_name (i := 5) nd rfl (Or.inl rfl))) (fun _ _ _ _ _ => d_tsany fun C => (d_tsone (t_inq (d_var (pv 5)) (d_ix (d_var (pv 0)) (d_var (pv 3)) (fun _ _ => rfl))))) (fun _ _ _ _ _ => d_any fun C => (d_shl (d_const pe_int fun _ => .int _) (d_var (pv 5))))))) d_anil))))) (d_cons (d_for (passes_of rfl) rfl (d_iany (d_var (pv 1))) (d_gname (pg_name (i := 4) nd rfl (Or.inl rfl))) (d_one (d_for (passes_of rfl) rfl (d_iany (d_var (pv 1))) (d_gname (pg_name (i := 3) nd rfl (Or.inr rfl))) (d_one (d_sif (d_truth (d_band (d_shr (d_dgOw (hu1 hu) (pv 2) (d_var (pv 3)) (fun _ _ => rfl)) (d_var (pv 4))) (d_const pe_int fun _ => .int _))) (d_one (d_dput (hu1 hu) (pv 2) (d_var (pv 3)) (d_bor (d_dgOw (hu1 hu) (pv 2) (d_var (pv 3)) (fun _ _ => rfl)) (d_dgOw (hu1 hu) (pv 2) (d_var (pv 4)) (fun _ _ => rfl))))) d_nil))))) (d_one (d_freeze (i := 2) (d_ret (d_var (pv 2))))))))
def N_greatest_loops : List Str := ["arrows", "numbers", "bits", "found", "number", "loop", "k"]
def P_greatest_loops : List Str := ["arrows", "numbers"]
theorem sc_greatest_loops : FnScope N_greatest_loops P_greatest_loops (defScope s_greatest_loops) := ⟨rfl, rfl, rfl, by decide +kernel, rfl, by decide +kernel, by decide +kernel⟩
theorem ok_greatest_loops (T : Facts K mg M) (Fu : Fun K "greatest_loops" "greatest_loops" s_greatest_loops fa fd) (H_bits_ahead : Has P w K mg base GT 1 "bits_ahead" P_bits_ahead (spD K (F_bits_ahead))) : FnG P w K mg base GT 2 fa fd P_greatest_loops (spD K (F_greatest_loops)) := by
  refine d_def (N := N_greatest_loops) (ps := P_greatest_loops) (G := G_greatest_loops) Fu sc_greatest_loops fun cdv A outer s H E C hr hg => ?_
  have nd := sc_greatest_loops.nd
  have hu := hr.units
  exact (d_cons (d_set (ps_set (i := 2) nd rfl (Or.inr rfl) (d_callH (k := 1) H_bits_ahead hr (by decide) trivial rfl (takes_of rfl rfl rfl rfl) (d_acons (d_var (pv 0)) (d_acons (d_var (pv 1)) d_anil))))) (d_cons (d_own (ps_set (i := 3) nd rfl (Or.inl rfl) (d_lst d_anil))) (d_cons (d_for (passes_of rfl) rfl (d_iany (d_var (pv 1))) (d_gname (pg_name (i := 4) nd rfl (Or.inr rfl))) (d_cons (d_setF (d_setlc (ctg_name (i := 6) (by decide)) (ps_setLc (i := 5) (own := [("k", 6)]) rfl nd rfl rfl (sw_true rfl rfl rfl (by decide +kernel)) (d_iany (d_var (pv 1))) (blkOk_by (N := N_greatest_loops) (sc := defScope s_greatest_loops) (by decide +kernel)) (fun _ _ _ _ _ => (pg_name (i := 6) nd rfl (Or.inl rfl))) (fun _ _ _ _ _ => d_tsany fun C => (d_tsone (d_truth (d_band (d_band (d_shr (d_dg (hu1 hu) (d_var (pv 2)) (d_var (pv 4)) (fun _ _ => rfl)) (d_var (pv 6))) (d_shr (d_dg (hu1 hu) (d_var (pv 2)) (d_var (pv 6)) (fun _ _ => rfl)) (d_var (pv 4)))) (d_const pe_int fun _ => .int _))))) (fun _ _ _ _ _ => d_any fun C => (d_var (pv 6)))))) (d_one (d_sif (PW.pt (d_and (d_truth (d_var (pv 5))) (pw_and1 (t_eq hu (d_ix (d_var (pv 5)) (d_const pe_int fun _ => .int _) (fun _ _ => rfl)) (d_var (pv 4)))))) (d_one (d_push (pv 3) (d_var (pv 5)))) d_nil)))) (d_one (d_freeze (i := 3) (d_ret (d_var (pv 3))))))))
def N_without_wrong_top : List Str := ["loop", "asked", "colours", "evenness", "top", "k"]
def P_without_wrong_top : List Str := ["loop", "asked"]
theorem sc_without_wrong_top : FnScope N_without_wrong_top P_without_wrong_top (defScope s_without_wrong_top) := ⟨rfl, rfl, rfl, by decide +kernel, rfl, by decide +kernel, by decide +kernel⟩
theorem ok_without_wrong_top (T : Facts K mg M) (Fu : Fun K "without_wrong_top" "without_wrong_top" s_without_wrong_top fa fd) : FnG P w K mg base GT 1 fa fd P_without_wrong_top (spD K (F_without_wrong_top)) := by
  refine d_def (N := N_without_wrong_top) (ps := P_without_wrong_top) (G := G_without_wrong_top) Fu sc_without_wrong_top fun cdv A outer s H E C hr hg => ?_
  have nd := sc_without_wrong_top.nd
  have hu := hr.units
  exact (d_cons (d_for (passes_of rfl) rfl (d_iany (d_var (pv 1))) (d_gtup rfl (d_gcons (d_gname (pg_name (i := 2) nd rfl (Or.inr rfl))) (d_gcons (d_gname (pg_name (i := 3) nd rfl (Or.inl rfl))) d_gnil))) (d_cons (d_set (ps_set (i := 4) nd rfl (Or.inr rfl) (d_maxL rfl rfl T.m_max (d_acons (d_share (d_lc (ctg_name (i := 5) (by decide)) (pe_lc (own := [("k", 5)]) rfl nd (d_iany (d_var (pv 0))) (blkOk_by (N := N_without_wrong_top) (sc := defScope s_without_wrong_top) (by decide +kernel)) (fun _ _ _ _ _ => (pg_name (i := 5) nd rfl (Or.inl rfl))) (fun _ _ _ _ _ => d_tsany fun C => d_tsnil) (fun _ _ _ _ _ => d_any fun C => (d_ix (d_var (pv 2)) (d_var (pv 5)) (fun _ _ => rfl)))))) d_anil)))) (d_one (d_sif (t_ne hu (d_mod (d_var (pv 4)) (d_const pe_int fun _ => .int _)) (d_var (pv 3))) (d_one (d_ret (d_share (d_lc (ctg_name (i := 5) (by decide)) (pe_lc (own := [("k", 5)]) rfl nd (d_iany (d_var (pv 0))) (blkOk_by (N := N_without_wrong_top) (sc := defScope s_without_wrong_top) (by decide +kernel)) (fun _ _ _ _ _ => (pg_name (i := 5) nd rfl (Or.inl rfl))) (fun _ _ _ _ _ => d_tsany fun C => (d_tsone (t_lt (d_ix (d_var (pv 2)) (d_var (pv 5)) (fun _ _ => rfl)) (d_var (pv 4))))) (fun _ _ _ _ _ => d_any fun C => (d_var (pv 5)))))))) d_nil)))) (d_one (d_ret (d_var (pv 0)))))
def N_loops_as_asked : List Str := ["arrows", "numbers", "asked", "found", "waiting", "rest", "loop", "left"]
def P_loops_as_asked : List Str := ["arrows", "numbers", "asked"]
theorem sc_loops_as_asked : FnScope N_loops_as_asked P_loops_as_asked (defScope s_loops_as_asked) := ⟨rfl, rfl, rfl, by decide +kernel, rfl, by decide +kernel, by decide +kernel⟩
theorem ok_loops_as_asked (T : Facts K mg M) (Fu : Fun K "loops_as_asked" "loops_as_asked" s_loops_as_asked fa fd) (H_greatest_loops : Has P w K mg base GT 2 "greatest_loops" P_greatest_loops (spD K (F_greatest_loops))) (H_without_wrong_top : Has P w K mg base GT 1 "without_wrong_top" P_without_wrong_top (spD K (F_without_wrong_top))) : FnG P w K mg base GT 3 fa fd P_loops_as_asked (spD K (F_loops_as_asked)) := by
  refine d_def (N := N_loops_as_asked) (ps := P_loops_as_asked) (G := G_loops_as_asked) Fu sc_loops_as_asked fun cdv A outer s H E C hr hg => ?_
  have nd := sc_loops_as_asked.nd
  have hu := hr.units
  exact (d_cons (d_own (ps_set (i := 3) nd rfl (Or.inl rfl) (d_lst d_anil))) (d_cons (d_own (ps_set (i := 4) nd rfl (Or.inl rfl) (d_lst (d_acons (d_var (pv 1)) d_anil)))) (d_cons (d_while (passes_of rfl) (t_ow (pv 4)) (d_cons (d_pop (ps_set (i := 5) nd rfl (Or.inl rfl) (pe_bm0 PySem.F.plainAttrs_list PySem.F.slot_list_pop PySem.F.type_list_pop mt_pop (pv 4)))) (d_one (d_for (passes_of rfl) rfl (d_iany (d_callH (k := 2) H_greatest_loops hr (by decide) trivial rfl (takes_of rfl rfl rfl rfl) (d_acons (d_var (pv 0)) (d_acons (d_var (pv 5)) d_anil)))) (d_gname (pg_name (i := 6) nd rfl (Or.inl rfl))) (d_cons (d_set (ps_set (i := 7) nd rfl (Or.inl rfl) (d_callH (k := 2) H_without_wrong_top hr (by decide) trivial rfl (takes_of rfl rfl rfl rfl) (d_acons (d_var (pv 6)) (d_acons (d_var (pv 2)) d_anil))))) (d_one (d_sif (t_eq hu (d_len rfl T.m_len (d_acons (d_var (pv 7)) d_anil)) (d_len rfl T.m_len (d_acons (d_var (pv 6)) d_anil))) (d_one (d_push (pv 3) (d_var (pv 6)))) (d_one (d_push (pv 4) (d_var (pv 7))))))))))) (d_one (d_freeze (i := 3) (d_ret (d_var (pv 3))))))))
def N_leading_to : List Str := ["arrows", "goals", "leads", "_", "number", "k"]
def P_leading_to : List Str := ["arrows", "goals"]
theorem sc_leading_to : FnScope N_leading_to P_leading_to (defScope s_leading_to) := ⟨rfl, rfl, rfl, by decide +kernel, rfl, by decide +kernel, by decide +kernel⟩
theorem ok_leading_to (T : Facts K mg M) (Fu : Fun K "leading_to" "leading_to" s_leading_to fa fd) : FnG P w K mg base GT 1 fa fd P_leading_to (spD K (F_leading_to)) := by
  refine d_def (N := N_leading_to) (ps := P_leading_to) (G := G_leading_to) Fu sc_leading_to fun cdv A outer s H E C hr hg => ?_
  have nd := sc_leading_to.nd
  have hu := hr.units
  exact (d_cons (d_setF (ps_set (i := 2) nd rfl (Or.inr rfl) (d_lc (ctg_name (i := 4) (by decide)) (pe_lc (own := [("number", 4)]) rfl nd (d_irange rfl T.m_range (d_acons (d_len rfl T.m_len (d_acons (d_var (pv 0)) d_anil)) d_anil)) (blkOk_by (N := N_leading_to) (sc := defScope s_leading_to) (by decide +kernel)) (fun _ _ _ _ _ => (pg_name (i := 4) nd rfl (Or.inl rfl))) (fun _ _ _ _ _ => d_tsany fun C => d_tsnil) (fun _ _ _ _ _ => d_any fun C => (d_inq (d_var (pv 4)) (d_var (pv 1)))))))) (d_cons (d_for (passes_of rfl) rfl (d_iany (d_var (pv 0))) (d_gname (pg_name (i := 3) nd rfl (Or.inl rfl))) (d_one (d_setF (ps_set (i := 2) nd rfl (Or.inr rfl) (d_lc (ctg_name (i := 4) (by decide)) (pe_lc (own := [("number", 4)]) rfl nd (d_irange rfl T.m_range (d_acons (d_len rfl T.m_len (d_acons (d_var (pv 0)) d_anil)) d_anil)) (blkOk_by (N := N_leading_to) (sc := defScope s_leading_to) (by decide +kernel)) (fun _ _ _ _ _ => (pg_name (i := 4) nd rfl (Or.inl rfl))) (fun _ _ _ _ _ => d_tsany fun C => d_tsnil) (fun _ _ _ _ _ => d_any fun C => (d_eor (d_ix (d_var (pv 2)) (d_var (pv 4)) (fun _ _ => rfl)) (pe_one (d_any' rfl rfl T.m_any (d_acons (d_share (d_lc (ctg_name (i := 5) (by decide)) (pe_lc (own := [("k", 5)]) rfl nd (d_iany (d_ix (d_var (pv 0)) (d_var (pv 4)) (fun _ _ => rfl))) (blkOk_by (by kernel_rfl)) (fun _ _ _ _ _ => (pg_name (i := 5) nd rfl (Or.inl rfl))) (fun _ _ _ _ _ => d_tsany fun C => d_tsnil) (fun _ _ _ _ _ => d_any fun C => (d_ix (d_var (pv 2)) (d_var (pv 5)) (fun _ _ => rfl)))))) d_anil))))))))))) (d_one (d_ret (d_share (d_lc (ctg_name (i := 4) (by decide)) (pe_lc (own := [("number", 4)]) rfl nd (d_irange rfl T.m_range (d_acons (d_len rfl T.m_len (d_acons (d_var (pv 0)) d_anil)) d_anil)) (blkOk_by (N := N_leading_to) (sc := defScope s_leading_to) (by decide +kernel)) (fun _ _ _ _ _ => (pg_name (i := 4) nd rfl (Or.inl rfl))) (fun _ _ _ _ _ => d_tsany fun C => (d_tsone (d_tval (d_ix (d_var (pv 2)) (d_var (pv 4)) (fun _ _ => rfl)) (fun _ => rfl)))) (fun _ _ _ _ _ => d_any fun C => (d_var (pv 4))))))))))
def N_arrows_of : List Str := ["machine", "state"]
def P_arrows_of : List Str := ["machine"]
theorem sc_arrows_of : FnScope N_arrows_of P_arrows_of (defScope s_arrows_of) := ⟨rfl, rfl, rfl, by decide +kernel, rfl, by decide +kernel, by decide +kernel⟩
theorem ok_arrows_of (T : Facts K mg M) (Fu : Fun K "arrows_of" "arrows_of" s_arrows_of fa fd) : FnG P w K mg base GT 3 fa fd P_arrows_of (spD K (F_arrows_of M)) := by
  refine d_def (N := N_arrows_of) (ps := P_arrows_of) (G := G_arrows_of M) Fu sc_arrows_of fun cdv A outer s H E C hr hg => ?_
  have nd := sc_arrows_of.nd
  have hu := hr.units
  exact (d_one (d_ret (d_share (d_lc (ctg_name (i := 1) (by decide)) (pe_lc (own := [("state", 1)]) rfl nd (d_iany (d_propG (k := 2) (d_var (pv 0)) T.cM T.g_states hr (by decide))) (blkOk_by (N := N_arrows_of) (sc := defScope s_arrows_of) (by decide +kernel)) (fun _ _ _ _ _ => (pg_name (i := 1) nd rfl (Or.inl rfl))) (fun _ _ _ _ _ => d_tsany fun C => d_tsnil) (fun _ _ _ _ _ => d_any fun C => (d_ix (d_var (pv 1)) (d_const pe_int fun _ => .int _) (fun _ _ => rfl))))))))
def N_colours_of : List Str := ["machine", "state"]
def P_colours_of : List Str := ["machine"]
theorem sc_colours_of : FnScope N_colours_of P_colours_of (defScope s_colours_of) := ⟨rfl, rfl, rfl, by decide +kernel, rfl, by decide +kernel, by decide +kernel⟩
theorem ok_colours_of (T : Facts K mg M) (Fu : Fun K "colours_of" "colours_of" s_colours_of fa fd) : FnG P w K mg base GT 3 fa fd P_colours_of (spD K (F_colours_of M)) := by
  refine d_def (N := N_colours_of) (ps := P_colours_of) (G := G_colours_of M) Fu sc_colours_of fun cdv A outer s H E C hr hg => ?_
  have nd := sc_colours_of.nd
  have hu := hr.units
  exact (d_one (d_ret (d_share (d_lc (ctg_name (i := 1) (by decide)) (pe_lc (own := [("state", 1)]) rfl nd (d_iany (d_propG (k := 2) (d_var (pv 0)) T.cM T.g_states hr (by decide))) (blkOk_by (N := N_colours_of) (sc := defScope s_colours_of) (by decide +kernel)) (fun _ _ _ _ _ => (pg_name (i := 1) nd rfl (Or.inl rfl))) (fun _ _ _ _ _ => d_tsany fun C => d_tsnil) (fun _ _ _ _ _ => d_any fun C => (d_ix (d_var (pv 1)) (d_const pe_int fun _ => .int _) (fun _ _ => rfl))))))))
def N_leading_to_loops : List Str := ["machine", "evenness", "arrows", "loops", "loop", "k"]
def P_leading_to_loops : List Str := ["machine", "evenness"]
theorem sc_leading_to_loops : FnScope N_leading_to_loops P_leading_to_loops (defScope s_leading_to_loops) := ⟨rfl, rfl, rfl, by decide +kernel, rfl, by decide +kernel, by decide +kernel⟩
theorem ok_leading_to_loops (T : Facts K mg M) (Fu : Fun K "leading_to_loops" "leading_to_loops" s_leading_to_loops fa fd) (H_arrows_of : Has P w K mg base GT 3 "arrows_of" P_arrows_of (spD K (F_arrows_of M))) (H_colours_of : Has P w K mg base GT 3 "colours_of" P_colours_of (spD K (F_colours_of M))) (H_loops_as_asked : Has P w K mg base GT 3 "loops_as_asked" P_loops_as_asked (spD K (F_loops_as_asked))) (H_leading_to : Has P w K mg base GT 1 "leading_to" P_leading_to (spD K (F_leading_to))) (H_len : HasLen P w K mg base M) : FnG P w K mg base GT 4 fa fd P_leading_to_loops (spD K (F_leading_to_loops M)) := by
  refine d_def (N := N_leading_to_loops) (ps := P_leading_to_loops) (G := G_leading_to_loops M) Fu sc_leading_to_loops fun cdv A outer s H E C hr hg => ?_
  have nd := sc_leading_to_loops.nd
  have hu := hr.units
  exact (d_cons (d_set (ps_set (i := 2) nd rfl (Or.inl rfl) (d_callH (k := 3) H_arrows_of hr (by decide) trivial rfl (takes_of rfl rfl rfl rfl) (d_acons (d_var (pv 0)) d_anil)))) (d_cons (d_set (ps_set (i := 3) nd rfl (Or.inl rfl) (d_callH (k := 3) H_loops_as_asked hr (by decide) trivial rfl (takes_of rfl rfl rfl rfl) (d_acons (d_var (pv 2)) (d_acons (d_share (d_listRg rfl rfl T.m_list rfl T.m_range (d_lenH (k := 3) H_len hr (by decide) rfl T.m_len (d_acons (d_var (pv 0)) d_anil)))) (d_acons (d_share (d_lst (d_acons (d_tup (d_acons (d_callH (k := 3) H_colours_of hr (by decide) trivial rfl (takes_of rfl rfl rfl rfl) (d_acons (d_var (pv 0)) d_anil)) (d_acons (d_var (pv 1)) d_anil))) d_anil))) d_anil)))))) (d_one (d_ret (d_callH (k := 3) H_leading_to hr (by decide) trivial rfl (takes_of rfl rfl rfl rfl) (d_acons (d_var (pv 2)) (d_acons (d_share (d_lc2 (ctg_name (i := 4) (by decide)) (ctg_name (i := 5) (by decide)) (pe_lc2 (own := [("loop", 4), ("k", 5)]) rfl nd (d_iany (d_var (pv 3))) (blkOk_by (N := N_leading_to_loops) (sc := defScope s_leading_to_loops) (by decide +kernel)) (by decide) (fun _ _ _ _ _ => (pg_name (i := 4) nd rfl (Or.inl rfl))) (fun _ _ _ _ _ => d_tsany fun C => d_tsnil) (fun _ _ _ _ _ => d_iany2 fun C => (d_iany (d_var (pv 4)))) (fun _ _ _ _ _ => (pg_name (i := 5) nd rfl (Or.inl rfl))) (fun _ _ _ _ _ => d_tsany fun C => d_tsnil) (fun _ _ _ _ _ => d_any fun C => (d_var (pv 5)))))) d_anil)))))))
def N_live : List Str := ["machine"]
def P_live : List Str := ["machine"]
theorem sc_live : FnScope N_live P_live (defScope s_live) := ⟨rfl, rfl, rfl, by decide +kernel, rfl, by decide +kernel, by decide +kernel⟩
theorem ok_live (T : Facts K mg M) (Fu : Fun K "live" "live" s_live fa fd) (H_check_machine : Has P w K mg base GT 1 "check_machine" P_check_machine (spD K (F_check_machine M))) (H_leading_to_loops : Has P w K mg base GT 4 "leading_to_loops" P_leading_to_loops (spD K (F_leading_to_loops M))) : FnG P w K mg base GT 5 fa fd P_live (spD K (F_live M)) := by
  refine d_def (N := N_live) (ps := P_live) (G := G_live M) Fu sc_live fun cdv A outer s H E C hr hg => ?_
  have nd := sc_live.nd
  have hu := hr.units
  exact (d_cons (d_expr (d_callH (k := 4) H_check_machine hr (by decide) trivial rfl (takes_of rfl rfl rfl rfl) (d_acons (d_var (pv 0)) d_anil))) (d_one (d_ret (d_tuple rfl T.m_tuple (d_acons (d_callH (k := 4) H_leading_to_loops hr (by decide) trivial rfl (takes_of rfl rfl rfl rfl) (d_acons (d_var (pv 0)) (d_acons (d_inte rfl T.m_EVEN) d_anil))) d_anil)))))
def N_stuck_pairs : List Str := ["one", "other", "arrows", "colours", "others", "loops", "free", "living", "loop", "k"]
def P_stuck_pairs : List Str := ["one", "other"]
theorem sc_stuck_pairs : FnScope N_stuck_pairs P_stuck_pairs (defScope s_stuck_pairs) := ⟨rfl, rfl, rfl, by decide +kernel, rfl, by decide +kernel, by decide +kernel⟩
theorem ok_stuck_pairs (T : Facts K mg M) (Fu : Fun K "stuck_pairs" "stuck_pairs" s_stuck_pairs fa fd) (H_pair_arrows : Has P w K mg base GT 3 "pair_arrows" P_pair_arrows (spD K (F_pair_arrows M))) (H_pair_colours : Has P w K mg base GT 3 "pair_colours" P_pair_colours (spD K (F_pair_colours M))) (H_loops_as_asked : Has P w K mg base GT 3 "loops_as_asked" P_loops_as_asked (spD K (F_loops_as_asked))) (H_leading_to : Has P w K mg base GT 1 "leading_to" P_leading_to (spD K (F_leading_to))) (H_live : Has P w K mg base GT 5 "live" P_live (spD K (F_live M))) (H_len : HasLen P w K mg base M) : FnG P w K mg base GT 6 fa fd P_stuck_pairs (spD K (F_stuck_pairs M)) := by
  refine d_def (N := N_stuck_pairs) (ps := P_stuck_pairs) (G := G_stuck_pairs M) Fu sc_stuck_pairs fun cdv A outer s H E C hr hg => ?_
  have nd := sc_stuck_pairs.nd
  have hu := hr.units
  exact (d_cons (d_set (ps_set (i := 2) nd rfl (Or.inl rfl) (d_callH (k := 5) H_pair_arrows hr (by decide) trivial rfl (takes_of rfl rfl rfl rfl) (d_acons (d_var (pv 0)) (d_acons (d_var (pv 1)) d_anil))))) (d_cons (d_asg (d_callH (k := 5) H_pair_colours hr (by decide) trivial rfl (takes_of rfl rfl rfl rfl) (d_acons (d_var (pv 0)) (d_acons (d_var (pv 1)) d_anil))) (d_gtup rfl (d_gcons (d_gname (pg_name (i := 3) nd rfl (Or.inl rfl))) (d_gcons (d_gname (pg_name (i := 4) nd rfl (Or.inl rfl))) d_gnil)))) (d_cons (d_set (ps_set (i := 5) nd rfl (Or.inl rfl) (d_callH (k := 5) H_loops_as_asked hr (by decide) trivial rfl (takes_of rfl rfl rfl rfl) (d_acons (d_var (pv 2)) (d_acons (d_share (d_listRg rfl rfl T.m_list rfl T.m_range (d_len rfl T.m_len (d_acons (d_var (pv 2)) d_anil)))) (d_acons (d_share (d_lst (d_acons (d_tup (d_acons (d_var (pv 3)) (d_acons (d_inte rfl T.m_EVEN) d_anil))) (d_acons (d_tup (d_acons (d_var (pv 4)) (d_acons (d_inte rfl T.m_EVEN) d_anil))) d_anil)))) d_anil)))))) (d_cons (d_set (ps_set (i := 6) nd rfl (Or.inr rfl) (d_callH (k := 5) H_leading_to hr (by decide) trivial rfl (takes_of rfl rfl rfl rfl) (d_acons (d_var (pv 2)) (d_acons (d_share (d_lc2 (ctg_name (i := 8) (by decide)) (ctg_name (i := 9) (by decide)) (pe_lc2 (own := [("loop", 8), ("k", 9)]) rfl nd (d_iany (d_var (pv 5))) (blkOk_by (N := N_stuck_pairs) (sc := defScope s_stuck_pairs) (by decide +kernel)) (by decide) (fun _ _ _ _ _ => (pg_name (i := 8) nd rfl (Or.inl rfl))) (fun _ _ _ _ _ => d_tsany fun C => d_tsnil) (fun _ _ _ _ _ => d_iany2 fun C => (d_iany (d_var (pv 8)))) (fun _ _ _ _ _ => (pg_name (i := 9) nd rfl (Or.inl rfl))) (fun _ _ _ _ _ => d_tsany fun C => d_tsnil) (fun _ _ _ _ _ => d_any fun C => (d_var (pv 9)))))) d_anil))))) (d_cons (d_set (ps_set (i := 7) nd rfl (Or.inr rfl) (d_callH (k := 5) H_live hr (by decide) trivial rfl (takes_of rfl rfl rfl rfl) (d_acons (d_var (pv 0)) d_anil)))) (d_one (d_ret (d_share (d_lc (ctg_name (i := 9) (by decide)) (pe_lc (own := [("k", 9)]) rfl nd (d_irange rfl T.m_range (d_acons (d_len rfl T.m_len (d_acons (d_var (pv 2)) d_anil)) d_anil)) (blkOk_by (N := N_stuck_pairs) (sc := defScope s_stuck_pairs) (by decide +kernel)) (fun _ _ _ _ _ => (pg_name (i := 9) nd rfl (Or.inl rfl))) (fun _ _ _ _ _ => d_tsany fun C => (d_tsone (PW.pt (d_and (t_inq (d_fdiv (d_var (pv 9)) (d_lenH (k := 5) H_len hr (by decide) rfl T.m_len (d_acons (d_var (pv 1)) d_anil))) (d_var (pv 7))) (pw_and1 (t_ninq (d_var (pv 9)) (d_var (pv 6)))))))) (fun _ _ _ _ _ => d_any fun C => (d_var (pv 9)))))))))))))
def N_words_from : List Str := ["letters", "arrows", "begin", "inside", "words", "order", "at", "number", "row", "letter", "following"]
def P_words_from : List Str := ["letters", "arrows", "begin", "inside"]
theorem sc_words_from : FnScope N_words_from P_words_from (defScope s_words_from) := ⟨rfl, rfl, rfl, by decide +kernel, rfl, by decide +kernel, by decide +kernel⟩
theorem ok_words_from (T : Facts K mg M) (Fu : Fun K "words_from" "words_from" s_words_from fa fd) : FnG P w K mg base GT 1 fa fd P_words_from (spD K (F_words_from)) := by
  refine d_def (N := N_words_from) (ps := P_words_from) (G := G_words_from) Fu sc_words_from fun cdv A outer s H E C hr hg => ?_
  have nd := sc_words_from.nd
  have hu := hr.units
  exact (d_cons (d_own (ps_set (i := 4) nd rfl (Or.inl rfl) (d_done (fun C => (d_var (pv 2))) (fun C => (d_const pe_str fun _ => .str _))))) (d_cons (d_own (ps_set (i := 5) nd rfl (Or.inl rfl) (d_lst (d_acons (d_var (pv 2)) d_anil)))) (d_cons (d_set (ps_set (i := 6) nd rfl (Or.inl rfl) (d_const pe_int fun _ => .int _))) (d_cons (d_while (passes_of rfl) (t_lt (d_var (pv 6)) (d_lenOw rfl T.m_len (pv 5))) (d_cons (d_set (ps_set (i := 7) nd rfl (Or.inl rfl) (d_ixOw (pv 5) (d_var (pv 6)) (fun _ _ => rfl)))) (d_cons (d_set (ps_set (i := 8) nd rfl (Or.inl rfl) (d_ix (d_var (pv 1)) (d_var (pv 7)) (fun _ _ => rfl)))) (d_cons (d_for (passes_of rfl) rfl (d_izipX rfl T.m_zip (d_acons (d_var (pv 0)) (d_acons (d_var (pv 8)) d_anil))) (d_gtup rfl (d_gcons (d_gname (pg_name (i := 9) nd rfl (Or.inl rfl))) (d_gcons (d_gname (pg_name (i := 10) nd rfl (Or.inl rfl))) d_gnil))) (d_one (d_sif (PW.pt (d_and (t_inq (d_var (pv 10)) (d_var (pv 3))) (pw_and1 (t_ninDOw (hu1 hu) (d_var (pv 10)) (pv 4))))) (d_cons (d_dput (hu1 hu) (pv 4) (d_var (pv 10)) (d_add (d_dgOw (hu1 hu) (pv 4) (d_var (pv 7)) (fun _ _ => rfl)) (d_var (pv 9)))) (d_one (d_push (pv 5) (d_var (pv 10))))) d_nil))) (d_one (d_aug (ps_aug (i := 6) nd rfl (Or.inl rfl) (d_const pe_int fun _ => .int _) ip_add))))))) (d_one (d_freeze (i := 4) (d_ret (d_var (pv 4)))))))))
def N_first_word_to : List Str := ["letters", "arrows", "begin", "goals", "words", "found", "number", "word"]
def P_first_word_to : List Str := ["letters", "arrows", "begin", "goals"]
theorem sc_first_word_to : FnScope N_first_word_to P_first_word_to (defScope s_first_word_to) := ⟨rfl, rfl, rfl, by decide +kernel, rfl, by decide +kernel, by decide +kernel⟩
theorem ok_first_word_to (T : Facts K mg M) (Fu : Fun K "first_word_to" "first_word_to" s_first_word_to fa fd) (H_words_from : Has P w K mg base GT 1 "words_from" P_words_from (spD K (F_words_from))) : FnG P w K mg base GT 2 fa fd P_first_word_to (spD K (F_first_word_to)) := by
  refine d_def (N := N_first_word_to) (ps := P_first_word_to) (G := G_first_word_to) Fu sc_first_word_to fun cdv A outer s H E C hr hg => ?_
  have nd := sc_first_word_to.nd
  have hu := hr.units
  exact (d_cons (d_set (ps_set (i := 4) nd rfl (Or.inl rfl) (d_callH (k := 1) H_words_from hr (by decide) trivial rfl (takes_of rfl rfl rfl rfl) (d_acons (d_var (pv 0)) (d_acons (d_var (pv 1)) (d_acons (d_var (pv 2)) (d_acons (d_share (d_listRg rfl rfl T.m_list rfl T.m_range (d_len rfl T.m_len (d_acons (d_var (pv 1)) d_anil)))) d_anil))))))) (d_cons (d_setF (d_setlc (ctg_pair (i := 6) (j := 7) (by decide) (by decide)) (ps_setLc (i := 5) (own := [("number", 6), ("word", 7)]) rfl nd rfl rfl (sw_true rfl rfl rfl (by decide +kernel)) (d_items (d_var (pv 4))) (blkOk_by (N := N_first_word_to) (sc := defScope s_first_word_to) (by decide +kernel)) (fun _ _ _ _ _ => (pg_tup rfl (pgs_cons (pg_name (i := 6) nd rfl (Or.inl rfl)) (pgs_cons (pg_name (i := 7) nd rfl (Or.inl rfl)) pgs_nil rfl) rfl) rfl rfl)) (fun _ _ _ _ _ => d_tsany fun C => (d_tsone (t_inq (d_var (pv 6)) (d_var (pv 3))))) (fun _ _ _ _ _ => d_any fun C => (d_var (pv 7)))))) (d_one (d_ret (d_if (d_truth (d_var (pv 5))) (d_ix (d_var (pv 5)) (d_const pe_int fun _ => .int _) (fun _ _ => rfl)) (d_const pe_non fun _ => .non))))))
def N_jam : List Str := ["one", "other"]
def P_jam : List Str := ["one", "other"]
theorem sc_jam : FnScope N_jam P_jam (defScope s_jam) := ⟨rfl, rfl, rfl, by decide +kernel, rfl, by decide +kernel, by decide +kernel⟩
theorem ok_jam (T : Facts K mg M) (Fu : Fun K "jam" "jam" s_jam fa fd) (H_check_pair : Has P w K mg base GT 3 "check_pair" P_check_pair (spD K (F_check_pair M))) (H_stuck_pairs : Has P w K mg base GT 6 "stuck_pairs" P_stuck_pairs (spD K (F_stuck_pairs M))) (H_pair_arrows : Has P w K mg base GT 3 "pair_arrows" P_pair_arrows (spD K (F_pair_arrows M))) (H_first_word_to : Has P w K mg base GT 2 "first_word_to" P_first_word_to (spD K (F_first_word_to))) : FnG P w K mg base GT 7 fa fd P_jam (spD K (F_jam M)) := by
  refine d_def (N := N_jam) (ps := P_jam) (G := G_jam M) Fu sc_jam fun cdv A outer s H E C hr hg => ?_
  have nd := sc_jam.nd
  have hu := hr.units
  exact (d_cons (d_expr (d_callH (k := 6) H_check_pair hr (by decide) trivial rfl (takes_of rfl rfl rfl rfl) (d_acons (d_var (pv 0)) (d_acons (d_var (pv 1)) d_anil)))) (d_one (d_ret (d_callH (k := 6) H_first_word_to hr (by decide) trivial rfl (takes_of rfl rfl rfl rfl) (d_acons (d_propG (k := 6) (d_var (pv 0)) T.cM T.g_letters hr (by decide)) (d_acons (d_callH (k := 6) H_pair_arrows hr (by decide) trivial rfl (takes_of rfl rfl rfl rfl) (d_acons (d_var (pv 0)) (d_acons (d_var (pv 1)) d_anil))) (d_acons (d_const pe_int fun _ => .int _) (d_acons (d_callH (k := 6) H_stuck_pairs hr (by decide) trivial rfl (takes_of rfl rfl rfl rfl) (d_acons (d_var (pv 0)) (d_acons (d_var (pv 1)) d_anil))) d_anil))))))))
def N_in_step : List Str := ["one", "other"]
def P_in_step : List Str := ["one", "other"]
theorem sc_in_step : FnScope N_in_step P_in_step (defScope s_in_step) := ⟨rfl, rfl, rfl, by decide +kernel, rfl, by decide +kernel, by decide +kernel⟩
theorem ok_in_step (T : Facts K mg M) (Fu : Fun K "in_step" "in_step" s_in_step fa fd) (H_jam : Has P w K mg base GT 7 "jam" P_jam (spD K (F_jam M))) : FnG P w K mg base GT 8 fa fd P_in_step (spD K (F_in_step M)) := by
  refine d_def (N := N_in_step) (ps := P_in_step) (G := G_in_step M) Fu sc_in_step fun cdv A outer s H E C hr hg => ?_
  have nd := sc_in_step.nd
  have hu := hr.units
  exact (d_one (d_ret (d_isn (d_callH (k := 7) H_jam hr (by decide) trivial rfl (takes_of rfl rfl rfl rfl) (d_acons (d_var (pv 0)) (d_acons (d_var (pv 1)) d_anil))) (d_const pe_non fun _ => .non))))
def G__law_right (M : Addr) : SF := (sSeq (sAsg (eCall (F__law_tool) (aCons (eV 0) (aCons (eC (.str "ab")) (aCons (eCall (F__law_pick) (aCons (eV 0) (aCons (eLst (aCons (eC (.int 2)) (aCons (eC (.int 3)) aNil))) aNil))) (aCons (eC (.int 3)) aNil))))) (gN 1)) (sSeq (sAsg (eCall (F__law_tool) (aCons (eV 0) (aCons (eC (.str "ab")) (aCons (eC (.int 2)) (aCons (eC (.int 3)) aNil))))) (gN 2)) (sSeq (sFor (aAny (eLst (aCons (eTup (aCons (eV 1) (aCons (eV 2) aNil))) (aCons (eTup (aCons (eV 2) (aCons (eV 1) aNil))) (aCons (eTup (aCons (eV 2) (aCons (eV 2) aNil))) aNil))))) (gT 2 (gsC (gN 3) (gsC (gN 4) gsN))) (sSeq (sPar2 5 6 (aCons (eCall (F__law_made M) (aCons (eV 3) aNil)) (aCons (eCall (F__law_made M) (aCons (eV 4) aNil)) aNil))) (sSeq (sAsg (eCall (F__law_due_v2) (aCons (eV 3) (aCons (eV 4) aNil))) (gN 7)) (sSeq (sIf (bB (e2 neF (eB reprF (aCons (eLst (aCons (eCall (F_jam M) (aCons (eV 5) (aCons (eV 6) aNil))) (aCons (eCallK 2 (F_jam M) (pick [1, 0]) (aCons (eV 6) (aCons (eV 5) aNil))) aNil))) aNil)) (eB reprF (aCons (eLst (aCons (eV 7) (aCons (eV 7) aNil))) aNil)))) (sRet (eC (.bl false))) sNil) (sIf (bB (e2 neF (eB reprF (aCons (eLst (aCons (eCall (F_in_step M) (aCons (eV 5) (aCons (eV 6) aNil))) (aCons (eCallK 2 (F_in_step M) (pick [1, 0]) (aCons (eV 6) (aCons (eV 5) aNil))) aNil))) aNil)) (eB reprF (aCons (eLst (aCons (e2 isN2 (eV 7) (eC .non)) (aCons (e2 isN2 (eV 7) (eC .non)) aNil))) aNil)))) (sRet (eC (.bl false))) sNil))))) (sRet (eC (.bl true))))))
def F__law_right (M : Addr) : DFn := runD 8 1 (G__law_right M)
def N__law_right : List Str := ["_law_purse_here", "_law_tool_here", "_law_mate_here", "_law_low", "_law_high", "_law_first", "_law_second", "_law_due_here"]
def P__law_right : List Str := ["_law_purse_here"]
theorem sc__law_right : FnScope N__law_right P__law_right (defScope s__law_right) := ⟨rfl, rfl, rfl, by decide +kernel, rfl, by decide +kernel, by decide +kernel⟩
theorem ok__law_right (T : Facts K mg M) (Fu : Fun K "_law_right" "_law_right" s__law_right fa fd) (H__law_pick : Has P w K mg base GT 2 "_law_pick" P__law_pick (spD K (F__law_pick))) (H__law_tool : Has P w K mg base GT 2 "_law_tool" P__law_tool (spD K (F__law_tool))) (H__law_made : Has P w K mg base GT 6 "_law_made" P__law_made (spD K (F__law_made M))) (H__law_due_v2 : Has P w K mg base GT 5 "_law_due" P__law_due_v2 (spD K (F__law_due_v2))) (H_jam : Has P w K mg base GT 7 "jam" P_jam (spD K (F_jam M))) (H_in_step : Has P w K mg base GT 8 "in_step" P_in_step (spD K (F_in_step M))) (K_jam : HasK P w K mg base GT 7 "jam" P_jam ["other", "one"] [1, 0] (spD K (F_jam M))) (K_in_step : HasK P w K mg base GT 8 "in_step" P_in_step ["other", "one"] [1, 0] (spD K (F_in_step M))) : FnG P w K mg base GK 9 fa fd P__law_right (spD K (F__law_right M)) := by
  refine d_def (N := N__law_right) (ps := P__law_right) (G := G__law_right M) Fu sc__law_right fun cdv A outer s H E C hr hg => ?_
  have nd := sc__law_right.nd
  have hu := hr.units
  exact (d_cons (d_set (ps_set (i := 1) nd rfl (Or.inl rfl) (d_callH (k := 8) H__law_tool hr (by decide) trivial rfl (takes_of rfl rfl rfl rfl) (d_acons (d_var (pv 0)) (d_acons (d_const pe_str fun _ => .str _) (d_acons (d_callH (k := 8) H__law_pick hr (by decide) trivial rfl (takes_of rfl rfl rfl rfl) (d_acons (d_var (pv 0)) (d_acons (d_share (d_lst (d_acons (d_const pe_int fun _ => .int _) (d_acons (d_const pe_int fun _ => .int _) d_anil)))) d_anil))) (d_acons (d_const pe_int fun _ => .int _) d_anil))))))) (d_cons (d_set (ps_set (i := 2) nd rfl (Or.inl rfl) (d_callH (k := 8) H__law_tool hr (by decide) trivial rfl (takes_of rfl rfl rfl rfl) (d_acons (d_var (pv 0)) (d_acons (d_const pe_str fun _ => .str _) (d_acons (d_const pe_int fun _ => .int _) (d_acons (d_const pe_int fun _ => .int _) d_anil))))))) (d_cons (d_for (passes_of rfl) rfl (d_iany (d_share (d_lst (d_acons (d_tup (d_acons (d_var (pv 1)) (d_acons (d_var (pv 2)) d_anil))) (d_acons (d_tup (d_acons (d_var (pv 2)) (d_acons (d_var (pv 1)) d_anil))) (d_acons (d_tup (d_acons (d_var (pv 2)) (d_acons (d_var (pv 2)) d_anil))) d_anil)))))) (d_gtup rfl (d_gcons (d_gname (pg_name (i := 3) nd rfl (Or.inl rfl))) (d_gcons (d_gname (pg_name (i := 4) nd rfl (Or.inl rfl))) d_gnil))) (d_cons (d_par2 (ps_par rfl nd rfl rfl (by decide) rfl rfl (d_acons (d_callH (k := 8) H__law_made hr (by decide) trivial rfl (takes_of rfl rfl rfl rfl) (d_acons (d_var (pv 3)) d_anil)) (d_acons (d_callH (k := 8) H__law_made hr (by decide) trivial rfl (takes_of rfl rfl rfl rfl) (d_acons (d_var (pv 4)) d_anil)) d_anil)) rfl)) (d_cons (d_set (ps_set (i := 7) nd rfl (Or.inl rfl) (d_callH (k := 8) H__law_due_v2 hr (by decide) trivial rfl (takes_of rfl rfl rfl rfl) (d_acons (d_var (pv 3)) (d_acons (d_var (pv 4)) d_anil))))) (d_cons (d_sif (t_ne hu (d_repr hg hu rfl T.m_repr (d_acons (d_share (d_lst (d_acons (d_callH (k := 8) H_jam hr (by decide) trivial rfl (takes_of rfl rfl rfl rfl) (d_acons (d_var (pv 5)) (d_acons (d_var (pv 6)) d_anil))) (d_acons (d_callKH (k := 8) (ks := ["other", "one"]) (perm := [1, 0]) K_jam hr (by decide) rfl (passes_call (takes_of rfl rfl rfl rfl) fun _ _ _ _ h => h) (d_kcons (d_var (pv 6)) (d_kcons (d_var (pv 5)) d_knil))) d_anil)))) d_anil)) (d_repr hg hu rfl T.m_repr (d_acons (d_share (d_lst (d_acons (d_var (pv 7)) (d_acons (d_var (pv 7)) d_anil)))) d_anil))) (d_one (d_ret (d_const pe_bl fun _ => .bl _))) d_nil) (d_one (d_sif (t_ne hu (d_repr hg hu rfl T.m_repr (d_acons (d_share (d_lst (d_acons (d_callH (k := 8) H_in_step hr (by decide) trivial rfl (takes_of rfl rfl rfl rfl) (d_acons (d_var (pv 5)) (d_acons (d_var (pv 6)) d_anil))) (d_acons (d_callKH (k := 8) (ks := ["other", "one"]) (perm := [1, 0]) K_in_step hr (by decide) rfl (passes_call (takes_of rfl rfl rfl rfl) fun _ _ _ _ h => h) (d_kcons (d_var (pv 6)) (d_kcons (d_var (pv 5)) d_knil))) d_anil)))) d_anil)) (d_repr hg hu rfl T.m_repr (d_acons (d_share (d_lst (d_acons (d_isn (d_var (pv 7)) (d_const pe_non fun _ => .non)) (d_acons (d_isn (d_var (pv 7)) (d_const pe_non fun _ => .non)) d_anil)))) d_anil))) (d_one (d_ret (d_const pe_bl fun _ => .bl _))) d_nil)))))) (d_one (d_ret (d_const pe_bl fun _ => .bl _))))))
def N__law_purse : List Str := ["_law_script", "_law_k", "_law_cell", "_law_digits", "_law_seed"]
def P__law_purse : List Str := ["_law_script", "_law_k"]
theorem sc__law_purse : FnScope N__law_purse P__law_purse (defScope s__law_purse) := ⟨rfl, rfl, rfl, by decide +kernel, rfl, by decide +kernel, by decide +kernel⟩
theorem ok__law_purse (T : Facts K mg M) (Fu : Fun K "_law_purse" "_law_purse" s__law_purse fa fd) : FnG P w K mg base GT 1 fa fd P__law_purse (spDF K (F__law_purse)) := by
  refine d_defF (N := N__law_purse) (ps := P__law_purse) (G := G__law_purse) Fu sc__law_purse fun cdv A outer s H E C hr hg => ?_
  have nd := sc__law_purse.nd
  have hu := hr.units
  exact (d_cons (d_sif (t_lt (d_var (pv 1)) (d_len rfl T.m_len (d_acons (d_var (pv 0)) d_anil))) (d_cons (d_set (ps_set (i := 2) nd rfl (Or.inl rfl) (d_ix (d_var (pv 0)) (d_var (pv 1)) (fun _ _ => rfl)))) (d_cons (d_set (ps_set (i := 3) nd rfl (Or.inl rfl) (d_if (PW.pt (d_or (t_lt (d_var (pv 2)) (d_const pe_int fun _ => .int _)) (pw_or1 (t_ge (d_var (pv 2)) (d_pow (d_const pe_int fun _ => .int _) (d_const pe_int fun _ => .int _)))))) (d_abs rfl T.m_abs (d_acons (d_var (pv 2)) d_anil)) (d_const pe_int fun _ => .int _)))) (d_one (d_retO (d_lst (d_acons (d_var (pv 3)) (d_acons (d_mod (d_int rfl T.m_int (d_acons (d_add (d_add (d_mul (d_var (pv 2)) (d_const pe_int fun _ => .int _)) (d_mul (d_const pe_int fun _ => .int _) (d_var (pv 1)))) (d_const pe_int fun _ => .int _)) d_anil)) (d_const pe_int fun _ => .int _)) (d_acons (d_const pe_int fun _ => .int _) d_anil)))))))) d_nil) (d_cons (d_set (ps_set (i := 4) nd rfl (Or.inl rfl) (d_add (d_mul (d_const pe_int fun _ => .int _) (d_var (pv 1))) (d_const pe_int fun _ => .int _)))) (d_cons (d_for (passes_of rfl) rfl (d_iany (d_slice (d_var (pv 0)) d_ono (d_osome (d_const pe_int fun _ => .int _)))) (d_gname (pg_name (i := 2) nd rfl (Or.inl rfl))) (d_one (d_set (ps_set (i := 4) nd rfl (Or.inl rfl) (d_mod (d_int rfl T.m_int (d_acons (d_add (d_mul (d_var (pv 4)) (d_const pe_int fun _ => .int _)) (d_var (pv 2))) d_anil)) (d_const pe_int fun _ => .int _)))))) (d_one (d_retO (d_lst (d_acons (d_const pe_int fun _ => .int _) (d_acons (d_var (pv 4)) (d_acons (d_const pe_int fun _ => .int _) d_anil)))))))))
def G_law (M : Addr) : SF := (sSeq (sFor (aRng (aCons (eB maxF (aCons (eC (.int 2)) (aCons (eB minF (aCons (eB lenF (aCons (eV 0) aNil)) (aCons (eC (.int 3)) aNil))) aNil))) aNil)) (gN 1) (sIf (bNot (bB (eBag (F__law_right M) F__law_purse (aCons (eV 0) (aCons (eV 1) aNil))))) (sRet (eC (.bl false))) sNil)) (sRet (eC (.bl true))))
def F_law (M : Addr) : DFn := runD 2 1 (G_law M)
def N_law : List Str := ["_law_script", "_law_k"]
def P_law : List Str := ["_law_script"]
theorem sc_law : FnScope N_law P_law (defScope s_law) := ⟨rfl, rfl, rfl, by decide +kernel, rfl, by decide +kernel, by decide +kernel⟩
theorem ok_law (T : Facts K mg M) (Fu : Fun K "law" "law" s_law fa fd) (H__law_right : Has P w K mg base GK 9 "_law_right" P__law_right (spD K (F__law_right M))) (H__law_purse : Has P w K mg base GT 1 "_law_purse" P__law_purse (spDF K (F__law_purse))) : FnG P w K mg base GK 10 fa fd P_law (spD K (F_law M)) := by
  refine d_def (N := N_law) (ps := P_law) (G := G_law M) Fu sc_law fun cdv A outer s H E C hr hg => ?_
  have nd := sc_law.nd
  have hu := hr.units
  exact (d_cons (d_for (passes_of rfl) rfl (d_irange rfl T.m_range (d_acons (d_max2 rfl rfl T.m_max (d_acons (d_const pe_int fun _ => .int _) (d_acons (d_min2 rfl rfl T.m_min (d_acons (d_len rfl T.m_len (d_acons (d_var (pv 0)) d_anil)) (d_acons (d_const pe_int fun _ => .int _) d_anil))) d_anil))) d_anil)) (d_gname (pg_name (i := 1) nd rfl (Or.inl rfl))) (d_one (d_sif (d_not (d_tval (d_callHB (k := 9) H__law_right H__law_purse hr (by decide) (by decide) hg trivial rfl rfl (takes_of rfl rfl rfl rfl) (d_acons (d_var (pv 0)) (d_acons (d_var (pv 1)) d_anil))) (fun _ => rfl))) (d_one (d_ret (d_const pe_bl fun _ => .bl _))) d_nil))) (d_one (d_ret (d_const pe_bl fun _ => .bl _))))
end
end DL

set_option maxHeartbeats 1000000
namespace DL
open PySem PySem.Spec PyProof.Rows L2
theorem obL_eq {as : List Addr} {fn : List QD} {ex : PySem.W.Frag → Bool} {g : Addr → Option Obj} {s : Shared} (h : ∀ a, g a = s.heap.get? a) : obL as fn ex g = (hookL as fn ex).obs s := by
  have : g = s.heap.get? := funext h
  subst this
  rfl
end DL

set_option maxHeartbeats 0
namespace DL
open PySem PySem.Spec PyProof.Rows L2
theorem isGet_ok {K : PySem.W.Frag} {A : Addr} {f : Str} (h : isGet K A f = true) : PropOf K A f (He.ma K A f) (getA K A f) := by
  unfold isGet at h
  simp only [Bool.and_eq_true, decide_eq_true_eq] at h
  obtain ⟨h1, h2, h3, h4⟩ := h
  refine ⟨He.eqO_ok h1, He.eqO_ok h2, h3, ?_⟩
  unfold getA
  split at h4
  · rename_i g rest e
    rw [e]
    exact ⟨rest, rfl⟩
  · cases h4
theorem isI_ok {K : PySem.W.Frag} {A : Addr} (c : Cls K A) (h : isI K A = true) : ClsI K A := by
  unfold isI at h
  simp only [Bool.and_eq_true, decide_eq_true_eq] at h
  obtain ⟨h1, h2, h3, h4⟩ := h
  exact ⟨c, He.eqO_ok h1, He.eqO_ok h2, h3, h4⟩
theorem pick_vals {vs : List V} {us : List Value} (h : Vals vs us) : ∀ perm : List Nat, Vals (pick perm vs) (pick perm us)
  | [] => .nil
  | i :: perm => by
    unfold pick
    rw [List.filterMap_cons, List.filterMap_cons]
    cases hd : vs[i]? with
    | none =>
      have : us[i]? = none := by
        rw [List.getElem?_eq_none_iff] at hd ⊢
        rw [← h.length]; exact hd
      rw [this]
      exact pick_vals h perm
    | some d =>
      obtain ⟨v, hv, r⟩ := h.get hd
      rw [hv]
      exact .cons r (pick_vals h perm)
section
variable {P : Program} {w : World} {K : PySem.W.Frag} {mg : Str → Option Value} {h : Heap}
theorem getter_of {A : Addr} {pr fl : Str} {st : Stmt} {fd : FuncData} {p1 p2 p3 : Pos} (c : Cls K A) (n : NoAttr K A fl) (hp : isGet K A pr = true) (Fu : Fun K pr q st (getA K A pr) fd) (Sc : FnScope ["self"] ["self"] (defScope st)) (hb : defBody st = [.Return (some (.Attribute (.Name "self" p1) fl p2)) p3])
    (hbind : ∀ (kV doc pm : Value) (an : Option Addr) (cdv ct : Value) (us : List Value), us.length = (["self"] : List Str).length → bindArgs (PySem.W.fnOf pr q (defArgs st) (defBody st) (defScope st) .none kV doc pm an cdv ct) ⟨us, []⟩ = pure ((["self"] : List Str).zip us)) : Getter K A pr fl := by
  refine ⟨_, _, fd, isGet_ok hp, fun P w mg base => ?_, Fu.binds hbind⟩
  obtain ⟨oc, od, kV, doc, pm, an, cdv, ct, osl, rfl, lk, hc⟩ := Fu.ex
  exact fn_getter lk hc Sc rfl hb c n
end

theorem facts_of {K : PySem.W.Frag} {mg : Str → Option Value} {h : Heap} (X : K.In h) (G : h.Ns mainGlobals mg) (c : obK fns exK K = vaK fns) : Facts K mg (He.ga K "Machine") := by
  have e := ex_of c
  unfold exK at e
  simp only [Bool.and_eq_true] at e
  obtain ⟨e1, e2, e3, e4, e5⟩ := e
  have fa : ∀ (i : Nat) {f : He.Fa}, exL[i]? = some f → f.ok K = true := fun i f hi => List.all_eq_true.mp e1 f (List.mem_of_getElem? hi)
  unfold isK at e5
  simp only [Bool.and_eq_true, List.all_eq_true, decide_eq_true_eq] at e5
  obtain ⟨k1, k2, k3⟩ := e5
  have cM : Cls K (He.ga K "Machine") := He.cls_ok (fa 66 rfl)
  have nl : NoAttr K (He.ga K "Machine") "_letters" := He.noat_ok (fa 67 rfl)
  have ns : NoAttr K (He.ga K "Machine") "_states" := He.noat_ok (fa 68 rfl)
  obtain ⟨f_letters, F_letters⟩ := fun_of c 42 rfl
  obtain ⟨f_states, F_states⟩ := fun_of c 43 rfl
  exact ⟨He.free_ok X G (fa 0 rfl), He.free_ok X G (fa 1 rfl), He.free_ok X G (fa 2 rfl), He.free_ok X G (fa 3 rfl), He.free_ok X G (fa 4 rfl), He.free_ok X G (fa 5 rfl), He.free_ok X G (fa 6 rfl), He.free_ok X G (fa 7 rfl), He.free_ok X G (fa 8 rfl), He.free_ok X G (fa 9 rfl), He.free_ok X G (fa 10 rfl), He.free_ok X G (fa 11 rfl), He.free_ok X G (fa 12 rfl), He.free_ok X G (fa 13 rfl), He.free_ok X G (fa 14 rfl), He.free_ok X G (fa 15 rfl), He.free_ok X G (fa 16 rfl), He.free_ok X G (fa 17 rfl), He.free_ok X G (fa 18 rfl), He.int_ok X G (fa 19 rfl), He.int_ok X G (fa 20 rfl), He.int_ok X G (fa 21 rfl), He.int_ok X G (fa 22 rfl), He.str_ok X G (fa 23 rfl), He.glo_ok X G (fa 24 rfl), cM, isI_ok cM e4, nl, ns, getter_of cM nl e2 F_letters ⟨rfl, rfl, rfl, by decide +kernel, rfl, by decide +kernel, by decide +kernel⟩ rfl (fun _ _ _ _ _ _ us hl => match us, hl with | [_], _ => rfl), getter_of cM ns e3 F_states ⟨rfl, rfl, rfl, by decide +kernel, rfl, by decide +kernel, by decide +kernel⟩ rfl (fun _ _ _ _ _ _ us hl => match us, hl with | [_], _ => rfl), k1 _ (by decide), k1 _ (by decide), k1 _ (by decide), k1 _ (by decide), k2, fun n hn => k3 n (by
    unfold DL.kitM at hn
    split at hn
    · rename_i hh
      unfold kinds
      rcases hh with rfl | rfl | rfl | rfl | rfl | rfl <;> decide
    · cases hn)⟩
section
variable {P : Program} {w : World} {K : PySem.W.Frag} {mg : Str → Option Value} {h base : Heap}
theorem ok_all (X : K.In h) (G : h.Ns mainGlobals mg) (c : obK fns exK K = vaK fns) : ∃ fd, (∀ (s : Shared) (u : Value), BindsTo s fd ⟨[u], []⟩ [("_law_script", u)]) ∧ ∀ (P : Program) (w : World) (base : Heap), FnG P w K mg base GK 10 (He.ga K "law") fd P_law (spD K (F_law (He.ga K "Machine"))) := by
  have T := facts_of X G c
  have e := ex_of c
  unfold exK at e
  simp only [Bool.and_eq_true] at e
  obtain ⟨e1, e2, e3, e4, e5⟩ := e
  have fa : ∀ (i : Nat) {f : He.Fa}, exL[i]? = some f → f.ok K = true := fun i f hi => List.all_eq_true.mp e1 f (List.mem_of_getElem? hi)
  obtain ⟨d__law_draw, U__law_draw⟩ := fun_of c 0 rfl
  obtain ⟨d__law_pick, U__law_pick⟩ := fun_of c 1 rfl
  obtain ⟨d__law_tool, U__law_tool⟩ := fun_of c 2 rfl
  obtain ⟨d_is_letters, U_is_letters⟩ := fun_of c 3 rfl
  obtain ⟨d_is_number, U_is_number⟩ := fun_of c 4 rfl
  obtain ⟨d_is_state, U_is_state⟩ := fun_of c 5 rfl
  obtain ⟨d_first_wrong_state, U_first_wrong_state⟩ := fun_of c 6 rfl
  obtain ⟨d__law_made, U__law_made⟩ := fun_of c 7 rfl
  obtain ⟨d__law_pairs_v2, U__law_pairs_v2⟩ := fun_of c 8 rfl
  obtain ⟨d__law_reached_v3, U__law_reached_v3⟩ := fun_of c 9 rfl
  obtain ⟨d__law_is_loop_v2, U__law_is_loop_v2⟩ := fun_of c 10 rfl
  obtain ⟨d__law_loops_v3, U__law_loops_v3⟩ := fun_of c 11 rfl
  obtain ⟨d__law_tops, U__law_tops⟩ := fun_of c 12 rfl
  obtain ⟨d__law_even_starts, U__law_even_starts⟩ := fun_of c 13 rfl
  obtain ⟨d__law_words, U__law_words⟩ := fun_of c 14 rfl
  obtain ⟨d__law_walk_v2, U__law_walk_v2⟩ := fun_of c 15 rfl
  obtain ⟨d__law_end_v2, U__law_end_v2⟩ := fun_of c 16 rfl
  obtain ⟨d__law_is_fine, U__law_is_fine⟩ := fun_of c 17 rfl
  obtain ⟨d__law_due_v2, U__law_due_v2⟩ := fun_of c 18 rfl
  obtain ⟨d_check_machine, U_check_machine⟩ := fun_of c 19 rfl
  obtain ⟨d_check_pair, U_check_pair⟩ := fun_of c 20 rfl
  obtain ⟨d_Machine_len_, U_Machine_len_⟩ := fun_of c 21 rfl
  obtain ⟨d_pair_arrows, U_pair_arrows⟩ := fun_of c 22 rfl
  obtain ⟨d_pair_colours, U_pair_colours⟩ := fun_of c 23 rfl
  obtain ⟨d_bits_ahead, U_bits_ahead⟩ := fun_of c 24 rfl
  obtain ⟨d_greatest_loops, U_greatest_loops⟩ := fun_of c 25 rfl
  obtain ⟨d_without_wrong_top, U_without_wrong_top⟩ := fun_of c 26 rfl
  obtain ⟨d_loops_as_asked, U_loops_as_asked⟩ := fun_of c 27 rfl
  obtain ⟨d_leading_to, U_leading_to⟩ := fun_of c 28 rfl
  obtain ⟨d_arrows_of, U_arrows_of⟩ := fun_of c 29 rfl
  obtain ⟨d_colours_of, U_colours_of⟩ := fun_of c 30 rfl
  obtain ⟨d_leading_to_loops, U_leading_to_loops⟩ := fun_of c 31 rfl
  obtain ⟨d_live, U_live⟩ := fun_of c 32 rfl
  obtain ⟨d_stuck_pairs, U_stuck_pairs⟩ := fun_of c 33 rfl
  obtain ⟨d_words_from, U_words_from⟩ := fun_of c 34 rfl
  obtain ⟨d_first_word_to, U_first_word_to⟩ := fun_of c 35 rfl
  obtain ⟨d_jam, U_jam⟩ := fun_of c 36 rfl
  obtain ⟨d_in_step, U_in_step⟩ := fun_of c 37 rfl
  obtain ⟨d__law_right, U__law_right⟩ := fun_of c 38 rfl
  obtain ⟨d__law_purse, U__law_purse⟩ := fun_of c 39 rfl
  obtain ⟨d_law, U_law⟩ := fun_of c 40 rfl
  obtain ⟨d_init, U_init⟩ := fun_of c 41 rfl
  refine ⟨d_law, ?_, fun P w base => ?_⟩
  · intro s u
    obtain ⟨oc, od, kV, doc, pm, an, cdv, ct, osl, hfd, lk, hc⟩ := U_law.ex
    rw [hfd]
    exact BindsTo.of_eq rfl
  · have H__law_draw : Has P w K mg base GT 1 "_law_draw" P__law_draw (spD K (F__law_draw)) := ⟨_, _, ok__law_draw T U__law_draw, He.glo_ok X G (fa 25 rfl), U__law_draw.kp, U__law_draw.binds (fun _ _ _ _ _ _ us hl => match us, hl with | [_, _], _ => rfl)⟩
    have H__law_pick : Has P w K mg base GT 2 "_law_pick" P__law_pick (spD K (F__law_pick)) := ⟨_, _, ok__law_pick T U__law_pick H__law_draw, He.glo_ok X G (fa 26 rfl), U__law_pick.kp, U__law_pick.binds (fun _ _ _ _ _ _ us hl => match us, hl with | [_, _], _ => rfl)⟩
    have H__law_tool : Has P w K mg base GT 2 "_law_tool" P__law_tool (spD K (F__law_tool)) := ⟨_, _, ok__law_tool T U__law_tool H__law_draw, He.glo_ok X G (fa 27 rfl), U__law_tool.kp, U__law_tool.binds (fun _ _ _ _ _ _ us hl => match us, hl with | [_, _, _, _], _ => rfl)⟩
    have H_is_letters : Has P w K mg base GT 1 "is_letters" P_is_letters (spD K (F_is_letters (He.ga K "Machine"))) := ⟨_, _, ok_is_letters T U_is_letters, He.glo_ok X G (fa 28 rfl), U_is_letters.kp, U_is_letters.binds (fun _ _ _ _ _ _ us hl => match us, hl with | [_], _ => rfl)⟩
    have H_is_number : Has P w K mg base GT 1 "is_number" P_is_number (spD K (F_is_number (He.ga K "Machine"))) := ⟨_, _, ok_is_number T U_is_number, He.glo_ok X G (fa 29 rfl), U_is_number.kp, U_is_number.binds (fun _ _ _ _ _ _ us hl => match us, hl with | [_, _], _ => rfl)⟩
    have H_is_state : Has P w K mg base GT 2 "is_state" P_is_state (spD K (F_is_state (He.ga K "Machine"))) := ⟨_, _, ok_is_state T U_is_state H_is_number, He.glo_ok X G (fa 30 rfl), U_is_state.kp, U_is_state.binds (fun _ _ _ _ _ _ us hl => match us, hl with | [_, _, _], _ => rfl)⟩
    have H_first_wrong_state : Has P w K mg base GT 3 "first_wrong_state" P_first_wrong_state (spD K (F_first_wrong_state (He.ga K "Machine"))) := ⟨_, _, ok_first_wrong_state T U_first_wrong_state H_is_state, He.glo_ok X G (fa 31 rfl), U_first_wrong_state.kp, U_first_wrong_state.binds (fun _ _ _ _ _ _ us hl => match us, hl with | [_, _], _ => rfl)⟩
    have H_Machine : HasM P w K mg base (He.ga K "Machine") := ⟨_, _, He.mkr_ok (fa 69 rfl), ok_Machine_init T U_init H_first_wrong_state H_is_letters, U_init.binds (fun _ _ _ _ _ _ us hl => match us, hl with | [_, _, _], _ => rfl)⟩
    have H__law_made : Has P w K mg base GT 6 "_law_made" P__law_made (spD K (F__law_made (He.ga K "Machine"))) := ⟨_, _, ok__law_made T U__law_made H_Machine, He.glo_ok X G (fa 32 rfl), U__law_made.kp, U__law_made.binds (fun _ _ _ _ _ _ us hl => match us, hl with | [_], _ => rfl)⟩
    have H__law_pairs_v2 : Has P w K mg base GT 1 "_law_pairs" P__law_pairs_v2 (spD K (F__law_pairs_v2)) := ⟨_, _, ok__law_pairs_v2 T U__law_pairs_v2, He.glo_ok X G (fa 33 rfl), U__law_pairs_v2.kp, U__law_pairs_v2.binds (fun _ _ _ _ _ _ us hl => match us, hl with | [_, _], _ => rfl)⟩
    have H__law_reached_v3 : Has P w K mg base GT 1 "_law_reached" P__law_reached_v3 (spD K (F__law_reached_v3)) := ⟨_, _, ok__law_reached_v3 T U__law_reached_v3, He.glo_ok X G (fa 34 rfl), U__law_reached_v3.kp, U__law_reached_v3.binds (fun _ _ _ _ _ _ us hl => match us, hl with | [_, _], _ => rfl)⟩
    have H__law_is_loop_v2 : Has P w K mg base GT 2 "_law_is_loop" P__law_is_loop_v2 (spD K (F__law_is_loop_v2)) := ⟨_, _, ok__law_is_loop_v2 T U__law_is_loop_v2 H__law_reached_v3, He.glo_ok X G (fa 35 rfl), U__law_is_loop_v2.kp, U__law_is_loop_v2.binds (fun _ _ _ _ _ _ us hl => match us, hl with | [_, _], _ => rfl)⟩
    have H__law_loops_v3 : Has P w K mg base GT 3 "_law_loops" P__law_loops_v3 (spD K (F__law_loops_v3)) := ⟨_, _, ok__law_loops_v3 T U__law_loops_v3 H__law_reached_v3 H__law_is_loop_v2, He.glo_ok X G (fa 36 rfl), U__law_loops_v3.kp, U__law_loops_v3.binds (fun _ _ _ _ _ _ us hl => match us, hl with | [_, _], _ => rfl)⟩
    have H__law_tops : Has P w K mg base GT 1 "_law_tops" P__law_tops (spD K (F__law_tops)) := ⟨_, _, ok__law_tops T U__law_tops, He.glo_ok X G (fa 37 rfl), U__law_tops.kp, U__law_tops.binds (fun _ _ _ _ _ _ us hl => match us, hl with | [_, _, _], _ => rfl)⟩
    have H__law_even_starts : Has P w K mg base GT 4 "_law_even_starts" P__law_even_starts (spD K (F__law_even_starts)) := ⟨_, _, ok__law_even_starts T U__law_even_starts H__law_pairs_v2 H__law_loops_v3 H__law_tops, He.glo_ok X G (fa 38 rfl), U__law_even_starts.kp, U__law_even_starts.binds (fun _ _ _ _ _ _ us hl => match us, hl with | [_, _], _ => rfl)⟩
    have H__law_words : Has P w K mg base GT 1 "_law_words" P__law_words (spD K (F__law_words)) := ⟨_, _, ok__law_words T U__law_words, He.glo_ok X G (fa 39 rfl), U__law_words.kp, U__law_words.binds (fun _ _ _ _ _ _ us hl => match us, hl with | [_, _], _ => rfl)⟩
    have H__law_walk_v2 : Has P w K mg base GT 1 "_law_walk" P__law_walk_v2 (spD K (F__law_walk_v2)) := ⟨_, _, ok__law_walk_v2 T U__law_walk_v2, He.glo_ok X G (fa 40 rfl), U__law_walk_v2.kp, U__law_walk_v2.binds (fun _ _ _ _ _ _ us hl => match us, hl with | [_, _, _], _ => rfl)⟩
    have H__law_end_v2 : Has P w K mg base GT 2 "_law_end" P__law_end_v2 (spD K (F__law_end_v2)) := ⟨_, _, ok__law_end_v2 T U__law_end_v2 H__law_walk_v2, He.glo_ok X G (fa 41 rfl), U__law_end_v2.kp, U__law_end_v2.binds (fun _ _ _ _ _ _ us hl => match us, hl with | [_, _, _], _ => rfl)⟩
    have H__law_is_fine : Has P w K mg base GT 2 "_law_is_fine" P__law_is_fine (spD K (F__law_is_fine)) := ⟨_, _, ok__law_is_fine T U__law_is_fine H__law_reached_v3, He.glo_ok X G (fa 42 rfl), U__law_is_fine.kp, U__law_is_fine.binds (fun _ _ _ _ _ _ us hl => match us, hl with | [_, _, _], _ => rfl)⟩
    have H__law_due_v2 : Has P w K mg base GT 5 "_law_due" P__law_due_v2 (spD K (F__law_due_v2)) := ⟨_, _, ok__law_due_v2 T U__law_due_v2 H__law_even_starts H__law_pairs_v2 H__law_words H__law_end_v2 H__law_is_fine, He.glo_ok X G (fa 43 rfl), U__law_due_v2.kp, U__law_due_v2.binds (fun _ _ _ _ _ _ us hl => match us, hl with | [_, _], _ => rfl)⟩
    have H_check_machine : Has P w K mg base GT 1 "check_machine" P_check_machine (spD K (F_check_machine (He.ga K "Machine"))) := ⟨_, _, ok_check_machine T U_check_machine, He.glo_ok X G (fa 44 rfl), U_check_machine.kp, U_check_machine.binds (fun _ _ _ _ _ _ us hl => match us, hl with | [_], _ => rfl)⟩
    have H_check_pair : Has P w K mg base GT 3 "check_pair" P_check_pair (spD K (F_check_pair (He.ga K "Machine"))) := ⟨_, _, ok_check_pair T U_check_pair H_check_machine, He.glo_ok X G (fa 45 rfl), U_check_pair.kp, U_check_pair.binds (fun _ _ _ _ _ _ us hl => match us, hl with | [_, _], _ => rfl)⟩
    have H_len : HasLen P w K mg base (He.ga K "Machine") := ⟨_, _, (He.meth_ok (fa 65 rfl)).at_, (He.meth_ok (fa 65 rfl)).fn, ok_Machine_len_ T U_Machine_len_, U_Machine_len_.binds (fun _ _ _ _ _ _ us hl => match us, hl with | [_], _ => rfl)⟩
    have H_pair_arrows : Has P w K mg base GT 3 "pair_arrows" P_pair_arrows (spD K (F_pair_arrows (He.ga K "Machine"))) := ⟨_, _, ok_pair_arrows T U_pair_arrows H_len, He.glo_ok X G (fa 46 rfl), U_pair_arrows.kp, U_pair_arrows.binds (fun _ _ _ _ _ _ us hl => match us, hl with | [_, _], _ => rfl)⟩
    have H_pair_colours : Has P w K mg base GT 3 "pair_colours" P_pair_colours (spD K (F_pair_colours (He.ga K "Machine"))) := ⟨_, _, ok_pair_colours T U_pair_colours, He.glo_ok X G (fa 47 rfl), U_pair_colours.kp, U_pair_colours.binds (fun _ _ _ _ _ _ us hl => match us, hl with | [_, _], _ => rfl)⟩
    have H_bits_ahead : Has P w K mg base GT 1 "bits_ahead" P_bits_ahead (spD K (F_bits_ahead)) := ⟨_, _, ok_bits_ahead T U_bits_ahead, He.glo_ok X G (fa 48 rfl), U_bits_ahead.kp, U_bits_ahead.binds (fun _ _ _ _ _ _ us hl => match us, hl with | [_, _], _ => rfl)⟩
    have H_greatest_loops : Has P w K mg base GT 2 "greatest_loops" P_greatest_loops (spD K (F_greatest_loops)) := ⟨_, _, ok_greatest_loops T U_greatest_loops H_bits_ahead, He.glo_ok X G (fa 49 rfl), U_greatest_loops.kp, U_greatest_loops.binds (fun _ _ _ _ _ _ us hl => match us, hl with | [_, _], _ => rfl)⟩
    have H_without_wrong_top : Has P w K mg base GT 1 "without_wrong_top" P_without_wrong_top (spD K (F_without_wrong_top)) := ⟨_, _, ok_without_wrong_top T U_without_wrong_top, He.glo_ok X G (fa 50 rfl), U_without_wrong_top.kp, U_without_wrong_top.binds (fun _ _ _ _ _ _ us hl => match us, hl with | [_, _], _ => rfl)⟩
    have H_loops_as_asked : Has P w K mg base GT 3 "loops_as_asked" P_loops_as_asked (spD K (F_loops_as_asked)) := ⟨_, _, ok_loops_as_asked T U_loops_as_asked H_greatest_loops H_without_wrong_top, He.glo_ok X G (fa 51 rfl), U_loops_as_asked.kp, U_loops_as_asked.binds (fun _ _ _ _ _ _ us hl => match us, hl with | [_, _, _], _ => rfl)⟩
    have H_leading_to : Has P w K mg base GT 1 "leading_to" P_leading_to (spD K (F_leading_to)) := ⟨_, _, ok_leading_to T U_leading_to, He.glo_ok X G (fa 52 rfl), U_leading_to.kp, U_leading_to.binds (fun _ _ _ _ _ _ us hl => match us, hl with | [_, _], _ => rfl)⟩
    have H_arrows_of : Has P w K mg base GT 3 "arrows_of" P_arrows_of (spD K (F_arrows_of (He.ga K "Machine"))) := ⟨_, _, ok_arrows_of T U_arrows_of, He.glo_ok X G (fa 53 rfl), U_arrows_of.kp, U_arrows_of.binds (fun _ _ _ _ _ _ us hl => match us, hl with | [_], _ => rfl)⟩
    have H_colours_of : Has P w K mg base GT 3 "colours_of" P_colours_of (spD K (F_colours_of (He.ga K "Machine"))) := ⟨_, _, ok_colours_of T U_colours_of, He.glo_ok X G (fa 54 rfl), U_colours_of.kp, U_colours_of.binds (fun _ _ _ _ _ _ us hl => match us, hl with | [_], _ => rfl)⟩
    have H_leading_to_loops : Has P w K mg base GT 4 "leading_to_loops" P_leading_to_loops (spD K (F_leading_to_loops (He.ga K "Machine"))) := ⟨_, _, ok_leading_to_loops T U_leading_to_loops H_arrows_of H_colours_of H_loops_as_asked H_leading_to H_len, He.glo_ok X G (fa 55 rfl), U_leading_to_loops.kp, U_leading_to_loops.binds (fun _ _ _ _ _ _ us hl => match us, hl with | [_, _], _ => rfl)⟩
    have H_live : Has P w K mg base GT 5 "live" P_live (spD K (F_live (He.ga K "Machine"))) := ⟨_, _, ok_live T U_live H_check_machine H_leading_to_loops, He.glo_ok X G (fa 56 rfl), U_live.kp, U_live.binds (fun _ _ _ _ _ _ us hl => match us, hl with | [_], _ => rfl)⟩
    have H_stuck_pairs : Has P w K mg base GT 6 "stuck_pairs" P_stuck_pairs (spD K (F_stuck_pairs (He.ga K "Machine"))) := ⟨_, _, ok_stuck_pairs T U_stuck_pairs H_pair_arrows H_pair_colours H_loops_as_asked H_leading_to H_live H_len, He.glo_ok X G (fa 57 rfl), U_stuck_pairs.kp, U_stuck_pairs.binds (fun _ _ _ _ _ _ us hl => match us, hl with | [_, _], _ => rfl)⟩
    have H_words_from : Has P w K mg base GT 1 "words_from" P_words_from (spD K (F_words_from)) := ⟨_, _, ok_words_from T U_words_from, He.glo_ok X G (fa 58 rfl), U_words_from.kp, U_words_from.binds (fun _ _ _ _ _ _ us hl => match us, hl with | [_, _, _, _], _ => rfl)⟩
    have H_first_word_to : Has P w K mg base GT 2 "first_word_to" P_first_word_to (spD K (F_first_word_to)) := ⟨_, _, ok_first_word_to T U_first_word_to H_words_from, He.glo_ok X G (fa 59 rfl), U_first_word_to.kp, U_first_word_to.binds (fun _ _ _ _ _ _ us hl => match us, hl with | [_, _, _, _], _ => rfl)⟩
    have H_jam : Has P w K mg base GT 7 "jam" P_jam (spD K (F_jam (He.ga K "Machine"))) := ⟨_, _, ok_jam T U_jam H_check_pair H_stuck_pairs H_pair_arrows H_first_word_to, He.glo_ok X G (fa 60 rfl), U_jam.kp, U_jam.binds (fun _ _ _ _ _ _ us hl => match us, hl with | [_, _], _ => rfl)⟩
    have K_jam : HasK P w K mg base GT 7 "jam" P_jam ["other", "one"] [1, 0] (spD K (F_jam (He.ga K "Machine"))) := by
      refine ⟨_, _, ok_jam T U_jam H_check_pair H_stuck_pairs H_pair_arrows H_first_word_to, He.glo_ok X G (fa 60 rfl), U_jam.kp, ⟨fun s us ws _ h1 h2 => ?_, fun r rz => pick_vals rz [1, 0]⟩⟩
      obtain ⟨oc, od, kV, doc, pm, an, cdv, ct, osl, hfd, lk, hc⟩ := U_jam.ex
      rw [hfd]
      match us, ws, h1, h2 with
      | [], [a, b], _, _ => exact BindsTo.of_eq rfl
    have H_in_step : Has P w K mg base GT 8 "in_step" P_in_step (spD K (F_in_step (He.ga K "Machine"))) := ⟨_, _, ok_in_step T U_in_step H_jam, He.glo_ok X G (fa 61 rfl), U_in_step.kp, U_in_step.binds (fun _ _ _ _ _ _ us hl => match us, hl with | [_, _], _ => rfl)⟩
    have K_in_step : HasK P w K mg base GT 8 "in_step" P_in_step ["other", "one"] [1, 0] (spD K (F_in_step (He.ga K "Machine"))) := by
      refine ⟨_, _, ok_in_step T U_in_step H_jam, He.glo_ok X G (fa 61 rfl), U_in_step.kp, ⟨fun s us ws _ h1 h2 => ?_, fun r rz => pick_vals rz [1, 0]⟩⟩
      obtain ⟨oc, od, kV, doc, pm, an, cdv, ct, osl, hfd, lk, hc⟩ := U_in_step.ex
      rw [hfd]
      match us, ws, h1, h2 with
      | [], [a, b], _, _ => exact BindsTo.of_eq rfl
    have H__law_right : Has P w K mg base GK 9 "_law_right" P__law_right (spD K (F__law_right (He.ga K "Machine"))) := ⟨_, _, ok__law_right T U__law_right H__law_pick H__law_tool H__law_made H__law_due_v2 H_jam H_in_step K_jam K_in_step, He.glo_ok X G (fa 62 rfl), U__law_right.kp, U__law_right.binds (fun _ _ _ _ _ _ us hl => match us, hl with | [_], _ => rfl)⟩
    have H__law_purse : Has P w K mg base GT 1 "_law_purse" P__law_purse (spDF K (F__law_purse)) := ⟨_, _, ok__law_purse T U__law_purse, He.glo_ok X G (fa 63 rfl), U__law_purse.kp, U__law_purse.binds (fun _ _ _ _ _ _ us hl => match us, hl with | [_, _], _ => rfl)⟩
    exact ok_law T U_law H__law_right H__law_purse
end
theorem glo_law {K : PySem.W.Frag} (c : obK fns exK K = vaK fns) : (He.Fa.glo "law").ok K = true := by
  have e := ex_of c
  unfold exK at e
  simp only [Bool.and_eq_true] at e
  exact List.all_eq_true.mp e.1 _ (List.mem_of_getElem? (i := 64) rfl)
theorem ob_eq (s : PySem.W.SharedT) : ob s = hk.obs s.abs := obL_eq (HandSHeadRun.getT_eq s)
end DL

set_option maxHeartbeats 1000000
namespace DL
open PySem PySem.Spec PyProof.Rows L2
theorem loop_ind {g : GF} {B : SF} (I : Nat → Env → Bag → Prop) : ∀ (ds : List D) (n : Nat) (h : ∀ i d, ds[i]? = some d → ∀ ρ b, I (n + i) ρ b → ∃ z ρ2 b2, g d ρ b = some z ∧ B z.1 z.2 = .nx ρ2 b2 ∧ I (n + i + 1) ρ2 b2) (ρ : Env) (b : Bag), I n ρ b →
    ∃ ρ' b', loopD g B ds ρ b = .nx ρ' b' ∧ I (n + ds.length) ρ' b'
  | [], n, _, ρ, b, hI => ⟨ρ, b, rfl, hI⟩
  | d :: ds, n, h, ρ, b, hI => by
    obtain ⟨z, ρ2, b2, h1, h2, h3⟩ := h 0 d rfl ρ b hI
    obtain ⟨ρ', b', h4, h5⟩ := loop_ind I ds (n + 1) (fun i d hd ρ b hI => by
      have := h (i + 1) d (by simpa using hd) ρ b (by rw [show n + (i + 1) = n + 1 + i by omega]; exact hI)
      rw [show n + (i + 1) + 1 = n + 1 + i + 1 by omega] at this
      exact this) ρ2 b2 h3
    refine ⟨ρ', b', ?_, by rw [List.length_cons, show n + (ds.length + 1) = n + 1 + ds.length by omega]; exact h5⟩
    unfold loopD
    rw [h1]
    dsimp only
    rw [h2]
    exact h4
theorem lc_some {i : Nat} {F : EF} (Pr : D → Prop) : ∀ (ds : List D) (ρ : Env) (b : Bag), (∀ d ∈ ds, ∀ b, ∃ y b', F (ρ.set i (some (.sh d))) b = .ok y b' ∧ Pr y) → ∃ ys b', lcD (gN i) bYes F ds ρ b = .ok ys b' ∧ ys.length = ds.length ∧ ∀ y ∈ ys, Pr y
  | [], ρ, b, _ => ⟨[], b, rfl, rfl, fun _ h => by cases h⟩
  | d :: ds, ρ, b, h => by
    obtain ⟨y, b1, h1, h2⟩ := h d List.mem_cons_self b
    obtain ⟨ys, b2, h3, h4, h5⟩ := lc_some Pr ds ρ b1 fun d hd => h d (List.mem_cons_of_mem _ hd)
    refine ⟨y :: ys, b2, ?_, by simp [h4], fun z hz => ?_⟩
    · simp [lcD, h1, h3]
    · rcases List.mem_cons.mp hz with rfl | hz
      · exact h2
      · exact h5 z hz
theorem lc_map {g : GF} {F : EF} {f : D → D} : ∀ (ds : List D) (ρ : Env) (b : Bag), (∀ d ∈ ds, ∃ ρ', g d ρ b = some (ρ', b) ∧ F ρ' b = .ok (f d) b) → lcD g bYes F ds ρ b = .ok (ds.map f) b
  | [], ρ, b, _ => rfl
  | d :: ds, ρ, b, h => by
    obtain ⟨ρ', h0, h1⟩ := h d List.mem_cons_self
    have h3 := lc_map ds ρ b fun d hd => h d (List.mem_cons_of_mem _ hd)
    simp [lcD, h0, h1, h3]
theorem truths_all : ∀ (ks : List D), (∀ k ∈ ks, k = .bl true) → ∃ bs, truths ks = some bs ∧ bs.all id = true
  | [], _ => ⟨[], rfl, rfl⟩
  | k :: ks, h => by
    obtain ⟨bs, h1, h2⟩ := truths_all ks fun k hk => h k (List.mem_cons_of_mem _ hk)
    have := h k List.mem_cons_self
    subst this
    exact ⟨true :: bs, by simp [truths, h1], by simpa using h2⟩
theorem allF_true {ks : List D} (h : ∀ k ∈ ks, k = .bl true) : allF [.lst ks] = some (.bl true) := by
  obtain ⟨bs, h1, h2⟩ := truths_all ks h
  simp only [allF, h1, Option.map_some, h2]
theorem sg_len {x : Str} (h : x ∈ sgs) : 1 ≤ x.length ∧ x.length ≤ 3 := by
  have : ∀ x ∈ sgs, 1 ≤ x.length ∧ x.length ≤ 3 := by decide +kernel
  exact this x h
theorem letters_ok (M : Addr) (b : Bag) {x : Str} (h : x ∈ sgs) : F_is_letters M [.str x] b = .ok (.bl true) b := by
  simp only [sgs, List.mem_cons, List.not_mem_nil, or_false] at h
  rcases h with rfl | rfl | rfl | rfl | rfl | rfl | rfl | rfl | rfl | rfl | rfl | rfl | rfl <;> kernel_rfl
def rowsD (rs : List Row) : D := .tup (rs.map rowD)
theorem isi_int (M : Addr) (i : Int) : isiF (.ty "int") (fun n => kitB n "int") (ownB M) [.int i, .obj (.ty "int")] = some (.bl true) := by kernel_rfl
theorem isi_bool (M : Addr) (i : Int) : isiF (.ty "bool") (fun n => kitB n "bool") (ownB M) [.int i, .obj (.ty "bool")] = some (.bl false) := by kernel_rfl
theorem number_ok (M : Addr) (b : Bag) {i m : Int} (h0 : 0 ≤ i) (h1 : i ≤ m) : F_is_number M [.int i, .int m] b = .ok (.bl true) b := by
  unfold F_is_number G_is_number
  simp [isi_int, isi_bool, h0, h1]
theorem state_ok (M : Addr) (b : Bag) {k n : Nat} {r : Row} (hr : RowOk k n r) (hk : k ≤ 100000) : F_is_state M [rowD r, .int k, .int n] b = .ok (.bl true) b := by
  unfold F_is_state G_is_state rowD
  have hl : r.2.length ≤ 100000 := by rw [hr.len]; exact hk
  have hm : lcD (gN 5) bYes (eCall (F_is_number M) (aCons (eV 5) (aCons (e2 subF (eV 2) (eC (.int 1))) aNil))) (r.2.map D.int) [some (.sh (rowD r)), some (.sh (.int k)), some (.sh (.int n)), some (.sh (.int r.1)), some (.sh (.tup (r.2.map D.int))), none] b = .ok ((r.2.map D.int).map fun _ => .bl true) b := lc_map _ _ _ fun d hd => by
    obtain ⟨g, hg, rfl⟩ := List.mem_map.mp hd
    obtain ⟨g0, g1⟩ := hr.go g hg
    refine ⟨_, rfl, ?_⟩
    simp [number_ok M b g0 (show g ≤ (n : Int) - 1 by omega)]
  have h6 := number_ok M b (i := r.1) (m := 6) hr.c0 hr.c1
  have ha := allF_true (ks := (r.2.map D.int).map fun _ => .bl true) (fun q hq => by
    obtain ⟨_, _, rfl⟩ := List.mem_map.mp hq
    rfl)
  unfold rowD at hm
  simp only [List.map_map] at hm ha
  simp [isi_tup, h6, hr.len, hk, hm, ha]
theorem enum_get {ds : List D} {i : Nat} {d : D} (h : (enumOf ds)[i]? = some d) : ∃ e, ds[i]? = some e ∧ d = .tup [.int i, e] := by
  unfold enumOf at h
  have hl : i < ds.length := by
    have := (List.getElem?_eq_some_iff.mp h).1
    simpa using this
  rw [List.getElem?_zipWith, List.getElem?_eq_getElem hl, List.getElem?_range hl] at h
  refine ⟨ds[i], List.getElem?_eq_getElem hl, ?_⟩
  exact (Option.some.inj h).symm
theorem wrong_ok (M : Addr) (b : Bag) {x : Str} {rs : List Row} (hx : x ∈ sgs) (hr : RowsOk x.length rs) : F_first_wrong_state M [.str x, rowsD rs] b = .ok (.int (-1)) b := by
  unfold F_first_wrong_state G_first_wrong_state
  obtain ⟨l1, l2⟩ := sg_len hx
  have hl : x.length ≤ 100000 := by omega
  have h6 : ¬ 6 < rs.length := by have := hr.n1; omega
  obtain ⟨ρ', b', e1, s2, s3, e2, e3⟩ := loop_ind (g := gT 2 (gsC (gN 2) (gsC (gN 3) gsN))) (B := (sIf (bOr (bB (e2 eqF (eV 2) (eC (.int 6)))) (bNot (bB (eCall (F_is_state M) (aCons (eV 3) (aCons (eB lenF (aCons (eV 0) aNil)) (aCons (eB lenF (aCons (eV 1) aNil)) aNil))))))) (sRet (eV 2)) sNil))
    (fun _ ρ b' => ∃ s2 s3, ρ = [some (.sh (.str x)), some (.sh (rowsD rs)), s2, s3] ∧ b' = b) (enumOf (rs.map rowD)) 0 (fun i d hd ρ b' ⟨s2, s3, h1, h2⟩ => by
      subst h1 h2
      obtain ⟨e, he, rfl⟩ := enum_get hd
      rw [List.getElem?_map, Option.map_eq_some_iff] at he
      obtain ⟨r, hr1, rfl⟩ := he
      have hi : i < rs.length := (List.getElem?_eq_some_iff.mp hr1).1
      have hn6 : ¬ ((i : Int) = 6) := by have := hr.n1; omega
      have hs := state_ok M b' (hr.ok r (List.mem_of_getElem? hr1)) (by omega)
      refine ⟨([some (.sh (.str x)), some (.sh (rowsD rs)), some (.sh (.int i)), some (.sh (rowD r))], b'), [some (.sh (.str x)), some (.sh (rowsD rs)), some (.sh (.int i)), some (.sh (rowD r))], b', by simp, ?_, some (.sh (.int i)), some (.sh (rowD r)), rfl, rfl⟩
      unfold rowsD
      simp [hn6, hl, hs]) [some (.sh (.str x)), some (.sh (rowsD rs)), none, none] b ⟨none, none, rfl, rfl⟩
  subst e2 e3
  unfold rowsD at e1 ⊢
  simp [sFor, aEnumT, e1]
theorem make_ok (M : Addr) (b : Bag) {x : Str} {rs : List Row} (hx : x ∈ sgs) (hr : RowsOk x.length rs) : Fm_Machine M [.str x, rowsD rs] b = .ok (["_letters", "_states"], [.str x, rowsD rs]) b := by
  have h1 := letters_ok M b hx
  have h2 := wrong_ok M b hx hr
  have h0 : ¬ rs = [] := by
    intro h
    have := hr.n0
    rw [h] at this
    simp at this
  unfold rowsD at h2 ⊢
  simp [Fm_Machine, h1, h2, h0]
def machD (M : Addr) (x : Str) (rs : List Row) : D := .ins M ["_letters", "_states"] [.str x, rowsD rs]
end DL

set_option maxHeartbeats 1000000
namespace DL
open PySem PySem.Spec PyProof.Rows L2
theorem ints_of {P : Int → Prop} : ∀ (ys : List D), (∀ y ∈ ys, ∃ g, y = .int g ∧ P g) → ∃ gs : List Int, ys = gs.map D.int ∧ ∀ g ∈ gs, P g
  | [], _ => ⟨[], rfl, fun _ h => by cases h⟩
  | y :: ys, h => by
    obtain ⟨g, rfl, hg⟩ := h y List.mem_cons_self
    obtain ⟨gs, rfl, hgs⟩ := ints_of ys fun y hy => h y (List.mem_cons_of_mem _ hy)
    exact ⟨g :: gs, rfl, fun z hz => by
      rcases List.mem_cons.mp hz with rfl | hz
      · exact hg
      · exact hgs z hz⟩
theorem range_get {n : Nat} {i : Nat} {d : D} (h : (rangeOf (n : Int))[i]? = some d) : d = .int i ∧ i < n := by
  unfold rangeOf at h
  rw [Int.toNat_natCast] at h
  have hl : i < n := by
    have := (List.getElem?_eq_some_iff.mp h).1
    simpa using this
  rw [List.getElem?_map, List.getElem?_range hl] at h
  exact ⟨(Option.some.inj h).symm, hl⟩
theorem range_len {n : Nat} : (rangeOf (n : Int)).length = n := by simp [rangeOf]
end DL

set_option maxHeartbeats 1000000
namespace DL
open PySem PySem.Spec PyProof.Rows L2
theorem occ_ok {x : Str} (hx : x ∈ sgs) {c : Nat} (hc : c ∈ x.cps.toList) : Builtin.Str.occurrences x (one c) 0 x.length 1 = [idx x c] ∧ idx x c < x.length := by
  have : ∀ x ∈ sgs, ∀ c ∈ x.cps.toList, Builtin.Str.occurrences x (one c) 0 x.length 1 = [idx x c] ∧ idx x c < x.length := by decide +kernel
  exact this x hx c hc
theorem sidx_ok {x : Str} (hx : x ∈ sgs) {c : Nat} (hc : c ∈ x.cps.toList) : sidxF x [.str (one c)] = some (.int (idx x c)) := by
  simp only [sidxF, (occ_ok hx hc).1]
def goal (rs : List Row) (s : Int) (i : Nat) : Int := ((rs[s.toNat]?).bind fun r => r.2[i]?).getD 0
theorem goal_ok {k : Nat} {rs : List Row} (hr : RowsOk k rs) {s : Int} (h0 : 0 ≤ s) (h1 : s < rs.length) {i : Nat} (hi : i < k) :
    ∃ r, atI (rs.map rowD) s = some (rowD r) ∧ atI (r.2.map D.int) (i : Int) = some (.int (goal rs s i)) ∧ 0 ≤ goal rs s i ∧ goal rs s i < rs.length := by
  obtain ⟨j, rfl⟩ : ∃ j : Nat, s = (j : Int) := ⟨s.toNat, by omega⟩
  have hj : j < rs.length := by omega
  have ok := hr.ok rs[j] (List.getElem_mem hj)
  have hi2 : i < rs[j].2.length := by rw [ok.len]; exact hi
  have e : goal rs (j : Int) i = rs[j].2[i] := by
    unfold goal
    rw [Int.toNat_natCast, List.getElem?_eq_getElem hj, Option.bind_some, List.getElem?_eq_getElem hi2]
    rfl
  refine ⟨rs[j], atI_nat (by rw [List.getElem?_map, List.getElem?_eq_getElem hj]; rfl), atI_nat (by rw [List.getElem?_map, List.getElem?_eq_getElem hi2, e]; rfl), ?_⟩
  rw [e]
  exact ok.go _ (List.getElem_mem hi2)
def walkL (x : Str) (rs : List Row) : Int → List Nat → List Int
  | _, [] => []
  | s, c :: cs => goal rs s (idx x c) :: walkL x rs (goal rs s (idx x c)) cs
def walkE (x : Str) (rs : List Row) : Int → List Nat → Int
  | s, [] => s
  | s, c :: cs => walkE x rs (goal rs s (idx x c)) cs
theorem walk_last (x : Str) (rs : List Row) : ∀ (cs : List Nat) (s : Int), ((s :: walkL x rs s cs).map D.int).getLast? = some (.int (walkE x rs s cs))
  | [], s => rfl
  | c :: cs, s => by
    have := walk_last x rs cs (goal rs s (idx x c))
    simp only [walkL, walkE, List.map_cons, List.getLast?_cons_cons] at this ⊢
    exact this
theorem walk_len (x : Str) (rs : List Row) : ∀ (cs : List Nat) (s : Int), (walkL x rs s cs).length = cs.length
  | [], s => rfl
  | c :: cs, s => by simp [walkL, walk_len x rs cs]
theorem signs_eq (w : Str) : signsOf w = w.cps.toList.map fun c => D.str (one c) := rfl
theorem len_ok {w : Str} (hl : w.length ≤ 100000) : ([] : List D).length + w.cps.toList.length ≤ 100000 := by
  have : w.cps.toList.length = w.length := by simp [Str.length]
  rw [List.length_nil, Nat.zero_add, this]
  exact hl
theorem atI_neg1 {α : Type} {xs : List α} {z : α} (h : xs.getLast? = some z) : atI xs (-1) = some z := by
  obtain ⟨ys, rfl⟩ := List.getLast?_eq_some_iff.mp h
  exact atI_last
theorem fld_l (M : Addr) (x : Str) (rs : List Row) : fldF M "_letters" (machD M x rs) = some (.str x) := by
  simp [fldF, machD, lkD]
theorem fld_s (M : Addr) (x : Str) (rs : List Row) : fldF M "_states" (machD M x rs) = some (rowsD rs) := by
  have h : ¬ ("_states" : Str) = "_letters" := by decide
  simp [fldF, machD, lkD, h]
theorem isi_M (M : Addr) (x : Str) (rs : List Row) : isiF (.ref M) kitM (ownM M) [machD M x rs, .obj (.ref M)] = some (.bl true) := by
  simp [isiF, machD, ownM]
theorem check_ok (M : Addr) (x : Str) (rs : List Row) (b : Bag) : F_check_machine M [machD M x rs] b = .ok .non b := by
  unfold F_check_machine G_check_machine
  simp [isi_M]
end DL

set_option maxHeartbeats 1000000
namespace DL
open PySem PySem.Spec PyProof.Rows L2
theorem app_wd {x w v : Str} (h : Wd x w) (h' : Wd x v) : Wd x (w ++ v) := fun c hc => by
  rw [app_list] at hc
  rcases List.mem_append.mp hc with z | z
  · exact h c z
  · exact h' c z
theorem rep_flat_len {α : Type} (n : Nat) (l : List α) : (List.replicate n l).flatten.length = n * l.length := by
  rw [List.length_flatten, List.map_replicate, List.sum_replicate_nat]
theorem walkE_app (x : Str) (rs : List Row) : ∀ (u v : List Nat) (s : Int), walkE x rs s (u ++ v) = walkE x rs (walkE x rs s u) v
  | [], v, s => rfl
  | c :: u, v, s => walkE_app x rs u v _
theorem walkL_app (x : Str) (rs : List Row) : ∀ (u v : List Nat) (s : Int), walkL x rs s (u ++ v) = walkL x rs s u ++ walkL x rs (walkE x rs s u) v
  | [], v, s => rfl
  | c :: u, v, s => by simp only [List.cons_append, walkL, walkE, walkL_app x rs u v]
/-- the state behind n rounds -/
abbrev endE (x : Str) (rs : List Row) (s : Int) (w : List Nat) (n : Nat) : Int := walkE x rs s (List.replicate n w).flatten
abbrev allL (x : Str) (rs : List Row) (s : Int) (w : List Nat) (n : Nat) : List Int := walkL x rs s (List.replicate n w).flatten
theorem ints_map (is : List Int) : intsD (is.map D.int) = some is := by
  induction is with
  | nil => rfl
  | cons i is ih => simp [intsD, ih]
theorem maxLF_ok {is : List Int} (h : is ≠ []) : maxLF [.lst (is.map D.int)] = some (.int (top0 is)) := by
  unfold maxLF
  simp only [ints_map, Option.bind_some]
  cases is with
  | nil => exact (h rfl).elim
  | cons i is => rfl
end DL

set_option maxHeartbeats 1000000
namespace DL
open PySem PySem.Spec PyProof.Rows L2
theorem sg_cp {x : Str} (h : x ∈ sgs) : ∀ c ∈ x.cps.toList, c < 0x110000 := by
  have : ∀ x ∈ sgs, ∀ c ∈ x.cps.toList, c < 0x110000 := by decide +kernel
  exact this x h
end DL

set_option maxHeartbeats 1000000
namespace DL
open PySem PySem.Spec PyProof.Rows L2
theorem lc_ints {ρ : Env} {b : Bag} {F : EF} {i : Nat} (f : Int → D) (is : List Int) (h : ∀ k ∈ is, F (ρ.set i (some (.sh (.int k)))) b = .ok (f k) b) : lcD (gN i) bYes F (is.map D.int) ρ b = .ok (is.map f) b := by
  have := lc_map (g := gN i) (F := F) (f := fun d => match d with | .int k => f k | _ => .non) (is.map D.int) ρ b (fun d hd => by
    obtain ⟨k, hk, rfl⟩ := List.mem_map.mp hd
    exact ⟨_, rfl, h k hk⟩)
  rw [this, List.map_map]
  congr 1
theorem flats_ints (is : List Int) : flatsD (is.map D.int) = some (is.map V.int) := by
  induction is with
  | nil => rfl
  | cons i is ih => simp [ih]
theorem colour_at (rs : List Row) (s : Int) : colour rs s = (rowAt rs s).1 := by
  unfold colour rowAt
  cases rs[s.toNat]? <;> rfl
theorem goal_at (rs : List Row) (s : Int) (i : Nat) : goal rs s i = ((rowAt rs s).2[i]?).getD 0 := by
  unfold goal rowAt
  cases rs[s.toNat]? <;> rfl
end DL

set_option maxHeartbeats 1000000
namespace DL
open PySem PySem.Spec PyProof.Rows L2
/-- the greatest colour behind rounds -/
def topOf (x : Str) (rs : List Row) (u v : List Nat) : Int := top0 ((allL x rs (endE x rs (walkE x rs 0 u) v rs.length) v rs.length).map (colour rs))
theorem len_M (M : Addr) (x : Str) (rs : List Row) (b : Bag) : F_Machine_len_ M [machD M x rs] b = .ok (.int rs.length) b := by
  unfold F_Machine_len_ G_Machine_len_
  have f2 := fld_s M x rs
  unfold rowsD at f2
  simp [f2, rowsD]
@[simp] theorem unown_map (o : Option D) (ρ : Env) : unown (o.map SD.sh :: ρ) = o.map SD.sh :: unown ρ := by cases o <;> rfl
end DL

set_option maxHeartbeats 1000000
namespace DL
open PySem PySem.Spec PyProof.Rows L2
theorem pig : ∀ (N : Nat) (f : Nat → Nat), (∀ k, k ≤ N → f k < N) → ∃ a b, a < b ∧ b ≤ N ∧ f a = f b
  | 0, f, h => absurd (h 0 (Nat.le_refl 0)) (Nat.not_lt_zero _)
  | N + 1, f, h => by
    by_cases hc : ∃ a, a ≤ N ∧ f a = f (N + 1)
    · obtain ⟨a, h1, h2⟩ := hc
      exact ⟨a, N + 1, by omega, Nat.le_refl _, h2⟩
    · have hn : ∀ a, a ≤ N → f a ≠ f (N + 1) := fun a ha e => hc ⟨a, ha, e⟩
      obtain ⟨a, b, h1, h2, h3⟩ := pig N (fun k => if f k = N then f (N + 1) else f k) (fun k hk => by
        have a1 := h k (by omega)
        have a2 := h (N + 1) (by omega)
        have a3 := hn k hk
        show (if f k = N then f (N + 1) else f k) < N
        split <;> omega)
      have b1 := hn a (by omega)
      have b2 := hn b h2
      refine ⟨a, b, h1, by omega, ?_⟩
      have h3 : (if f a = N then f (N + 1) else f a) = (if f b = N then f (N + 1) else f b) := h3
      split at h3 <;> split at h3 <;> omega
/-- the letters of an endless run -/
def ltr (u v : List Nat) (i : Nat) : Nat := if i < u.length then u.getD i 0 else v.getD ((i - u.length) % v.length) 0
def rn (x : Str) (rs : List Row) (α : Nat → Nat) : Nat → Int
  | 0 => 0
  | i + 1 => goal rs (rn x rs α i) (idx x (α i))
theorem rn_walk {x : Str} {rs : List Row} {α : Nat → Nat} : ∀ (w : List Nat) (i : Nat), (∀ j, j < w.length → w.getD j 0 = α (i + j)) → walkE x rs (rn x rs α i) w = rn x rs α (i + w.length) ∧ walkL x rs (rn x rs α i) w = (List.range w.length).map fun j => rn x rs α (i + 1 + j)
  | [], i, _ => ⟨rfl, rfl⟩
  | c :: w, i, h => by
    have h0 : c = α i := h 0 (by simp)
    obtain ⟨h1, h2⟩ := rn_walk w (i + 1) (fun j hj => by
      have := h (j + 1) (by rw [List.length_cons]; omega)
      rw [show i + (j + 1) = i + 1 + j by omega] at this
      simpa using this)
    have e : goal rs (rn x rs α i) (idx x c) = rn x rs α (i + 1) := by rw [h0]; rfl
    refine ⟨?_, ?_⟩
    · show walkE x rs (goal rs (rn x rs α i) (idx x c)) w = _
      rw [e, h1, List.length_cons, show i + 1 + w.length = i + (w.length + 1) by omega]
    · show goal rs (rn x rs α i) (idx x c) :: walkL x rs (goal rs (rn x rs α i) (idx x c)) w = _
      rw [e, h2, List.length_cons, List.range_succ_eq_map, List.map_cons, List.map_map]
      congr 1
      apply List.map_congr_left
      intro j _
      show rn x rs α (i + 1 + 1 + j) = rn x rs α (i + 1 + (j + 1))
      rw [show i + 1 + 1 + j = i + 1 + (j + 1) by omega]
theorem getD_flat (v : List Nat) : ∀ (n j : Nat), j < n * v.length → ((List.replicate n v).flatten).getD j 0 = v.getD (j % v.length) 0
  | 0, j, h => by omega
  | n + 1, j, h => by
    rw [List.replicate_succ, List.flatten_cons]
    by_cases hj : j < v.length
    · rw [Nat.mod_eq_of_lt hj]
      simp [List.getD_eq_getElem?_getD, List.getElem?_append_left hj]
    · have : j - v.length < n * v.length := by rw [Nat.add_mul] at h; omega
      have ih := getD_flat v n (j - v.length) this
      rw [Nat.mod_eq_sub_mod (by omega)]
      rw [← ih]
      simp [List.getD_eq_getElem?_getD, List.getElem?_append_right (by omega : v.length ≤ j)]
/-- a value that colours come to again and again, and do not pass in the end -/
def Lim (f : Nat → Int) (T : Int) : Prop := (∃ I, ∀ i, I < i → f i ≤ T) ∧ ∀ I, ∃ i, I < i ∧ f i = T
theorem lim_uniq {f : Nat → Int} {T T' : Int} (h : Lim f T) (h' : Lim f T') : T = T' := by
  obtain ⟨⟨I, a⟩, b⟩ := h
  obtain ⟨⟨I', a'⟩, b'⟩ := h'
  obtain ⟨i, h1, h2⟩ := b I'
  obtain ⟨j, h3, h4⟩ := b' I
  have := a' i h1
  have := a j h3
  omega
theorem ltr_u {u v : List Nat} {i : Nat} (h : i < u.length) : ltr u v i = u.getD i 0 := by unfold ltr; rw [if_pos h]
theorem ltr_v {u v : List Nat} {i : Nat} : ltr u v (u.length + i) = v.getD (i % v.length) 0 := by
  unfold ltr
  rw [if_neg (by omega), show u.length + i - u.length = i by omega]
theorem top_lim {x : Str} {rs : List Row} (hx : x ∈ sgs) (hr : RowsOk x.length rs) {u v : List Nat} (hu : ∀ c ∈ u, c ∈ x.cps.toList) (hv : ∀ c ∈ v, c ∈ x.cps.toList) (hv0 : v ≠ []) : Lim (fun i => colour rs (rn x rs (ltr u v) i)) (topOf x rs u v) := by
  have n0 := hr.n0
  have v0 : 0 < v.length := List.length_pos_iff.mpr hv0
  obtain ⟨hs, _⟩ := rn_walk (x := x) (rs := rs) (α := ltr u v) u 0 (fun j hj => by rw [Nat.zero_add, ltr_u hj])
  rw [Nat.zero_add] at hs
  have hs : walkE x rs 0 u = rn x rs (ltr u v) u.length := hs
  -- whole rounds
  have hk : ∀ k n, walkE x rs (rn x rs (ltr u v) (u.length + k * v.length)) (List.replicate n v).flatten = rn x rs (ltr u v) (u.length + (k + n) * v.length) ∧
      walkL x rs (rn x rs (ltr u v) (u.length + k * v.length)) (List.replicate n v).flatten = (List.range (n * v.length)).map fun j => rn x rs (ltr u v) (u.length + k * v.length + 1 + j) := fun k n => by
    obtain ⟨h1, h2⟩ := rn_walk (x := x) (rs := rs) (α := ltr u v) (List.replicate n v).flatten (u.length + k * v.length) (fun j hj => by
      rw [rep_flat_len] at hj
      rw [getD_flat v n j hj, Nat.add_assoc, ltr_v, Nat.mul_comm, Nat.mul_add_mod])
    rw [rep_flat_len] at h1 h2
    refine ⟨?_, h2⟩
    rw [h1, Nat.add_mul, Nat.add_assoc]
  -- states of the run are states
  have hin : ∀ i, 0 ≤ rn x rs (ltr u v) i ∧ rn x rs (ltr u v) i < rs.length := fun i => by
    induction i with
    | zero => exact ⟨by show (0 : Int) ≤ 0; decide, by show (0 : Int) < _; omega⟩
    | succ i ih =>
      have hc : ltr u v i ∈ x.cps.toList := by
        by_cases h : i < u.length
        · rw [ltr_u h]
          apply hu
          simp [List.getD_eq_getElem?_getD, List.getElem?_eq_getElem h]
        · obtain ⟨j, rfl⟩ : ∃ j, i = u.length + j := ⟨i - u.length, by omega⟩
          rw [ltr_v]
          apply hv
          have : j % v.length < v.length := Nat.mod_lt _ v0
          simp [List.getD_eq_getElem?_getD, List.getElem?_eq_getElem this]
      obtain ⟨_, _, _, g0, g1⟩ := goal_ok hr ih.1 ih.2 (occ_ok hx hc).2
      exact ⟨g0, g1⟩
  -- two rounds begin alike
  obtain ⟨a, b, hab, hbN, e⟩ := pig rs.length (fun k => (rn x rs (ltr u v) (u.length + k * v.length)).toNat) (fun k _ => by
    have := hin (u.length + k * v.length)
    show (rn x rs (ltr u v) (u.length + k * v.length)).toNat < rs.length
    omega)
  have e : rn x rs (ltr u v) (u.length + a * v.length) = rn x rs (ltr u v) (u.length + b * v.length) := by
    have h1 := hin (u.length + a * v.length)
    have h2 := hin (u.length + b * v.length)
    have e : (rn x rs (ltr u v) (u.length + a * v.length)).toNat = (rn x rs (ltr u v) (u.length + b * v.length)).toNat := e
    omega
  have per : ∀ t, rn x rs (ltr u v) (u.length + a * v.length + t) = rn x rs (ltr u v) (u.length + b * v.length + t) := fun t => by
    induction t with
    | zero => exact e
    | succ t ih =>
      show goal rs (rn x rs (ltr u v) (u.length + a * v.length + t)) (idx x (ltr u v (u.length + a * v.length + t))) = goal rs (rn x rs (ltr u v) (u.length + b * v.length + t)) (idx x (ltr u v (u.length + b * v.length + t)))
      rw [ih, Nat.add_assoc, Nat.add_assoc, ltr_v, ltr_v, Nat.mul_comm a, Nat.mul_comm b, Nat.mul_add_mod, Nat.mul_add_mod]
  obtain ⟨p, rfl⟩ : ∃ p, b = a + (p + 1) := ⟨b - a - 1, by omega⟩
  have per2 : ∀ i, u.length + a * v.length ≤ i → rn x rs (ltr u v) (i + (p + 1) * v.length) = rn x rs (ltr u v) i := fun i hi => by
    obtain ⟨t, rfl⟩ : ∃ t, i = u.length + a * v.length + t := ⟨i - (u.length + a * v.length), by omega⟩
    rw [per t, Nat.add_mul a]
    congr 1
    omega
  have pp : 0 < (p + 1) * v.length := Nat.mul_pos (by omega) v0
  have aN : a * v.length ≤ rs.length * v.length := Nat.mul_le_mul_right _ (by omega)
  have pN : (p + 1) * v.length ≤ rs.length * v.length := Nat.mul_le_mul_right _ (by omega)
  have eT : topOf x rs u v = top0 ((List.range (rs.length * v.length)).map fun j => colour rs (rn x rs (ltr u v) (u.length + rs.length * v.length + 1 + j))) := by
    unfold topOf
    show top0 ((walkL x rs (walkE x rs (walkE x rs 0 u) (List.replicate rs.length v).flatten) (List.replicate rs.length v).flatten).map (colour rs)) = _
    have z := hk 0 rs.length
    rw [Nat.zero_mul, Nat.add_zero, Nat.zero_add] at z
    rw [hs, z.1, (hk rs.length rs.length).2, List.map_map]
    rfl
  refine ⟨⟨u.length + rs.length * v.length, fun i hi => ?_⟩, fun I => ?_⟩
  · have : ∃ j, j < rs.length * v.length ∧ rn x rs (ltr u v) i = rn x rs (ltr u v) (u.length + rs.length * v.length + 1 + j) := by
      induction i using Nat.strongRecOn with
      | ind i ih =>
        by_cases h : i < u.length + rs.length * v.length + 1 + rs.length * v.length
        · exact ⟨i - (u.length + rs.length * v.length + 1), by omega, by congr 1; omega⟩
        · obtain ⟨j, j1, j2⟩ := ih (i - (p + 1) * v.length) (by omega) (by omega)
          refine ⟨j, j1, ?_⟩
          rw [← j2, ← per2 (i - (p + 1) * v.length) (by omega)]
          congr 1
          omega
    obtain ⟨j, j1, j2⟩ := this
    show colour rs (rn x rs (ltr u v) i) ≤ _
    rw [eT, j2]
    exact top0_ge _ (List.mem_map.mpr ⟨j, List.mem_range.mpr j1, rfl⟩)
  · have hne : (List.range (rs.length * v.length)).map (fun j => colour rs (rn x rs (ltr u v) (u.length + rs.length * v.length + 1 + j))) ≠ [] := by
      intro h
      have h := congrArg List.length h
      rw [List.length_map, List.length_range, List.length_nil] at h
      omega
    obtain ⟨j, j1, j2⟩ := List.mem_map.mp (top0_mem hne)
    have far : ∀ m, rn x rs (ltr u v) (u.length + rs.length * v.length + 1 + j + m * ((p + 1) * v.length)) = rn x rs (ltr u v) (u.length + rs.length * v.length + 1 + j) := fun m => by
      induction m with
      | zero => rw [Nat.zero_mul, Nat.add_zero]
      | succ m ih =>
        rw [Nat.add_mul, Nat.one_mul, ← Nat.add_assoc, per2 _ (by omega), ih]
    refine ⟨u.length + rs.length * v.length + 1 + j + (I + 1) * ((p + 1) * v.length), ?_, ?_⟩
    · have : (I + 1) * 1 ≤ (I + 1) * ((p + 1) * v.length) := Nat.mul_le_mul_left _ pp
      omega
    · show colour rs _ = _
      rw [far, eT]
      exact j2
end DL

set_option maxHeartbeats 1000000
namespace DL
open PySem PySem.Spec PyProof.Rows L2
section
variable {sc : Int → List Int} {ok ok' : Int → Prop}
theorem Pth.shut {T : Int → Prop} {a b : Int} (h : Pth sc ok a b) : (∀ x ∈ sc a, ok x → T x) → (∀ y, T y → ∀ x ∈ sc y, ok x → T x) → T b := by
  induction h with
  | one h1 h2 => exact fun f _ => f _ h1 h2
  | step h1 h2 _ ih => exact fun f g => ih (g _ (f _ h1 h2)) g
/-- a way between two of a class stays in it -/
theorem Pth.within {a : Int} {x y : Int} (h : Pth sc ok x y) : Pth sc ok a x → Pth sc ok y a → Pth sc (fun c => ok c ∧ Pth sc ok a c ∧ Pth sc ok c a) x y := by
  induction h with
  | one h1 h2 => exact fun f g => .one h1 ⟨h2, f.snoc h1 h2, g⟩
  | step h1 h2 h3 ih => exact fun f g => .step h1 ⟨h2, f.snoc h1 h2, h3.trans g⟩ (ih (f.snoc h1 h2) g)
end
theorem TopIs.uniq {col : Int → Int} {S : Int → Prop} {T T' : Int} (h : TopIs col S T) (h' : TopIs col S T') : T = T' := by
  obtain ⟨⟨a, a1, a2⟩, b⟩ := h
  obtain ⟨⟨c, c1, c2⟩, d⟩ := h'
  have := d a a1
  have := b c c1
  omega
theorem bnot_bnot (x : Int) : Builtin.bitNot (Builtin.bitNot x) = x := by unfold Builtin.bitNot; omega
theorem band_nat (x y : Nat) : Builtin.bitAnd (x : Int) (y : Int) = ((x &&& y : Nat) : Int) := by
  unfold Builtin.bitAnd
  rw [decide_eq_true (by omega : (0 : Int) ≤ x), decide_eq_true (by omega : (0 : Int) ≤ y)]
  rfl
theorem bor_nat (x y : Nat) : Builtin.bitOr (x : Int) (y : Int) = ((x ||| y : Nat) : Int) := by
  unfold Builtin.bitOr
  have h : ∀ z : Nat, ¬ (0 : Int) ≤ Builtin.bitNot (z : Int) := fun z => by unfold Builtin.bitNot; omega
  have e : Builtin.bitAnd (Builtin.bitNot (x : Int)) (Builtin.bitNot (y : Int)) = Builtin.bitNot (((x ||| y : Nat) : Int)) := by
    show (match decide (0 ≤ Builtin.bitNot (x : Int)), decide (0 ≤ Builtin.bitNot (y : Int)) with
      | true, true => _
      | true, false => _
      | false, true => _
      | false, false => _) = _
    rw [decide_eq_false (h x), decide_eq_false (h y)]
    show Builtin.bitNot (((Builtin.bitNot (Builtin.bitNot (x : Int))).toNat ||| (Builtin.bitNot (Builtin.bitNot (y : Int))).toNat : Nat) : Int) = _
    rw [bnot_bnot, bnot_bnot]
    rfl
  rw [e, bnot_bnot]
theorem shr_nat (x k : Nat) : (x : Int) / 2 ^ k = ((x / 2 ^ k : Nat) : Int) := by
  rw [Int.natCast_ediv]
  rfl
theorem test_bit (x k : Nat) : ((x / 2 ^ k) &&& 1 != 0) = x.testBit k := by
  rw [Nat.and_one_is_mod, Nat.testBit_eq_decide_div_mod_eq]
  rcases Nat.mod_two_eq_zero_or_one (x / 2 ^ k) with h | h <;> rw [h] <;> rfl
theorem add_pow {s k : Nat} (h : s.testBit k = false) (j : Nat) : (2 ^ k + s).testBit j = (decide (j = k) || s.testBit j) := by
  -- s = 2^(k+1) * hi + lo, lo below 2^k
  have hlo : s % 2 ^ (k + 1) < 2 ^ k := by
    have h1 : s % 2 ^ (k + 1) = s % 2 ^ k + 2 ^ k * (s / 2 ^ k % 2) := by rw [Nat.pow_succ, Nat.mod_mul]
    rw [Nat.testBit_eq_decide_div_mod_eq] at h
    have h2 : s / 2 ^ k % 2 = 0 := by
      have := Nat.mod_two_eq_zero_or_one (s / 2 ^ k)
      have h := of_decide_eq_false h
      omega
    rw [h1, h2, Nat.mul_zero, Nat.add_zero]
    exact Nat.mod_lt _ (Nat.two_pow_pos k)
  have hs : s = 2 ^ (k + 1) * (s / 2 ^ (k + 1)) + s % 2 ^ (k + 1) := (Nat.div_add_mod _ _).symm
  generalize s / 2 ^ (k + 1) = hi at hs
  generalize s % 2 ^ (k + 1) = lo at hs hlo
  subst hs
  have hp : 2 ^ (k + 1) = 2 ^ k + 2 ^ k := by rw [Nat.pow_succ]; omega
  have e : 2 ^ k + (2 ^ (k + 1) * hi + lo) = 2 ^ (k + 1) * hi + (2 ^ k * 1 + lo) := by omega
  rw [e, Nat.testBit_two_pow_mul_add hi (b := 2 ^ k * 1 + lo) (i := k + 1) (by omega) j, Nat.testBit_two_pow_mul_add 1 (b := lo) (i := k) hlo j, Nat.testBit_two_pow_mul_add hi (b := lo) (i := k + 1) (by omega) j]
  by_cases h1 : j < k
  · have : ¬ j = k := by omega
    simp [h1, this, show j < k + 1 by omega]
  · by_cases h2 : j = k
    · subst h2; simp
    · have : ¬ j < k + 1 := by omega
      simp [this, h2]
theorem sum_bits : ∀ (ks : List Nat), ks.Nodup → ∀ j, ((ks.map fun k => 2 ^ k).sum).testBit j = decide (j ∈ ks)
  | [], _, j => by simp
  | k :: ks, h, j => by
    obtain ⟨h1, h2⟩ := List.nodup_cons.mp h
    have ih := sum_bits ks h2
    rw [List.map_cons, List.sum_cons, add_pow (by rw [ih k]; simpa using h1), ih j]
    simp
end DL

set_option maxHeartbeats 1000000
namespace DL
open PySem PySem.Spec PyProof.Rows L2
theorem inV_ints (k : Int) (gs : List Int) : inV (.int k) (gs.map V.int) = decide (k ∈ gs) := by
  unfold inV
  induction gs with
  | nil => rfl
  | cons g gs ih =>
    rw [List.map_cons, List.any_cons, ih]
    show ((g == k) || decide (k ∈ gs)) = _
    by_cases h : g = k
    · subst h; simp
    · have : ¬ k = g := fun z => h z.symm
      simp [h, this]
@[simp] theorem inQ_lst (k : Int) (gs : List Int) : inQ (.int k) (.lst (gs.map D.int)) = some (.bl (decide (k ∈ gs))) := by
  simp [flats_ints, inV_ints]
@[simp] theorem inQ_tup (k : Int) (gs : List Int) : inQ (.int k) (.tup (gs.map D.int)) = some (.bl (decide (k ∈ gs))) := by
  simp [flats_ints, inV_ints]
theorem inQ_row {d : D} {gs : List Int} (h : rowIs d gs) (k : Int) : inQ (.int k) d = some (.bl (decide (k ∈ gs))) := by
  rcases h with rfl | rfl
  · exact inQ_tup k gs
  · exact inQ_lst k gs
theorem lc_filt {ρ : Env} {b : Bag} {T : BF} {F : EF} {i : Nat} (p : Int → Bool) (f : Int → D) : ∀ (is : List Int), (∀ k ∈ is, T (ρ.set i (some (.sh (.int k)))) b = .ok (p k) b) → (∀ k ∈ is, p k = true → F (ρ.set i (some (.sh (.int k)))) b = .ok (f k) b) →
    lcD (gN i) T F (is.map D.int) ρ b = .ok ((is.filter p).map f) b
  | [], _, _ => rfl
  | k :: is, h1, h2 => by
    have ih := lc_filt p f is (fun k hk => h1 k (List.mem_cons_of_mem _ hk)) (fun k hk => h2 k (List.mem_cons_of_mem _ hk))
    have e1 := h1 k List.mem_cons_self
    rw [List.map_cons]
    unfold lcD
    simp only [gN]
    rw [e1]
    simp only [noex_ok_, bind_ok_]
    by_cases hp : p k = true
    · rw [if_pos hp, h2 k List.mem_cons_self hp, List.filter_cons_of_pos hp]
      simp [ih]
    · rw [if_neg hp, List.filter_cons_of_neg hp, ih]
abbrev dcN (ns : List Int) (f : Int → Nat) : D := .dct (ns.map Sum.inl) (ns.map fun k => .int (f k))
theorem look_map (g : Int → D) {a : Int} : ∀ {ns : List Int}, a ∈ ns → lookK (ns.map Sum.inl) (ns.map g) (Sum.inl a : Key) = some (g a)
  | [], h => by cases h
  | k :: ns, h => by
    rw [List.map_cons, List.map_cons]
    unfold lookK
    by_cases hk : k = a
    · subst hk; simp
    · have : ¬ (Sum.inl k : Key) = Sum.inl a := fun z => hk (Sum.inl.inj z)
      rw [if_neg this]
      exact look_map g ((List.mem_cons.mp h).resolve_left fun z => hk z.symm)
theorem set_map (g : Int → D) (a : Int) (e : D) : ∀ (ns : List Int), setK (ns.map Sum.inl) (ns.map g) (Sum.inl a : Key) e = ns.map fun k => if k = a then e else g k
  | [] => rfl
  | k :: ns => by
    rw [List.map_cons, List.map_cons]
    unfold setK
    rw [set_map g a e ns, List.map_cons]
    by_cases hk : k = a
    · subst hk; simp
    · have : ¬ (Sum.inl k : Key) = Sum.inl a := fun z => hk (Sum.inl.inj z)
      rw [if_neg this, if_neg hk]
theorem has_map (a : Int) (ns : List Int) : ((ns.map (Sum.inl : Int → Key)).any fun k => decide (k = Sum.inl a)) = decide (a ∈ ns) := by
  induction ns with
  | nil => rfl
  | cons k ns ih =>
    rw [List.map_cons, List.any_cons, ih]
    by_cases hk : k = a
    · subst hk; simp
    · have : ¬ (Sum.inl k : Key) = Sum.inl a := fun z => hk (Sum.inl.inj z)
      have h2 : ¬ a = k := fun z => hk z.symm
      simp [this, h2]
theorem put_new {ns : List Int} {g : Int → D} {a : Int} {e : D} (h : a ∉ ns) : putD (ns.map Sum.inl) (ns.map g) (Sum.inl a : Key) e = .dct ((ns ++ [a]).map Sum.inl) (ns.map g ++ [e]) := by
  unfold putD
  rw [has_map, if_neg (by simpa using h)]
  simp
theorem put_old {ns : List Int} {g : Int → D} {a : Int} {e : D} (h : a ∈ ns) : putD (ns.map Sum.inl) (ns.map g) (Sum.inl a : Key) e = .dct (ns.map Sum.inl) (ns.map fun k => if k = a then e else g k) := by
  unfold putD
  rw [has_map, if_pos (by simpa using h), set_map]
section
variable {sc : Int → List Int} {mid mid' : Int → Prop}
theorem via_more {m a b : Int} : Via sc (fun x => mid x ∨ x = m) a b ↔ Via sc mid a b ∨ (Via sc mid a m ∧ Via sc mid m b) := by
  refine ⟨Via.split, fun h => ?_⟩
  rcases h with h | ⟨h1, h2⟩
  · exact h.mono fun _ => .inl
  · exact (h1.mono fun _ => .inl).trans (.inr rfl) (h2.mono fun _ => .inl)
theorem via_pth {a b : Int} : Pth sc mid a b ↔ Via sc mid a b ∧ mid b := by
  constructor
  · intro h
    induction h with
    | one h1 h2 => exact ⟨.one h1, h2⟩
    | step h1 h2 _ ih => exact ⟨.step h1 h2 ih.1, ih.2⟩
  · rintro ⟨h, hb⟩
    induction h with
    | one h1 => exact .one h1 hb
    | step h1 h2 _ ih => exact .step h1 h2 (ih hb)
theorem via_none {a b : Int} : Via sc (fun _ => False) a b ↔ b ∈ sc a := by
  constructor
  · intro h
    cases h with
    | one h1 => exact h1
    | step _ h2 _ => exact h2.elim
  · exact .one
end
theorem sum_cast (ks : List Nat) : (ks.map fun k => ((2 ^ k : Nat) : Int)).sum = ((ks.map fun k => 2 ^ k).sum : Nat) := by
  induction ks with
  | nil => rfl
  | cons k ks ih => rw [List.map_cons, List.sum_cons, ih, List.map_cons, List.sum_cons]; omega
end DL

set_option maxHeartbeats 1000000
namespace DL
open PySem PySem.Spec PyProof.Rows L2
theorem nd_take : ∀ {l : List Int} {i : Nat} {k : Int}, l.Nodup → l[i]? = some k → k ∉ l.take i
  | [], _, _, _, h => by simp at h
  | a :: l, 0, _, _, _ => by simp
  | a :: l, i + 1, k, nd, h => by
    obtain ⟨h1, h2⟩ := List.nodup_cons.mp nd
    have h3 : l[i]? = some k := by simpa using h
    rw [List.take_succ_cons]
    intro hm
    rcases List.mem_cons.mp hm with rfl | hm
    · exact h1 (List.mem_of_getElem? h3)
    · exact nd_take h2 h3 hm
section
variable {A : List D} {n : Nat} {sc : Int → List Int} (G : Gr A n sc) {ns : List Int} (N : Ns n ns)
include G N
/-- the bits of the next numbers -/
def bit0 (sc : Int → List Int) (ns : List Int) (k : Int) : Nat := ((ns.filter fun j => decide (j ∈ sc k)).map fun j => 2 ^ j.toNat).sum
omit G in
theorem bit0_ok {k j : Int} (hj : 0 ≤ j) : (bit0 sc ns k).testBit j.toNat = decide (j ∈ ns ∧ j ∈ sc k) := by
  have nd : ((ns.filter fun j => decide (j ∈ sc k)).map Int.toNat).Nodup := by
    have h1 : (ns.filter fun j => decide (j ∈ sc k)).Nodup := N.nd.filter _
    have h2 : ∀ x ∈ (ns.filter fun j => decide (j ∈ sc k)), 0 ≤ x := fun x hx => (N.lo x (List.mem_filter.mp hx).1).1
    clear N
    generalize ns.filter (fun j => decide (j ∈ sc k)) = l at h1 h2
    induction l with
    | nil => exact List.nodup_nil
    | cons a l ih =>
      obtain ⟨p, q⟩ := List.nodup_cons.mp h1
      rw [List.map_cons]
      refine List.nodup_cons.mpr ⟨fun hm => ?_, ih q fun x hx => h2 x (List.mem_cons_of_mem _ hx)⟩
      obtain ⟨y, hy, e⟩ := List.mem_map.mp hm
      have z1 := h2 a List.mem_cons_self
      have z2 := h2 y (List.mem_cons_of_mem _ hy)
      have : y = a := by omega
      subst this
      exact p hy
  have e : bit0 sc ns k = (((ns.filter fun j => decide (j ∈ sc k)).map Int.toNat).map fun j => 2 ^ j).sum := by
    unfold bit0
    rw [List.map_map]
    rfl
  rw [e, sum_bits _ nd]
  by_cases h : j ∈ ns ∧ j ∈ sc k
  · rw [decide_eq_true h, decide_eq_true]
    exact List.mem_map.mpr ⟨j, List.mem_filter.mpr ⟨h.1, by simpa using h.2⟩, rfl⟩
  · rw [decide_eq_false h, decide_eq_false]
    intro hm
    obtain ⟨i, hi, e⟩ := List.mem_map.mp hm
    obtain ⟨i1, i2⟩ := List.mem_filter.mp hi
    have := (N.lo i i1).1
    have : i = j := by omega
    subst this
    exact h ⟨i1, by simpa using i2⟩
theorem bits1_ok (o3 : Option D) (b : Bag) : ∃ o3' : Option D, loopD (gN 3) (sDput 2 (eV 3) (eB sumF (aCons (eLc (aAny (eV 1)) [5] (gN 5) (bB (e2 inQ (eV 5) (eIx (eV 0) (eV 3)))) (e2 shlF (eC (.int 1)) (eV 5))) aNil))) (ns.map D.int) [some (.sh (.lst A)), some (.sh (.lst (ns.map D.int))), some (.ow (.dct [] [])), o3.map SD.sh, none, none] b =
    .nx [some (.sh (.lst A)), some (.sh (.lst (ns.map D.int))), some (.ow (dcN ns (bit0 sc ns))), o3'.map SD.sh, none, none] b := by
  have hnl := N.len
  have n1000 := G.n1000
  obtain ⟨ρ', b', f1, o3', f2, f3⟩ := loop_ind (g := gN 3) (B := (sDput 2 (eV 3) (eB sumF (aCons (eLc (aAny (eV 1)) [5] (gN 5) (bB (e2 inQ (eV 5) (eIx (eV 0) (eV 3)))) (e2 shlF (eC (.int 1)) (eV 5))) aNil))))
    (fun i ρ b' => ∃ o3 : Option D, ρ = [some (.sh (.lst A)), some (.sh (.lst (ns.map D.int))), some (.ow (dcN (ns.take i) (bit0 sc ns))), o3.map SD.sh, none, none] ∧ b' = b)
    (ns.map D.int) 0 (fun i d hd ρ b' ⟨o3, g1, g2⟩ => by
      subst g1 g2
      rw [List.getElem?_map, Option.map_eq_some_iff] at hd
      obtain ⟨k, hk, rfl⟩ := hd
      simp only [Nat.zero_add]
      have hkm := List.mem_of_getElem? hk
      obtain ⟨k0, k1⟩ := N.lo k hkm
      obtain ⟨dr, r1, r2⟩ := G.row k k0 k1
      have hf := lc_filt (i := 5) (b := b') (ρ := [some (.sh (.lst A)), some (.sh (.lst (ns.map D.int))), none, some (.sh (.int k)), none, none])
        (T := (bB (e2 inQ (eV 5) (eIx (eV 0) (eV 3))))) (F := (e2 shlF (eC (.int 1)) (eV 5))) (fun j => decide (j ∈ sc k)) (fun j => .int (2 ^ j.toNat)) ns (fun j hj => by
          have := inQ_row r2 j
          simp [-inQ, r1, this]) (fun j hj _ => by
          obtain ⟨j0, j1⟩ := N.lo j hj
          have : j ≤ 1000 := by omega
          simp [j0, this])
      have hs : sumF [.lst ((ns.filter fun j => decide (j ∈ sc k)).map fun j => D.int (2 ^ j.toNat))] = some (.int (bit0 sc ns k)) := by
        unfold sumF bit0
        have e1 : (ns.filter fun j => decide (j ∈ sc k)).map (fun j => D.int (2 ^ j.toNat)) = ((ns.filter fun j => decide (j ∈ sc k)).map fun j => (2 : Int) ^ j.toNat).map D.int := by rw [List.map_map]; rfl
        rw [e1]
        show ((intsD (List.map D.int _)).map fun is => D.int is.sum) = _
        rw [ints_map, Option.map_some]
        congr 2
        generalize (ns.filter fun j => decide (j ∈ sc k)) = l
        have := sum_cast (l.map Int.toNat)
        rw [List.map_map, List.map_map] at this
        rw [show (l.map fun j => (2 : Int) ^ j.toNat) = l.map ((fun k => ((2 ^ k : Nat) : Int)) ∘ Int.toNat) from List.map_congr_left fun j _ => by show (2 : Int) ^ j.toNat = ((2 ^ j.toNat : Nat) : Int); rw [Int.natCast_pow]; rfl]
        rw [this]
        rfl
      have hnew : k ∉ ns.take i := nd_take N.nd hk
      have hp := put_new (g := fun k => D.int (bit0 sc ns k)) (e := .int (bit0 sc ns k)) hnew
      have et : ns.take (i + 1) = ns.take i ++ [k] := by rw [List.take_add_one, hk]; rfl
      have hl1 : ns.length ≤ 100000 := by omega
      have hl2 : (ns.take i).length ≤ 100000 := by rw [List.length_take]; omega
      have hl3 : min i ns.length ≤ 100000 := by omega
      refine ⟨_, _, b', rfl, ?_, some (.int k), rfl, rfl⟩
      rw [et]
      simp [-inQ, -List.map_take, hl1, hl3, hf, hs]
      rw [hp]
      simp) [some (.sh (.lst A)), some (.sh (.lst (ns.map D.int))), some (.ow (.dct [] [])), o3.map SD.sh, none, none] b ⟨o3, by simp, rfl⟩
  subst f2 f3
  refine ⟨o3', ?_⟩
  rw [f1]
  simp
end
end DL

set_option maxHeartbeats 1000000
namespace DL
open PySem PySem.Spec PyProof.Rows L2
theorem dcN_congr {ns : List Int} {f g : Int → Nat} (h : ∀ k ∈ ns, f k = g k) : dcN ns f = dcN ns g := by
  unfold dcN
  congr 1
  exact List.map_congr_left fun k hk => by rw [h k hk]
def updB (β : Int → Nat) (m : Int) (k : Int) : Nat := if (β k).testBit m.toNat = true then β k ||| β m else β k
theorem updB_self (β : Int → Nat) (m : Int) : updB β m m = β m := by
  unfold updB
  split
  · exact Nat.or_self _
  · rfl
def bInn : SF := (sIf (bT (e2 bandF (e2 shrF (eDgOw 2 (eV 3)) (eV 4)) (eC (.int 1)))) (sDput 2 (eV 3) (e2 borF (eDgOw 2 (eV 3)) (eDgOw 2 (eV 4)))) sNil)
theorem bits_step (s0 s1 : Option SD) (b : Bag) {ns : List Int} (hl : ns.length ≤ 100000) (γ : Int → Nat) {k m : Int} (hk : k ∈ ns) (hm : m ∈ ns) (m0 : 0 ≤ m) : bInn [s0, s1, some (.ow (dcN ns γ)), some (.sh (.int k)), some (.sh (.int m)), none] b =
    .nx [s0, s1, some (.ow (dcN ns (fun j => if j = k then updB γ m k else γ j))), some (.sh (.int k)), some (.sh (.int m)), none] b := by
  have l1 := look_map (fun k => D.int (γ k)) hk
  have l2 := look_map (fun k => D.int (γ k)) hm
  have hb := shr_nat (γ k) m.toNat
  have ha := band_nat (γ k / 2 ^ m.toNat) 1
  have ho := bor_nat (γ k) (γ m)
  have ht := test_bit (γ k) m.toNat
  have e1 : (Builtin.bitAnd ((γ k : Int) / 2 ^ m.toNat) 1) = (((γ k / 2 ^ m.toNat) &&& 1 : Nat) : Int) := by rw [hb]; exact ha
  have e2' : ((((γ k / 2 ^ m.toNat) &&& 1 : Nat) : Int) != 0) = (γ k).testBit m.toNat := by
    rw [← ht]
    generalize (γ k / 2 ^ m.toNat) &&& 1 = z
    cases z <;> rfl
  have hmod : (γ k : Int) / 2 ^ m.toNat % 2 = ((γ k / 2 ^ m.toNat % 2 : Nat) : Int) := by rw [hb]; rfl
  by_cases hbit : (γ k).testBit m.toNat = true
  · have hm1 : (γ k : Int) / 2 ^ m.toNat % 2 = 1 := by
      rw [Nat.testBit_eq_decide_div_mod_eq] at hbit
      rw [hmod, of_decide_eq_true hbit]; rfl
    have hp := put_old (g := fun k => D.int (γ k)) (e := .int ((γ k ||| γ m : Nat) : Int)) hk
    have hd : dcN ns (fun j => if j = k then updB γ m k else γ j) = .dct (ns.map Sum.inl) (ns.map fun j => if j = k then .int ((γ k ||| γ m : Nat) : Int) else .int (γ j)) := by
      unfold dcN
      congr 1
      apply List.map_congr_left
      intro j _
      by_cases hj : j = k
      · subst hj
        have : updB γ m j = γ j ||| γ m := by unfold updB; rw [if_pos hbit]
        simp [this]
      · simp [hj]
    rw [hd]
    unfold bInn
    simp [l1, l2, m0, e1, hm1, ho, hl, hp]
  · have hbit : (γ k).testBit m.toNat = false := by simpa using hbit
    have hm1 : (γ k : Int) / 2 ^ m.toNat % 2 = 0 := by
      have h := hbit
      rw [Nat.testBit_eq_decide_div_mod_eq] at h
      have h := of_decide_eq_false h
      have := Nat.mod_two_eq_zero_or_one (γ k / 2 ^ m.toNat)
      rw [hmod, show γ k / 2 ^ m.toNat % 2 = 0 by omega]; rfl
    have hd : dcN ns (fun j => if j = k then updB γ m k else γ j) = dcN ns γ := dcN_congr fun j _ => by
      by_cases hj : j = k
      · subst hj
        have : updB γ m j = γ j := by unfold updB; rw [if_neg (by rw [hbit]; decide)]
        simp [this]
      · simp [hj]
    rw [hd]
    unfold bInn
    simp [l1, l2, m0, e1, hm1]
section
variable {A : List D} {n : Nat} {sc : Int → List Int} (G : Gr A n sc) {ns : List Int} (N : Ns n ns)
include N G
theorem bits2_ok (β : Int → Nat) {m : Int} (hm : m ∈ ns) (o3 : Option D) (b : Bag) : ∃ o3' : Option D, loopD (gN 3) bInn (ns.map D.int) [some (.sh (.lst A)), some (.sh (.lst (ns.map D.int))), some (.ow (dcN ns β)), o3.map SD.sh, some (.sh (.int m)), none] b =
    .nx [some (.sh (.lst A)), some (.sh (.lst (ns.map D.int))), some (.ow (dcN ns (updB β m))), o3'.map SD.sh, some (.sh (.int m)), none] b := by
  obtain ⟨m0, m1⟩ := N.lo m hm
  have hl : ns.length ≤ 100000 := by have := N.len; have := G.n1000; omega
  obtain ⟨ρ', b', f1, ⟨o3', γ, f2, f4⟩, f3⟩ := loop_ind (g := gN 3) (B := bInn)
    (fun i ρ b' => (∃ (o3 : Option D) (γ : Int → Nat), ρ = [some (.sh (.lst A)), some (.sh (.lst (ns.map D.int))), some (.ow (dcN ns γ)), o3.map SD.sh, some (.sh (.int m)), none] ∧ ∀ k ∈ ns, γ k = if k ∈ ns.take i then updB β m k else β k) ∧ b' = b)
    (ns.map D.int) 0 (fun i d hd ρ b' ⟨⟨o3, γ, g1, g3⟩, g2⟩ => by
      subst g1 g2
      rw [List.getElem?_map, Option.map_eq_some_iff] at hd
      obtain ⟨k, hk, rfl⟩ := hd
      rw [Nat.zero_add] at g3 ⊢
      have hkm := List.mem_of_getElem? hk
      have hnew : k ∉ ns.take i := nd_take N.nd hk
      have et : ns.take (i + 1) = ns.take i ++ [k] := by rw [List.take_add_one, hk]; rfl
      have ek : γ k = β k := by rw [g3 k hkm, if_neg hnew]
      have em : γ m = β m := by rw [g3 m hm, updB_self]; split <;> rfl
      refine ⟨_, _, b', rfl, bits_step _ _ b' hl γ hkm hm m0, ⟨some (.int k), _, rfl, fun j hj => ?_⟩, rfl⟩
      show (if j = k then updB γ m k else γ j) = _
      rw [et]
      by_cases hjk : j = k
      · subst hjk
        have : updB γ m j = updB β m j := by unfold updB; rw [ek, em]
        simp [this]
      · rw [if_neg hjk, g3 j hj]
        simp [hjk]) _ b ⟨⟨o3, β, rfl, fun k hk => by simp⟩, rfl⟩
  subst f2 f3
  refine ⟨o3', ?_⟩
  rw [f1]
  have : dcN ns γ = dcN ns (updB β m) := dcN_congr fun k hk => by
    rw [f4 k hk, Nat.zero_add, List.length_map, List.take_length, if_pos hk]
  rw [this]
theorem bits_ok (b : Bag) : ∃ β : Int → Nat, F_bits_ahead [.lst A, .lst (ns.map D.int)] b = .ok (dcN ns β) b ∧ ∀ k ∈ ns, ∀ j ∈ ns, ((β k).testBit j.toNat = true ↔ Pth sc (· ∈ ns) k j) := by
  obtain ⟨o3, h1⟩ := bits1_ok G N none b
  obtain ⟨ρ', b', f1, ⟨o3', o4', β, f2, f4⟩, f3⟩ := loop_ind (g := gN 4) (B := sFor (aAny (eV 1)) (gN 3) bInn)
    (fun i ρ b' => (∃ (o3 o4 : Option D) (β : Int → Nat), ρ = [some (.sh (.lst A)), some (.sh (.lst (ns.map D.int))), some (.ow (dcN ns β)), o3.map SD.sh, o4.map SD.sh, none] ∧ ∀ k ∈ ns, ∀ j ∈ ns, ((β k).testBit j.toNat = true ↔ Via sc (· ∈ ns.take i) k j)) ∧ b' = b)
    (ns.map D.int) 0 (fun i d hd ρ b' ⟨⟨o3, o4, β, g1, g3⟩, g2⟩ => by
      subst g1 g2
      rw [List.getElem?_map, Option.map_eq_some_iff] at hd
      obtain ⟨m, hm, rfl⟩ := hd
      rw [Nat.zero_add] at g3 ⊢
      have hmm := List.mem_of_getElem? hm
      have et : ns.take (i + 1) = ns.take i ++ [m] := by rw [List.take_add_one, hm]; rfl
      obtain ⟨o3', h2⟩ := bits2_ok G N β hmm o3 b'
      refine ⟨_, _, b', rfl, ?_, ⟨o3', some (.int m), updB β m, rfl, fun k hk j hj => ?_⟩, rfl⟩
      · simp [sFor]
        exact h2
      · have e : Via sc (· ∈ ns.take (i + 1)) k j ↔ Via sc (fun x => x ∈ ns.take i ∨ x = m) k j := by
          rw [et]
          exact ⟨fun h => h.mono fun x hx => by simpa using hx, fun h => h.mono fun x hx => by simpa using hx⟩
        rw [e, via_more]
        unfold updB
        have a1 := g3 k hk j hj
        have a2 := g3 k hk m hmm
        have a3 := g3 m hmm j hj
        by_cases hb : (β k).testBit m.toNat = true
        · rw [if_pos hb, Nat.testBit_or, Bool.or_eq_true, a1, a3]
          have := a2.mp hb
          exact ⟨fun h => h.elim .inl fun z => .inr ⟨this, z⟩, fun h => h.elim .inl fun z => .inr z.2⟩
        · rw [if_neg hb, a1]
          exact ⟨.inl, fun h => h.elim id fun z => absurd (a2.mpr z.1) hb⟩) _ b ⟨⟨o3, none, bit0 sc ns, rfl, fun k hk j hj => by
        rw [bit0_ok N (N.lo j hj).1]
        have : Via sc (· ∈ ns.take 0) k j ↔ Via sc (fun _ => False) k j := ⟨fun h => h.mono fun x hx => by simp at hx, fun h => h.mono fun _ hx => hx.elim⟩
        rw [this, via_none]
        simp [hj]⟩, rfl⟩
  subst f2 f3
  refine ⟨β, ?_, fun k hk j hj => ?_⟩
  · unfold F_bits_ahead G_bits_ahead
    unfold bInn at f1
    simp [sFor] at h1 f1 ⊢
    simp [h1]
    simp [sFor, f1]
  · rw [f4 k hk j hj, Nat.zero_add, List.length_map, List.take_length, via_pth]
    exact ⟨fun h => ⟨h, hj⟩, fun h => h.1⟩
end
end DL

set_option maxHeartbeats 1000000
namespace DL
open PySem PySem.Spec PyProof.Rows L2
def hds (ns : List Int) (β : Int → Nat) : List Int := ns.filter fun a => decide ((cls ns β a).head? = some a)
structure GLs (sc : Int → List Int) (ns : List Int) (Ls : List (List Int)) : Prop where
  ne : ∀ l ∈ Ls, l ≠ []
  sub : ∀ l ∈ Ls, ∀ x ∈ l, x ∈ ns
  nd : ∀ l ∈ Ls, l.Nodup
  hang : ∀ l ∈ Ls, SC sc (· ∈ l)
  all : ∀ S : Int → Prop, (∃ a, S a) → SC sc S → (∀ a, S a → a ∈ ns) → ∃ l ∈ Ls, ∀ a, S a → a ∈ l
  few : (Ls.map List.length).sum ≤ ns.length
theorem filt_one {p : Int → Bool} : ∀ {hs : List Int}, hs.Nodup → (∀ a ∈ hs, ∀ a' ∈ hs, p a = true → p a' = true → a = a') → (hs.filter p).length ≤ 1
  | [], _, _ => by simp
  | a :: hs, nd, h => by
    obtain ⟨h1, h2⟩ := List.nodup_cons.mp nd
    by_cases hp : p a = true
    · rw [List.filter_cons_of_pos hp]
      have : hs.filter p = [] := by
        rw [List.filter_eq_nil_iff]
        intro b hb hpb
        have := h a List.mem_cons_self b (List.mem_cons_of_mem _ hb) hp hpb
        subst this
        exact h1 hb
      rw [this]
      simp
    · rw [List.filter_cons_of_neg hp]
      exact filt_one h2 fun b hb c hc => h b (List.mem_cons_of_mem _ hb) c (List.mem_cons_of_mem _ hc)
theorem sum_step (f : Int → Int → Bool) (k : Int) (ns : List Int) : ∀ hs : List Int, (hs.map fun a => ((k :: ns).filter (f a)).length).sum = (hs.map fun a => (ns.filter (f a)).length).sum + (hs.filter fun a => f a k).length
  | [] => rfl
  | a :: hs => by
    rw [List.map_cons, List.sum_cons, sum_step f k ns hs, List.map_cons, List.sum_cons]
    by_cases hp : f a k = true
    · rw [List.filter_cons_of_pos hp, List.filter_cons_of_pos (p := fun a => f a k) hp, List.length_cons, List.length_cons]; omega
    · rw [List.filter_cons_of_neg hp, List.filter_cons_of_neg (p := fun a => f a k) hp]; omega
theorem sum_cls (f : Int → Int → Bool) {hs : List Int} (nd : hs.Nodup) : ∀ ns : List Int, (∀ k ∈ ns, ∀ a ∈ hs, ∀ a' ∈ hs, f a k = true → f a' k = true → a = a') → (hs.map fun a => (ns.filter (f a)).length).sum ≤ ns.length
  | [], _ => by
    have : ∀ hs : List Int, (hs.map fun a => (([] : List Int).filter (f a)).length).sum = 0 := fun hs => by
      induction hs with
      | nil => rfl
      | cons a hs ih => rw [List.map_cons, List.sum_cons, ih]; rfl
    rw [this]
    exact Nat.zero_le _
  | k :: ns, h => by
    rw [sum_step, List.length_cons]
    have h1 := sum_cls f nd ns fun j hj => h j (List.mem_cons_of_mem _ hj)
    have h2 := filt_one (p := fun a => f a k) nd (h k List.mem_cons_self)
    omega
theorem gls_of {n : Nat} {sc : Int → List Int} {ns : List Int} (N : Ns n ns) {β : Int → Nat} (hβ : ∀ k ∈ ns, ∀ j ∈ ns, ((β k).testBit j.toNat = true ↔ Pth sc (· ∈ ns) k j)) : GLs sc ns ((hds ns β).map (cls ns β)) := by
  have hb : ∀ a ∈ ns, ∀ k ∈ ns, (bth β a k = true ↔ Pth sc (· ∈ ns) a k ∧ Pth sc (· ∈ ns) k a) := fun a ha k hk => by
    unfold bth
    rw [Bool.and_eq_true, hβ a ha k hk, hβ k hk a ha]
  have hm : ∀ a ∈ ns, ∀ k, (k ∈ cls ns β a ↔ k ∈ ns ∧ Pth sc (· ∈ ns) a k ∧ Pth sc (· ∈ ns) k a) := fun a ha k => by
    unfold cls
    rw [List.mem_filter]
    exact ⟨fun h => ⟨h.1, (hb a ha k h.1).mp h.2⟩, fun h => ⟨h.1, (hb a ha k h.1).mpr h.2⟩⟩
  have hsame : ∀ a ∈ ns, ∀ c ∈ cls ns β a, cls ns β c = cls ns β a := fun a ha c hc => by
    obtain ⟨c1, c2, c3⟩ := (hm a ha c).mp hc
    unfold cls
    apply List.filter_congr
    intro k hk
    rw [Bool.eq_iff_iff, hb c c1 k hk, hb a ha k hk]
    exact ⟨fun h => ⟨c2.trans h.1, h.2.trans c3⟩, fun h => ⟨c3.trans h.1, h.2.trans c2⟩⟩
  have hh : ∀ a, a ∈ hds ns β ↔ a ∈ ns ∧ (cls ns β a).head? = some a := fun a => by
    unfold hds
    rw [List.mem_filter, decide_eq_true_eq]
  have hself : ∀ a ∈ hds ns β, a ∈ ns ∧ a ∈ cls ns β a := fun a ha => by
    obtain ⟨h1, h2⟩ := (hh a).mp ha
    exact ⟨h1, List.mem_of_mem_head? h2⟩
  have hl : ∀ l ∈ (hds ns β).map (cls ns β), ∃ a, a ∈ ns ∧ a ∈ cls ns β a ∧ l = cls ns β a := fun l h => by
    obtain ⟨a, ha, rfl⟩ := List.mem_map.mp h
    obtain ⟨h1, h2⟩ := hself a ha
    exact ⟨a, h1, h2, rfl⟩
  refine ⟨fun l h e => ?_, fun l h x hx => ?_, fun l h => ?_, fun l h x y hx hy => ?_, fun S ⟨a, ha⟩ hS hSn => ?_, ?_⟩
  · obtain ⟨a, _, h2, rfl⟩ := hl l h
    rw [e] at h2
    cases h2
  · obtain ⟨a, h1, _, rfl⟩ := hl l h
    exact ((hm a h1 x).mp hx).1
  · obtain ⟨a, h1, _, rfl⟩ := hl l h
    exact N.nd.filter _
  · obtain ⟨a, h1, _, rfl⟩ := hl l h
    obtain ⟨_, x2, x3⟩ := (hm a h1 x).mp hx
    obtain ⟨_, y2, y3⟩ := (hm a h1 y).mp hy
    exact ((x3.trans y2).within x2 y3).mono fun c hc => (hm a h1 c).mpr hc
  · have han := hSn a ha
    have hin : ∀ b, S b → b ∈ cls ns β a := fun b hb => (hm a han b).mpr ⟨hSn b hb, (hS a b ha hb).mono hSn, (hS b a hb ha).mono hSn⟩
    have hne : cls ns β a ≠ [] := fun e => by
      have := hin a ha
      rw [e] at this
      cases this
    obtain ⟨c, hc⟩ : ∃ c, (cls ns β a).head? = some c := by
      cases h : cls ns β a with
      | nil => exact absurd h hne
      | cons c l => exact ⟨c, rfl⟩
    have hcm := List.mem_of_mem_head? hc
    have e := hsame a han c hcm
    have hcn := ((hm a han c).mp hcm).1
    refine ⟨cls ns β c, List.mem_map.mpr ⟨c, (hh c).mpr ⟨hcn, by rw [e]; exact hc⟩, rfl⟩, fun b hb => ?_⟩
    rw [e]
    exact hin b hb
  · rw [List.map_map]
    refine sum_cls (bth β) (N.nd.filter _) ns fun k hk a ha a' ha' h1 h2 => ?_
    obtain ⟨a1, a2⟩ := (hh a).mp ha
    obtain ⟨b1, b2⟩ := (hh a').mp ha'
    have ka : k ∈ cls ns β a := List.mem_filter.mpr ⟨hk, h1⟩
    have kb : k ∈ cls ns β a' := List.mem_filter.mpr ⟨hk, h2⟩
    have e : cls ns β a = cls ns β a' := by rw [← hsame a a1 k ka, hsame a' b1 k kb]
    rw [e, b2] at a2
    exact (Option.some.inj a2).symm
def bGL : SF := (sSeq (sAsg (eLc (aAny (eV 1)) [6] (gN 6) (bT (e2 bandF (e2 bandF (e2 shrF (eDg (eV 2) (eV 4)) (eV 6)) (e2 shrF (eDg (eV 2) (eV 6)) (eV 4))) (eC (.int 1)))) (eV 6)) (gN 5)) (sIf (bAnd (bT (eV 5)) (bB (e2 eqF (eIx (eV 5) (eC (.int 0))) (eV 4)))) (sPush 3 (eV 5)) sNil))
def lD (l : List Int) : D := .lst (l.map D.int)
theorem and_bit (x y i j : Nat) : (((x / 2 ^ i) &&& (y / 2 ^ j)) % 2 = 1) ↔ (x.testBit i && y.testBit j) = true := by
  have h := Nat.testBit_and (x / 2 ^ i) (y / 2 ^ j) 0
  rw [Nat.testBit_eq_decide_div_mod_eq, Nat.testBit_div_two_pow, Nat.testBit_div_two_pow, Nat.pow_zero, Nat.div_one, Nat.zero_add, Nat.zero_add] at h
  rw [← h, decide_eq_true_eq]
section
variable {A : List D} {n : Nat} {sc : Int → List Int} (G : Gr A n sc) {ns : List Int} (N : Ns n ns)
include N G
theorem gl_step (β : Int → Nat) {a : Int} (ha : a ∈ ns) (fs : List (List Int)) (hf : fs.length ≤ 100000) (o5 : Option D) (b : Bag) : bGL [some (.sh (.lst A)), some (.sh (.lst (ns.map D.int))), some (.sh (dcN ns β)), some (.ow (.lst (fs.map lD))), some (.sh (.int a)), o5.map SD.sh, none] b =
    .nx [some (.sh (.lst A)), some (.sh (.lst (ns.map D.int))), some (.sh (dcN ns β)), some (.ow (.lst ((fs ++ if (cls ns β a).head? = some a then [cls ns β a] else []).map lD))), some (.sh (.int a)), some (.sh (lD (cls ns β a))), none] b := by
  obtain ⟨a0, a1⟩ := N.lo a ha
  have hl : ns.length ≤ 100000 := by have := N.len; have := G.n1000; omega
  have h := lc_filt (i := 6) (b := b) (ρ := [some (.sh (.lst A)), some (.sh (.lst (ns.map D.int))), some (.sh (dcN ns β)), none, some (.sh (.int a)), o5.map SD.sh, none])
    (T := (bT (e2 bandF (e2 bandF (e2 shrF (eDg (eV 2) (eV 4)) (eV 6)) (e2 shrF (eDg (eV 2) (eV 6)) (eV 4))) (eC (.int 1))))) (F := (eV 6)) (bth β a) D.int ns (fun k hk => by
      obtain ⟨k0, k1⟩ := N.lo k hk
      have l1 := look_map (fun k => D.int (β k)) ha
      have l2 := look_map (fun k => D.int (β k)) hk
      have h1 := shr_nat (β a) k.toNat
      have h2 := shr_nat (β k) a.toNat
      have h3 := band_nat (β a / 2 ^ k.toNat) (β k / 2 ^ a.toNat)
      have h4 := band_nat ((β a / 2 ^ k.toNat) &&& (β k / 2 ^ a.toNat)) 1
      have e : Builtin.bitAnd (Builtin.bitAnd ((β a : Int) / 2 ^ k.toNat) ((β k : Int) / 2 ^ a.toNat)) 1 = ((((β a / 2 ^ k.toNat) &&& (β k / 2 ^ a.toNat)) % 2 : Nat) : Int) := by
        rw [h1, h2, h3, ← Nat.and_one_is_mod]
        exact h4
      have e5 : ((((((β a / 2 ^ k.toNat) &&& (β k / 2 ^ a.toNat)) % 2 : Nat) : Int)) != 0) = bth β a k := by
        rw [Bool.eq_iff_iff]
        have := and_bit (β a) (β k) k.toNat a.toNat
        unfold bth
        rw [← this]
        have := Nat.mod_two_eq_zero_or_one ((β a / 2 ^ k.toNat) &&& (β k / 2 ^ a.toNat))
        rcases this with h | h <;> rw [h] <;> simp
      show (((e2 bandF (e2 bandF (e2 shrF (eDg (eV 2) (eV 4)) (eV 6)) (e2 shrF (eDg (eV 2) (eV 6)) (eV 4))) (eC (.int 1))) _ b).bind _) = _
      rw [show (e2 bandF (e2 bandF (e2 shrF (eDg (eV 2) (eV 4)) (eV 6)) (e2 shrF (eDg (eV 2) (eV 6)) (eV 4))) (eC (.int 1))) ([some (.sh (.lst A)), some (.sh (.lst (ns.map D.int))), some (.sh (dcN ns β)), none, some (.sh (.int a)), o5.map SD.sh, none].set 6 (some (.sh (.int k)))) b = .ok (.int ((((β a / 2 ^ k.toNat) &&& (β k / 2 ^ a.toNat)) % 2 : Nat) : Int)) b by
        rw [← e]
        simp [l1, l2, a0, k0]]
      rw [← e5]
      rfl) (fun k hk _ => by simp)
  have hcl : (ns.filter (bth β a)) = cls ns β a := rfl
  rw [hcl] at h
  unfold bGL lD
  cases hc : cls ns β a with
  | nil =>
    rw [hc] at h
    simp [hl, h]
  | cons c l =>
    rw [hc] at h
    by_cases hca : c = a
    · subst hca
      simp [hl, h, hf]
    · simp [hl, h, hca]
theorem gls_ok (b : Bag) : ∃ Ls, F_greatest_loops [.lst A, .lst (ns.map D.int)] b = .ok (.lst (Ls.map lD)) b ∧ GLs sc ns Ls := by
  obtain ⟨β, h1, h2⟩ := bits_ok G N b
  have hl : ns.length ≤ 1000 := by have := N.len; have := G.n1000; omega
  obtain ⟨ρ', b', f1, ⟨o4, o5, f2⟩, f3⟩ := loop_ind (g := gN 4) (B := bGL)
    (fun i ρ b' => (∃ (o4 o5 : Option D), ρ = [some (.sh (.lst A)), some (.sh (.lst (ns.map D.int))), some (.sh (dcN ns β)), some (.ow (.lst ((((ns.take i).filter fun a => decide ((cls ns β a).head? = some a)).map (cls ns β)).map lD))), o4.map SD.sh, o5.map SD.sh, none]) ∧ b' = b)
    (ns.map D.int) 0 (fun i d hd ρ b' ⟨⟨o4, o5, g1⟩, g2⟩ => by
      subst g1 g2
      rw [List.getElem?_map, Option.map_eq_some_iff] at hd
      obtain ⟨a, ha, rfl⟩ := hd
      rw [Nat.zero_add]
      have ham := List.mem_of_getElem? ha
      have et : ns.take (i + 1) = ns.take i ++ [a] := by rw [List.take_add_one, ha]; rfl
      have hs := gl_step G N β ham (((ns.take i).filter fun a => decide ((cls ns β a).head? = some a)).map (cls ns β)) (by
        rw [List.length_map]
        have := List.length_filter_le (fun a => decide ((cls ns β a).head? = some a)) (ns.take i)
        rw [List.length_take] at this
        omega) o5 b'
      refine ⟨_, _, b', rfl, hs, ⟨some (.int a), some (lD (cls ns β a)), ?_⟩, rfl⟩
      rw [et, List.filter_append, List.map_append]
      by_cases hh : (cls ns β a).head? = some a
      · simp [hh]
      · simp [hh]) [some (.sh (.lst A)), some (.sh (.lst (ns.map D.int))), some (.sh (dcN ns β)), some (.ow (.lst [])), none, none, none] b ⟨⟨none, none, by simp⟩, rfl⟩
  subst f2 f3
  refine ⟨(hds ns β).map (cls ns β), ?_, gls_of N h2⟩
  unfold F_greatest_loops G_greatest_loops
  rw [Nat.zero_add, List.length_map, List.take_length] at f1
  unfold bGL at f1
  simp [h1]
  simp [sFor] at f1 ⊢
  simp [f1, hds]
end
end DL

set_option maxHeartbeats 1000000
namespace DL
open PySem PySem.Spec PyProof.Rows L2
def colL (cs : List Int) (k : Int) : Int := (cs[k.toNat]?).getD 0
theorem colL_at {cs : List Int} {k : Int} (h0 : 0 ≤ k) (h1 : k < cs.length) : atI (cs.map D.int) k = some (.int (colL cs k)) := by
  obtain ⟨j, rfl⟩ : ∃ j : Nat, k = (j : Int) := ⟨k.toNat, by omega⟩
  have hj : j < cs.length := by omega
  refine atI_nat ?_
  unfold colL
  rw [Int.toNat_natCast, List.getElem?_map, List.getElem?_eq_getElem hj]
  rfl
abbrev Ask := List (List Int × Int)
def askD (p : List Int × Int) : D := .tup [.lst (p.1.map D.int), .int p.2]
def asOf (as : Ask) : Asked := as.map fun p => (colL p.1, p.2)
def wwt : Ask → List Int → List Int
  | [], l => l
  | p :: as, l => if top0 (l.map (colL p.1)) % 2 = p.2 then wwt as l else l.filter fun k => decide (colL p.1 k < top0 (l.map (colL p.1)))
theorem lc_ints' {ρ : Env} {b : Bag} {F : EF} {i : Nat} (f : Int → Int) (is : List Int) (h : ∀ k ∈ is, F (ρ.set i (some (.sh (.int k)))) b = .ok (.int (f k)) b) : lcD (gN i) bYes F (is.map D.int) ρ b = .ok ((is.map f).map D.int) b := by
  rw [lc_ints (fun k => .int (f k)) is h, List.map_map]
  rfl
def bWwt : SF := (sSeq (sAsg (eB maxLF (aCons (eLc (aAny (eV 0)) [5] (gN 5) bYes (eIx (eV 2) (eV 5))) aNil)) (gN 4)) (sIf (bB (e2 neF (e2 modF (eV 4) (eC (.int 2))) (eV 3))) (sRet (eLc (aAny (eV 0)) [5] (gN 5) (bB (e2 ltF (eIx (eV 2) (eV 5)) (eV 4))) (eV 5))) sNil))
theorem wwt_loop {n : Nat} {l : List Int} (hl0 : l ≠ []) (hlo : ∀ k ∈ l, 0 ≤ k ∧ k < n) (hll : l.length ≤ 1000) (a1 : D) (b : Bag) : ∀ (as : Ask), (∀ p ∈ as, p.1.length = n) → ∀ (o2 o3 o4 : Option D),
    ((loopD (gT 2 (gsC (gN 2) (gsC (gN 3) gsN))) bWwt (as.map askD) [some (.sh (lD l)), some (.sh a1), o2.map SD.sh, o3.map SD.sh, o4.map SD.sh, none] b).seq (sRet (eV 0))).out = .ok (lD (wwt as l)) b
  | [], _, o2, o3, o4 => by simp [loopD, wwt]
  | p :: as, h, o2, o3, o4 => by
    obtain ⟨cs, ev⟩ := p
    have hc : cs.length = n := h (cs, ev) List.mem_cons_self
    have ih := wwt_loop hl0 hlo hll a1 b as (fun p hp => h p (List.mem_cons_of_mem _ hp)) (some (.lst (cs.map D.int))) (some (.int ev)) (some (.int (top0 (l.map (colL cs)))))
    have h1 := lc_ints' (i := 5) (b := b) (ρ := [some (.sh (lD l)), some (.sh a1), some (.sh (.lst (cs.map D.int))), some (.sh (.int ev)), o4.map SD.sh, none]) (F := (eIx (eV 2) (eV 5))) (colL cs) l (fun k hk => by
      obtain ⟨k0, k1⟩ := hlo k hk
      have := colL_at (cs := cs) k0 (by omega)
      simp [this])
    have hm := maxLF_ok (is := l.map (colL cs)) (by simpa using hl0)
    have hl : l.length ≤ 100000 := by omega
    rw [List.map_cons]
    unfold loopD
    have e : askD (cs, ev) = .tup [.lst (cs.map D.int), .int ev] := rfl
    rw [e]
    simp only [List.map_map] at h1 hm
    by_cases ht : top0 (l.map (colL cs)) % 2 = ev
    · have ew : wwt ((cs, ev) :: as) l = wwt as l := by
        show (if top0 (l.map (colL cs)) % 2 = ev then _ else _) = _
        rw [if_pos ht]
      rw [ew]
      unfold lD at h1 ih ⊢
      simp [bWwt, hl, h1, hm, ht] at ih ⊢
      exact ih
    · have ew : wwt ((cs, ev) :: as) l = l.filter fun k => decide (colL cs k < top0 (l.map (colL cs))) := by
        show (if top0 (l.map (colL cs)) % 2 = ev then _ else _) = _
        rw [if_neg ht]
      have h3 := lc_filt (i := 5) (b := b) (ρ := [some (.sh (lD l)), some (.sh a1), some (.sh (.lst (cs.map D.int))), some (.sh (.int ev)), some (.sh (.int (top0 (l.map (colL cs))))), none])
        (T := (bB (e2 ltF (eIx (eV 2) (eV 5)) (eV 4)))) (F := (eV 5)) (fun k => decide (colL cs k < top0 (l.map (colL cs)))) D.int l (fun k hk => by
          obtain ⟨k0, k1⟩ := hlo k hk
          have := colL_at (cs := cs) k0 (by omega)
          simp [this]) (fun k hk _ => by simp)
      rw [ew]
      unfold lD at h1 h3 ⊢
      simp [bWwt, hl, h1, hm, ht, h3]
theorem wwt_ok {n : Nat} {l : List Int} (hl0 : l ≠ []) (hlo : ∀ k ∈ l, 0 ≤ k ∧ k < n) (hll : l.length ≤ 1000) (as : Ask) (ha : ∀ p ∈ as, p.1.length = n) (b : Bag) : F_without_wrong_top [lD l, .lst (as.map askD)] b = .ok (lD (wwt as l)) b := by
  have h := wwt_loop hl0 hlo hll (.lst (as.map askD)) b as ha none none none
  unfold F_without_wrong_top G_without_wrong_top
  unfold bWwt at h
  simp [sFor] at h ⊢
  exact h
theorem wwt_sub (as : Ask) (l : List Int) : ∀ k ∈ wwt as l, k ∈ l := by
  induction as with
  | nil => exact fun k h => h
  | cons p as ih =>
    intro k h
    unfold wwt at h
    split at h
    · exact ih k h
    · exact (List.mem_filter.mp h).1
theorem wwt_nd (as : Ask) {l : List Int} (nd : l.Nodup) : (wwt as l).Nodup := by
  induction as with
  | nil => exact nd
  | cons p as ih =>
    unfold wwt
    split
    · exact ih
    · exact nd.filter _
theorem filter_lt {p : Int → Bool} : ∀ {l : List Int}, (∃ a ∈ l, p a = false) → (l.filter p).length < l.length
  | [], h => by obtain ⟨_, h, _⟩ := h; cases h
  | b :: l, h => by
    obtain ⟨a, ha, hp⟩ := h
    by_cases hb : p b = true
    · rw [List.filter_cons_of_pos hb, List.length_cons, List.length_cons]
      have : a ∈ l := by
        rcases List.mem_cons.mp ha with rfl | h
        · rw [hb] at hp; cases hp
        · exact h
      have := filter_lt ⟨a, this, hp⟩
      omega
    · rw [List.filter_cons_of_neg hb, List.length_cons]
      have := List.length_filter_le p l
      omega
/-- nothing is left out just if all is as asked; else less is left -/
theorem wwt_len (as : Ask) {l : List Int} (h0 : l ≠ []) : ((wwt as l).length = l.length ∧ ∀ p ∈ as, top0 (l.map (colL p.1)) % 2 = p.2) ∨ (wwt as l).length < l.length := by
  induction as with
  | nil => exact .inl ⟨rfl, fun p hp => by cases hp⟩
  | cons p as ih =>
    unfold wwt
    split
    · rename_i ht
      rcases ih with ⟨h1, h2⟩ | h
      · exact .inl ⟨h1, fun q hq => (List.mem_cons.mp hq).elim (fun e => by rw [e]; exact ht) (h2 q)⟩
      · exact .inr h
    · right
      obtain ⟨a, a1, a2⟩ := List.mem_map.mp (top0_mem (is := l.map (colL p.1)) (by simpa using h0))
      exact filter_lt ⟨a, a1, by rw [a2]; simp⟩
/-- no loop that is asked for loses anything -/
theorem wwt_keeps (sc : Int → List Int) {as : Ask} {l : List Int} {S : Int → Prop} (hS : GLoop sc (asOf as) S) (hl : ∀ a, S a → a ∈ l) : ∀ a, S a → a ∈ wwt as l := by
  obtain ⟨_, _, hS⟩ := hS
  induction as with
  | nil => exact hl
  | cons p as ih =>
    have ih := ih fun q hq => hS q (List.mem_cons_of_mem _ hq)
    unfold wwt
    split
    · exact ih
    · rename_i ht
      obtain ⟨T, ⟨⟨c, c1, c2⟩, t1⟩, t2⟩ := hS (colL p.1, p.2) List.mem_cons_self
      intro a ha
      refine List.mem_filter.mpr ⟨hl a ha, ?_⟩
      have h1 : colL p.1 a ≤ T := t1 a ha
      have h2 : T ≤ top0 (l.map (colL p.1)) := by
        rw [← c2]
        exact top0_ge _ (List.mem_map.mpr ⟨c, hl c c1, rfl⟩)
      have h3 : T ≠ top0 (l.map (colL p.1)) := fun e => ht (by rw [← e]; exact t2)
      simp
      omega
theorem good_of {sc : Int → List Int} {as : Ask} {l : List Int} (h0 : l ≠ []) (hs : SC sc (· ∈ l)) (h : ∀ p ∈ as, top0 (l.map (colL p.1)) % 2 = p.2) : GLoop sc (asOf as) (· ∈ l) := by
  refine ⟨?_, hs, fun q hq => ?_⟩
  · cases l with
    | nil => exact (h0 rfl).elim
    | cons a l => exact ⟨a, List.mem_cons_self⟩
  · obtain ⟨p, hp, rfl⟩ := List.mem_map.mp hq
    exact ⟨_, top_is h0, h p hp⟩
def mu (ws : List (List Int)) : Nat := (ws.map fun w => 1 + 2 * w.length).sum
structure LInv (sc : Int → List Int) (n : Nat) (as : Ask) (ns : List Int) (fs ws : List (List Int)) : Prop where
  fsub : ∀ l ∈ fs, ∀ k ∈ l, k ∈ ns
  fnd : ∀ l ∈ fs, l.Nodup
  fgood : ∀ l ∈ fs, GLoop sc (asOf as) (· ∈ l)
  wns : ∀ w ∈ ws, Ns n w
  wsub : ∀ w ∈ ws, ∀ k ∈ w, k ∈ ns
  all : ∀ S : Int → Prop, GLoop sc (asOf as) S → (∀ a, S a → a ∈ ns) → (∃ l ∈ fs, ∀ a, S a → a ∈ l) ∨ ∃ w ∈ ws, ∀ a, S a → a ∈ w
def bLaa1 : SF := (sSeq (sAsg (eCall (F_without_wrong_top) (aCons (eV 6) (aCons (eV 2) aNil))) (gN 7)) (sIf (bB (e2 eqF (eB lenF (aCons (eV 7) aNil)) (eB lenF (aCons (eV 6) aNil)))) (sPush 3 (eV 6)) (sPush 4 (eV 7))))
def goodB (as : Ask) (l : List Int) : Bool := decide ((wwt as l).length = l.length)
theorem laa1_ok {n : Nat} (hn : n ≤ 1000) (s0 s1 s5 : Option SD) (as : Ask) (ha : ∀ p ∈ as, p.1.length = n) (b : Bag) : ∀ (Ls fs ws : List (List Int)), (∀ l ∈ Ls, l ≠ [] ∧ (∀ k ∈ l, 0 ≤ k ∧ k < n) ∧ l.length ≤ 1000) → fs.length + ws.length + Ls.length ≤ 100000 → ∀ (o6 o7 : Option D), ∃ o6' o7' : Option D,
    loopD (gN 6) bLaa1 (Ls.map lD) [s0, s1, some (.sh (.lst (as.map askD))), some (.ow (.lst (fs.map lD))), some (.ow (.lst (ws.map lD))), s5, o6.map SD.sh, o7.map SD.sh] b =
    .nx [s0, s1, some (.sh (.lst (as.map askD))), some (.ow (.lst ((fs ++ Ls.filter (goodB as)).map lD))), some (.ow (.lst ((ws ++ (Ls.filter fun l => !goodB as l).map (wwt as)).map lD))), s5, o6'.map SD.sh, o7'.map SD.sh] b
  | [], fs, ws, _, _, o6, o7 => ⟨o6, o7, by simp [loopD]⟩
  | l :: Ls, fs, ws, h, hlen, o6, o7 => by
    obtain ⟨h0, hlo, hll⟩ := h l List.mem_cons_self
    have hw := wwt_ok h0 hlo hll as ha b
    rw [List.length_cons] at hlen
    by_cases hg : (wwt as l).length = l.length
    · obtain ⟨o6', o7', ih⟩ := laa1_ok hn s0 s1 s5 as ha b Ls (fs ++ [l]) ws (fun m hm => h m (List.mem_cons_of_mem _ hm)) (by simp; omega) (some (lD l)) (some (lD (wwt as l)))
      refine ⟨o6', o7', ?_⟩
      have hfl : fs.length ≤ 100000 := by omega
      have e1 : (l :: Ls).filter (goodB as) = l :: Ls.filter (goodB as) := List.filter_cons_of_pos (by simp [goodB, hg])
      have e2 : (l :: Ls).filter (fun l => !goodB as l) = Ls.filter fun l => !goodB as l := List.filter_cons_of_neg (by simp [goodB, hg])
      rw [e1, e2, List.map_cons]
      unfold loopD
      unfold lD at hw ih ⊢
      simp [bLaa1, hw, hg, hfl] at ih ⊢
      exact ih
    · obtain ⟨o6', o7', ih⟩ := laa1_ok hn s0 s1 s5 as ha b Ls fs (ws ++ [wwt as l]) (fun m hm => h m (List.mem_cons_of_mem _ hm)) (by simp; omega) (some (lD l)) (some (lD (wwt as l)))
      refine ⟨o6', o7', ?_⟩
      have hfl : ws.length ≤ 100000 := by omega
      have hg' : ¬ ((wwt as l).length : Int) = (l.length : Int) := by omega
      have e1 : (l :: Ls).filter (goodB as) = Ls.filter (goodB as) := List.filter_cons_of_neg (by simp [goodB, hg])
      have e2 : (l :: Ls).filter (fun l => !goodB as l) = l :: Ls.filter fun l => !goodB as l := List.filter_cons_of_pos (by simp [goodB, hg])
      rw [e1, e2, List.map_cons]
      unfold loopD
      unfold lD at hw ih ⊢
      simp [bLaa1, hw, hg', hfl] at ih ⊢
      exact ih
theorem mu_app (a c : List (List Int)) : mu (a ++ c) = mu a + mu c := by simp [mu]
theorem mu_bad (as : Ask) : ∀ Ls : List (List Int), (∀ l ∈ Ls, l ≠ []) → (Ls.filter (goodB as)).length + mu ((Ls.filter fun l => !goodB as l).map (wwt as)) ≤ 2 * (Ls.map List.length).sum
  | [], _ => by simp [mu]
  | l :: Ls, h => by
    have ih := mu_bad as Ls fun m hm => h m (List.mem_cons_of_mem _ hm)
    have h0 := h l List.mem_cons_self
    have hl : 0 < l.length := List.length_pos_iff.mpr h0
    rw [List.map_cons, List.sum_cons]
    by_cases hg : (wwt as l).length = l.length
    · have e1 : (l :: Ls).filter (goodB as) = l :: Ls.filter (goodB as) := List.filter_cons_of_pos (by simp [goodB, hg])
      have ew : (l :: Ls).filter (fun l => !goodB as l) = Ls.filter fun l => !goodB as l := List.filter_cons_of_neg (by simp [goodB, hg])
      rw [e1, ew, List.length_cons]
      omega
    · have e1 : (l :: Ls).filter (goodB as) = Ls.filter (goodB as) := List.filter_cons_of_neg (by simp [goodB, hg])
      have ew : (l :: Ls).filter (fun l => !goodB as l) = l :: Ls.filter fun l => !goodB as l := List.filter_cons_of_pos (by simp [goodB, hg])
      rw [e1, ew, List.map_cons]
      have : mu (wwt as l :: (Ls.filter fun l => !goodB as l).map (wwt as)) = 1 + 2 * (wwt as l).length + mu ((Ls.filter fun l => !goodB as l).map (wwt as)) := rfl
      rw [this]
      have := (wwt_len as h0).resolve_left fun z => hg z.1
      omega
def bLaa : SF := (sSeq (sPop 4 5) (sFor (aAny (eCall (F_greatest_loops) (aCons (eV 0) (aCons (eV 5) aNil)))) (gN 6) bLaa1))
section
variable {A : List D} {n : Nat} {sc : Int → List Int} (G : Gr A n sc)
include G
theorem laa2_ok (ns : List Int) (s1 : Option SD) (as : Ask) (ha : ∀ p ∈ as, p.1.length = n) (b : Bag) : ∀ (fuel : Nat) (fs ws : List (List Int)), LInv sc n as ns fs ws → fs.length + mu ws < fuel → fs.length + mu ws ≤ 5000 → ∀ (o5 o6 o7 : Option D), ∃ (fs' : List (List Int)) (o5' o6' o7' : Option D),
    whileD (bOw 4) bLaa fuel [some (.sh (.lst A)), s1, some (.sh (.lst (as.map askD))), some (.ow (.lst (fs.map lD))), some (.ow (.lst (ws.map lD))), o5.map SD.sh, o6.map SD.sh, o7.map SD.sh] b =
    .nx [some (.sh (.lst A)), s1, some (.sh (.lst (as.map askD))), some (.ow (.lst (fs'.map lD))), some (.ow (.lst [])), o5'.map SD.sh, o6'.map SD.sh, o7'.map SD.sh] b ∧ LInv sc n as ns fs' [] ∧ fs'.length ≤ fs.length + mu ws
  | 0, fs, ws, _, h, _, _, _, _ => by omega
  | fuel + 1, fs, ws, I, h, hbig, o5, o6, o7 => by
    have hn := G.n1000
    rcases List.eq_nil_or_concat ws with rfl | ⟨ws0, w, rfl⟩
    · exact ⟨fs, o5, o6, o7, by unfold whileD; simp, I, by omega⟩
    · rw [List.concat_eq_append] at I h hbig ⊢
      have hwm : w ∈ ws0 ++ [w] := by simp
      have Nw := I.wns w hwm
      obtain ⟨Ls, h1, hG⟩ := gls_ok G Nw b
      have hmu : mu (ws0 ++ [w]) = mu ws0 + (1 + 2 * w.length) := by rw [mu_app]; rfl
      have hws0 : ws0.length ≤ mu ws0 := by
        clear I h hbig hwm hmu
        induction ws0 with
        | nil => exact Nat.le_refl _
        | cons v ws0 ih =>
          have : mu (v :: ws0) = 1 + 2 * v.length + mu ws0 := rfl
          rw [List.length_cons, this]
          omega
      have hbad := mu_bad as Ls hG.ne
      have hfew := hG.few
      have hLl : Ls.length ≤ (Ls.map List.length).sum := by
        have := hG.ne
        clear h1 hG hbad hfew
        induction Ls with
        | nil => exact Nat.le_refl _
        | cons l Ls ih =>
          have h0 := List.length_pos_iff.mpr (this l List.mem_cons_self)
          have := ih fun m hm => this m (List.mem_cons_of_mem _ hm)
          rw [List.length_cons, List.map_cons, List.sum_cons]
          omega
      obtain ⟨o6', o7', h2⟩ := laa1_ok hn (some (.sh (.lst A))) s1 (some (.sh (lD w))) as ha b Ls fs ws0 (fun l hl => by
        refine ⟨hG.ne l hl, fun k hk => Nw.lo k (hG.sub l hl k hk), ?_⟩
        have : Ns n l := ⟨hG.nd l hl, fun k hk => Nw.lo k (hG.sub l hl k hk)⟩
        have := this.len
        omega) (by have := Nw.len; omega) o6 o7
      have I2 : LInv sc n as ns (fs ++ Ls.filter (goodB as)) (ws0 ++ (Ls.filter fun l => !goodB as l).map (wwt as)) := by
        refine ⟨fun l hl k hk => ?_, fun l hl => ?_, fun l hl => ?_, fun v hv => ?_, fun v hv k hk => ?_, fun S hS hSn => ?_⟩
        · rcases List.mem_append.mp hl with hl | hl
          · exact I.fsub l hl k hk
          · exact I.wsub w hwm k (hG.sub l (List.mem_filter.mp hl).1 k hk)
        · rcases List.mem_append.mp hl with hl | hl
          · exact I.fnd l hl
          · exact hG.nd l (List.mem_filter.mp hl).1
        · rcases List.mem_append.mp hl with hl | hl
          · exact I.fgood l hl
          · obtain ⟨hl1, hl2⟩ := List.mem_filter.mp hl
            have hl2 : (wwt as l).length = l.length := by simpa [goodB] using hl2
            have h0 := hG.ne l hl1
            rcases wwt_len as h0 with ⟨_, h⟩ | h
            · exact good_of h0 (hG.hang l hl1) h
            · omega
        · rcases List.mem_append.mp hv with hv | hv
          · exact I.wns v (List.mem_append_left _ hv)
          · obtain ⟨l, hl, rfl⟩ := List.mem_map.mp hv
            have hl := (List.mem_filter.mp hl).1
            exact ⟨wwt_nd as (hG.nd l hl), fun k hk => Nw.lo k (hG.sub l hl k (wwt_sub as l k hk))⟩
        · rcases List.mem_append.mp hv with hv | hv
          · exact I.wsub v (List.mem_append_left _ hv) k hk
          · obtain ⟨l, hl, rfl⟩ := List.mem_map.mp hv
            have hl := (List.mem_filter.mp hl).1
            exact I.wsub w hwm k (hG.sub l hl k (wwt_sub as l k hk))
        · rcases I.all S hS hSn with ⟨l, hl, h⟩ | ⟨v, hv, hin⟩
          · exact .inl ⟨l, List.mem_append_left _ hl, h⟩
          · rcases List.mem_append.mp hv with hv | hv
            · exact .inr ⟨v, List.mem_append_left _ hv, hin⟩
            · have : v = w := List.mem_singleton.mp hv
              subst this
              obtain ⟨l, hl, h⟩ := hG.all S hS.1 hS.2.1 hin
              by_cases hg : goodB as l = true
              · exact .inl ⟨l, List.mem_append_right _ (List.mem_filter.mpr ⟨hl, hg⟩), h⟩
              · exact .inr ⟨wwt as l, List.mem_append_right _ (List.mem_map.mpr ⟨l, List.mem_filter.mpr ⟨hl, by simpa using hg⟩, rfl⟩), wwt_keeps sc hS h⟩
      have hdec : (fs ++ Ls.filter (goodB as)).length + mu (ws0 ++ (Ls.filter fun l => !goodB as l).map (wwt as)) + 1 ≤ fs.length + mu (ws0 ++ [w]) := by
        rw [List.length_append, mu_app, hmu]
        omega
      obtain ⟨fs', o5', o6'', o7'', h3, h4, h5⟩ := laa2_ok ns s1 as ha b fuel _ _ I2 (by omega) (by omega) (some (lD w)) o6' o7'
      refine ⟨fs', o5', o6'', o7'', ?_, h4, by omega⟩
      unfold whileD
      unfold lD at h1 h2 h3 ⊢
      simp [bLaa, sFor, h1] at h2 h3 ⊢
      simp [h2]
      exact h3
theorem laa_ok {ns : List Int} (N : Ns n ns) (as : Ask) (ha : ∀ p ∈ as, p.1.length = n) (b : Bag) : ∃ Ls, F_loops_as_asked [.lst A, .lst (ns.map D.int), .lst (as.map askD)] b = .ok (.lst (Ls.map lD)) b ∧ LInv sc n as ns Ls [] ∧ Ls.length ≤ 1 + 2 * n := by
  have hn := G.n1000
  have hl := N.len
  have hm : mu [ns] = 1 + 2 * ns.length + 0 := rfl
  obtain ⟨fs', o5, o6, o7, h1, h2, h3⟩ := laa2_ok G ns (some (.sh (.lst (ns.map D.int)))) as ha b 100000 [] [ns] ⟨by simp, by simp, by simp, fun w hw => by
    have : w = ns := by simpa using hw
    subst this; exact N, fun w hw k hk => by
    have : w = ns := by simpa using hw
    subst this; exact hk, fun S hS hSn => .inr ⟨ns, by simp, hSn⟩⟩ (by rw [hm, List.length_nil]; omega) (by rw [hm, List.length_nil]; omega) none none none
  refine ⟨fs', ?_, h2, by rw [hm, List.length_nil] at h3; omega⟩
  unfold F_loops_as_asked G_loops_as_asked
  unfold bLaa bLaa1 at h1
  unfold lD at h1 ⊢
  simp [sWhile] at h1 ⊢
  simp [h1]
end
end DL

set_option maxHeartbeats 1000000
namespace DL
open PySem PySem.Spec PyProof.Rows L2
theorem range_nums (n : Nat) : rangeOf (n : Int) = (nums n).map D.int := by
  unfold rangeOf nums
  rw [Int.toNat_natCast, List.map_map]
  rfl
theorem nd_nums (n : Nat) : (nums n).Nodup := by
  unfold nums
  rw [List.nodup_iff_pairwise_ne, List.pairwise_map]
  exact (List.nodup_range (n := n)).imp fun h e => h (by omega)
theorem ns_nums (n : Nat) : Ns n (nums n) := ⟨nd_nums n, fun k hk => mem_nums.mp hk⟩
theorem at_nums {α : Type} {n : Nat} (f : Int → α) {k : Int} (h0 : 0 ≤ k) (h1 : k < n) : atI ((nums n).map f) k = some (f k) := by
  obtain ⟨j, rfl⟩ : ∃ j : Nat, k = (j : Int) := ⟨k.toNat, by omega⟩
  refine atI_nat ?_
  unfold nums
  rw [List.getElem?_map, List.getElem?_map, List.getElem?_range (by omega)]
  rfl
def ldI (sc : Int → List Int) (gs : List Int) : Nat → Int → Bool
  | 0, k => decide (k ∈ gs)
  | t + 1, k => ldI sc gs t k || (sc k).any (ldI sc gs t)
def Rch (sc : Int → List Int) (gs : List Int) (k : Int) : Prop := k ∈ gs ∨ ∃ g ∈ gs, Pth sc (fun _ => True) k g
theorem filt_mono {p q : Int → Bool} : ∀ {l : List Int}, (∀ a ∈ l, p a = true → q a = true) → (l.filter p).length ≤ (l.filter q).length ∧ ((∃ a ∈ l, q a = true ∧ p a = false) → (l.filter p).length < (l.filter q).length)
  | [], _ => ⟨Nat.le_refl _, fun ⟨_, h, _⟩ => by cases h⟩
  | b :: l, h => by
    obtain ⟨i1, i2⟩ := filt_mono (p := p) (q := q) fun a ha => h a (List.mem_cons_of_mem _ ha)
    by_cases hp : p b = true
    · have hq := h b List.mem_cons_self hp
      rw [List.filter_cons_of_pos hp, List.filter_cons_of_pos hq, List.length_cons, List.length_cons]
      refine ⟨by omega, fun ⟨a, ha, a1, a2⟩ => ?_⟩
      have : a ∈ l := (List.mem_cons.mp ha).resolve_left fun e => by rw [e, hp] at a2; cases a2
      have := i2 ⟨a, this, a1, a2⟩
      omega
    · rw [List.filter_cons_of_neg hp]
      by_cases hq : q b = true
      · rw [List.filter_cons_of_pos hq, List.length_cons]
        exact ⟨by omega, fun _ => by omega⟩
      · rw [List.filter_cons_of_neg hq]
        refine ⟨i1, fun ⟨a, ha, a1, a2⟩ => ?_⟩
        have : a ∈ l := (List.mem_cons.mp ha).resolve_left fun e => by rw [e] at a1; exact hq a1
        exact i2 ⟨a, this, a1, a2⟩
section
variable {sc : Int → List Int} {gs : List Int} {n : Nat} (hgo : ∀ k : Int, 0 ≤ k → k < n → ∀ g ∈ sc k, 0 ≤ g ∧ g < n)
theorem it_mono {t : Nat} {k : Int} (h : ldI sc gs t k = true) : ldI sc gs (t + 1) k = true := by
  unfold ldI
  rw [h]
  rfl
theorem it_sound : ∀ {t : Nat} {k : Int}, ldI sc gs t k = true → Rch sc gs k
  | 0, k, h => .inl (by simpa [ldI] using h)
  | t + 1, k, h => by
    unfold ldI at h
    rw [Bool.or_eq_true] at h
    rcases h with h | h
    · exact it_sound h
    · obtain ⟨j, hj, h2⟩ := List.any_eq_true.mp h
      rcases it_sound h2 with h3 | ⟨g, hg, h3⟩
      · exact .inr ⟨j, h3, .one hj trivial⟩
      · exact .inr ⟨g, hg, .step hj trivial h3⟩
include hgo
theorem it_fix {t : Nat} (h : ∀ k ∈ nums n, ldI sc gs (t + 1) k = ldI sc gs t k) : ∀ m, ∀ k ∈ nums n, ldI sc gs (t + m) k = ldI sc gs t k
  | 0, k, _ => rfl
  | m + 1, k, hk => by
    have ih := it_fix h m
    show (ldI sc gs (t + m) k || (sc k).any (ldI sc gs (t + m))) = _
    have e : (sc k).any (ldI sc gs (t + m)) = (sc k).any (ldI sc gs t) := by
      rw [Bool.eq_iff_iff, List.any_eq_true, List.any_eq_true]
      have hin : ∀ j ∈ sc k, j ∈ nums n := fun j hj => by
        have := mem_nums.mp hk
        exact mem_nums.mpr (hgo k this.1 this.2 j hj)
      exact ⟨fun ⟨j, hj, z⟩ => ⟨j, hj, by rw [← ih j (hin j hj)]; exact z⟩, fun ⟨j, hj, z⟩ => ⟨j, hj, by rw [ih j (hin j hj)]; exact z⟩⟩
    rw [e, ih k hk]
    exact h k hk
theorem it_all : ∀ k ∈ nums n, ldI sc gs (n + 1) k = ldI sc gs n k := by
  have step : ∀ t, (∃ s, s ≤ t ∧ ∀ k ∈ nums n, ldI sc gs (s + 1) k = ldI sc gs s k) ∨ t ≤ ((nums n).filter (ldI sc gs t)).length := fun t => by
    induction t with
    | zero => exact .inr (Nat.zero_le _)
    | succ t ih =>
      rcases ih with ⟨s, h1, h2⟩ | ih
      · exact .inl ⟨s, by omega, h2⟩
      · by_cases hf : ∀ k ∈ nums n, ldI sc gs (t + 1) k = ldI sc gs t k
        · exact .inl ⟨t, by omega, hf⟩
        · right
          have : ∃ k ∈ nums n, ldI sc gs (t + 1) k = true ∧ ldI sc gs t k = false := by
            apply Classical.byContradiction
            intro hn
            apply hf
            intro k hk
            cases h1 : ldI sc gs t k with
            | true => exact it_mono h1
            | false =>
              cases h2 : ldI sc gs (t + 1) k with
              | false => rfl
              | true => exact absurd ⟨k, hk, h2, h1⟩ hn
          have := (filt_mono (p := ldI sc gs t) (q := ldI sc gs (t + 1)) (l := nums n) fun a _ => it_mono).2 this
          omega
  rcases step n with ⟨s, h1, h2⟩ | h
  · intro k hk
    have a := it_fix hgo h2 (n - s) k hk
    have b := it_fix hgo h2 (n + 1 - s) k hk
    rw [show s + (n - s) = n by omega] at a
    rw [show s + (n + 1 - s) = n + 1 by omega] at b
    rw [a, b]
  · have all : ∀ k ∈ nums n, ldI sc gs n k = true := by
      intro k hk
      cases hf : ldI sc gs n k with
      | true => rfl
      | false =>
        have := filter_lt (p := ldI sc gs n) ⟨k, hk, hf⟩
        rw [len_nums] at this
        omega
    intro k hk
    rw [all k hk, it_mono (all k hk)]
theorem it_iff {k : Int} (hk : k ∈ nums n) : ldI sc gs n k = true ↔ Rch sc gs k := by
  refine ⟨it_sound, fun h => ?_⟩
  have up : ∀ j ∈ nums n, j ∈ gs → ldI sc gs n j = true := fun j _ hj => by
    have : ∀ t, ldI sc gs t j = true := fun t => by
      induction t with
      | zero => simpa [ldI] using hj
      | succ t ih => exact it_mono ih
    exact this n
  have back : ∀ j ∈ nums n, ∀ i ∈ sc j, ldI sc gs n i = true → ldI sc gs n j = true := fun j hj i hi h => by
    rw [← it_all hgo j hj]
    unfold ldI
    rw [Bool.or_eq_true]
    exact .inr (List.any_eq_true.mpr ⟨i, hi, h⟩)
  have inr : ∀ j ∈ nums n, ∀ i ∈ sc j, i ∈ nums n := fun j hj i hi => by
    have := mem_nums.mp hj
    exact mem_nums.mpr (hgo j this.1 this.2 i hi)
  rcases h with h | ⟨g, hg, h⟩
  · exact up k hk h
  · have : ∀ a b, Pth sc (fun _ => True) a b → b ∈ gs → a ∈ nums n → ldI sc gs n a = true := fun a b h => by
      induction h with
      | one h1 _ => exact fun hb ha => back _ ha _ h1 (up _ (inr _ ha _ h1) hb)
      | step h1 _ _ ih => exact fun hb ha => back _ ha _ h1 (ih hb (inr _ ha _ h1))
    exact this k g h hg hk
end
theorem truths_bl (bs : List Bool) : truths (bs.map D.bl) = some bs := by
  induction bs with
  | nil => rfl
  | cons k bs ih => simp [truths, ih]
theorem anyF_bl (bs : List Bool) : anyF [.lst (bs.map D.bl)] = some (.bl (bs.any id)) := by
  show ((truths (bs.map D.bl)).map fun ks => D.bl (ks.any id)) = _
  rw [truths_bl]
  rfl
theorem row_all {d : D} {gs : List Int} (h : rowIs d gs) : allOf d = some (gs.map D.int) := by
  rcases h with rfl | rfl <;> rfl
def bLead : SF := (sAsg (eLc (aRng (aCons (eB lenF (aCons (eV 0) aNil)) aNil)) [4] (gN 4) bYes (eOr (eIx (eV 2) (eV 4)) (eB anyF (aCons (eLc (aAny (eIx (eV 0) (eV 4))) [5] (gN 5) bYes (eIx (eV 2) (eV 5))) aNil)))) (gN 2))
section
variable {A : List D} {n : Nat} {sc : Int → List Int} (G : Gr A n sc)
include G
theorem lead_step (s1 : Option D) (o3 : Option D) (L : Int → Bool) (b : Bag) : bLead [some (.sh (.lst A)), s1.map SD.sh, some (.sh (.lst ((nums n).map fun k => D.bl (L k)))), o3.map SD.sh, none, none] b =
    .nx [some (.sh (.lst A)), s1.map SD.sh, some (.sh (.lst ((nums n).map fun k => D.bl (L k || (sc k).any L)))), o3.map SD.sh, none, none] b := by
  have hn := G.n1000
  have hA := G.len
  have h := lc_ints (i := 4) (b := b) (ρ := [some (.sh (.lst A)), s1.map SD.sh, some (.sh (.lst ((nums n).map fun k => D.bl (L k)))), o3.map SD.sh, none, none])
    (F := (eOr (eIx (eV 2) (eV 4)) (eB anyF (aCons (eLc (aAny (eIx (eV 0) (eV 4))) [5] (gN 5) bYes (eIx (eV 2) (eV 5))) aNil)))) (fun k => D.bl (L k || (sc k).any L)) (nums n) (fun k hk => by
      obtain ⟨k0, k1⟩ := mem_nums.mp hk
      have e1 := at_nums (fun k => D.bl (L k)) k0 k1
      obtain ⟨d, r1, r2⟩ := G.row k k0 k1
      have ra := row_all r2
      have hf := G.few k k0 k1
      have hi := lc_ints (i := 5) (b := b) (ρ := [some (.sh (.lst A)), s1.map SD.sh, some (.sh (.lst ((nums n).map fun k => D.bl (L k)))), o3.map SD.sh, some (.sh (.int k)), none]) (F := (eIx (eV 2) (eV 5))) (fun j => D.bl (L j)) (sc k) (fun j hj => by
        obtain ⟨j0, j1⟩ := G.go k k0 k1 j hj
        have := at_nums (fun k => D.bl (L k)) j0 j1
        simp [this])
      have ha := anyF_bl ((sc k).map L)
      rw [List.map_map, List.any_map] at ha
      have ha : anyF [.lst ((sc k).map fun j => D.bl (L j))] = some (.bl ((sc k).any L)) := ha
      have hl : (sc k).length ≤ 100000 := by omega
      cases hL : L k with
      | true => simp [e1, hL]
      | false => simp [-allOf, e1, hL, r1, ra, hl, hi, ha])
  have hn1 : (n : Int) ≤ 1000000 := by omega
  have hn2 : (nums n).length ≤ 100000 := by rw [len_nums]; omega
  unfold bLead
  simp [aRng, hA, hn1, range_nums, hn2, h]
theorem lead_ok (gs : List Int) (b : Bag) : F_leading_to [.lst A, .lst (gs.map D.int)] b = .ok (.lst (((nums n).filter (ldI sc gs n)).map D.int)) b := by
  have hn := G.n1000
  have hA := G.len
  have hn1 : (n : Int) ≤ 1000000 := by omega
  have hn2 : (nums n).length ≤ 100000 := by rw [len_nums]; omega
  have h0 := lc_ints (i := 4) (b := b) (ρ := [some (.sh (.lst A)), some (.sh (.lst (gs.map D.int))), none, none, none, none]) (F := (e2 inQ (eV 4) (eV 1))) (fun k => D.bl (ldI sc gs 0 k)) (nums n) (fun k hk => by
    have := inQ_lst k gs
    simp [-inQ, this, ldI])
  obtain ⟨ρ', b', f1, ⟨o3, f2⟩, f3⟩ := loop_ind (g := gN 3) (B := bLead)
    (fun i ρ b' => (∃ o3 : Option D, ρ = [some (.sh (.lst A)), (some (.lst (gs.map D.int))).map SD.sh, some (.sh (.lst ((nums n).map fun k => D.bl (ldI sc gs i k)))), o3.map SD.sh, none, none]) ∧ b' = b)
    A 0 (fun i d hd ρ b' ⟨⟨o3, g1⟩, g2⟩ => by
      subst g1 g2
      exact ⟨_, _, b', rfl, lead_step G (some (.lst (gs.map D.int))) (some d) _ b', ⟨some d, rfl⟩, rfl⟩) [some (.sh (.lst A)), some (.sh (.lst (gs.map D.int))), some (.sh (.lst ((nums n).map fun k => D.bl (ldI sc gs 0 k)))), none, none, none] b ⟨⟨none, rfl⟩, rfl⟩
  subst f2 f3
  rw [Nat.zero_add, hA] at f1
  have h9 := lc_filt (i := 4) (b := b') (ρ := [some (.sh (.lst A)), some (.sh (.lst (gs.map D.int))), some (.sh (.lst ((nums n).map fun k => D.bl (ldI sc gs n k)))), o3.map SD.sh, none, none]) (T := bB (eIx (eV 2) (eV 4))) (F := eV 4) (ldI sc gs n) D.int (nums n) (fun k hk => by
    obtain ⟨k0, k1⟩ := mem_nums.mp hk
    have := at_nums (fun k => D.bl (ldI sc gs n k)) k0 k1
    simp [this]) (fun k hk _ => by simp)
  unfold F_leading_to G_leading_to
  unfold bLead at f1
  simp [aRng, hA, hn1, range_nums, hn2, h0, sFor] at f1 ⊢
  simp [f1, aRng, hA, hn1, range_nums, hn2, h9]
end
end DL

set_option maxHeartbeats 1000000
namespace DL
open PySem PySem.Spec PyProof.Rows L2
def colM (rs : List Row) : List Int := rs.map (·.1)
theorem colL_M (rs : List Row) (k : Int) : colL (colM rs) k = colour rs k := by
  unfold colL colM colour
  rw [List.getElem?_map]
theorem arrows_ok (M : Addr) {x : Str} {rs : List Row} (hr : RowsOk x.length rs) (b : Bag) : F_arrows_of M [machD M x rs] b = .ok (.lst (arrD rs)) b := by
  have n1 := hr.n1
  have f2 := fld_s M x rs
  have hl : rs.length ≤ 100000 := by omega
  have h := lc_map (g := gN 1) (F := eIx (eV 1) (eC (.int 1))) (f := fun d => match d with | .tup [_, y] => y | _ => .non) (rs.map rowD) [some (.sh (machD M x rs)), none] b (fun d hd => by
    obtain ⟨r, hr1, rfl⟩ := List.mem_map.mp hd
    exact ⟨_, rfl, by simp [rowD]⟩)
  have e : (rs.map rowD).map (fun d => match d with | .tup [_, y] => y | _ => D.non) = arrD rs := by
    rw [List.map_map]
    rfl
  rw [e] at h
  unfold F_arrows_of G_arrows_of
  unfold rowsD at f2
  simp [f2, hl, h]
theorem colours_ok (M : Addr) {x : Str} {rs : List Row} (hr : RowsOk x.length rs) (b : Bag) : F_colours_of M [machD M x rs] b = .ok (.lst ((colM rs).map D.int)) b := by
  have n1 := hr.n1
  have f2 := fld_s M x rs
  have hl : rs.length ≤ 100000 := by omega
  have h := lc_map (g := gN 1) (F := eIx (eV 1) (eC (.int 0))) (f := fun d => match d with | .tup [y, _] => y | _ => .non) (rs.map rowD) [some (.sh (machD M x rs)), none] b (fun d hd => by
    obtain ⟨r, hr1, rfl⟩ := List.mem_map.mp hd
    exact ⟨_, rfl, by simp [rowD]⟩)
  have e : (rs.map rowD).map (fun d => match d with | .tup [y, _] => y | _ => D.non) = (colM rs).map D.int := by
    unfold colM
    rw [List.map_map, List.map_map]
    rfl
  rw [e] at h
  unfold F_colours_of G_colours_of
  unfold rowsD at f2
  simp [f2, hl, h]
def LoopM (rs : List Row) (ev : Int) (S : Int → Prop) : Prop := GLoop (scM rs) [(colour rs, ev)] S ∧ ∀ a, S a → a ∈ nums rs.length
/-- it leads to a loop of this evenness -/
def LeadP (rs : List Row) (ev : Int) (k : Int) : Prop := (∃ S, LoopM rs ev S ∧ S k) ∨ ∃ S g, LoopM rs ev S ∧ S g ∧ Pth (scM rs) (fun _ => True) k g
open Classical in
noncomputable def leadL (rs : List Row) (ev : Int) : List Int := (nums rs.length).filter fun k => decide (LeadP rs ev k)
theorem flat_lc2 (s0 s1 s2 : Option SD) (b : Bag) (o3 : D) (h0 : unown [s0, s1, s2] = [s0, s1, s2]) : ∀ (Ls : List (List Int)), lc2D (gN 4) (aAny (eV 4)) [5] (gN 5) (eV 5) (Ls.map lD) [s0, s1, s2, some (.sh o3), none, none] b = .ok (Ls.flatten.map D.int) b
  | [] => rfl
  | l :: Ls => by
    have ih := flat_lc2 s0 s1 s2 b o3 h0 Ls
    rw [List.map_cons]
    unfold lc2D
    have hu : unown ([s0, s1, s2, some (.sh o3), none, none].set 4 (some (.sh (lD l)))) = [s0, s1, s2, some (.sh o3), some (.sh (lD l)), none] := by
      have : ∀ (a c e : Option SD) (ρ : Env), unown [a, c, e] = [a, c, e] → unown (a :: c :: e :: ρ) = a :: c :: e :: unown ρ := by
        intro a c e ρ h
        rcases a with _ | (a | a) <;> rcases c with _ | (c | c) <;> rcases e with _ | (e | e) <;> first | rfl | (simp [unown] at h)
      exact this s0 s1 s2 _ h0
    simp only [gN, hu]
    have h2 := lc_ints (i := 5) (b := b) (ρ := [s0, s1, s2, some (.sh o3), some (.sh (lD l)), none]) (F := eV 5) D.int l (fun k _ => by simp)
    simp only [lD] at h2 ih ⊢
    simp [h2, ih]
theorem sum_len (n : Nat) : ∀ Ls : List (List Int), (∀ l ∈ Ls, l.length ≤ n) → Ls.flatten.length ≤ Ls.length * n
  | [], _ => by simp
  | l :: Ls, h => by
    have ih := sum_len n Ls fun m hm => h m (List.mem_cons_of_mem _ hm)
    have := h l List.mem_cons_self
    rw [List.flatten_cons, List.length_append, List.length_cons, Nat.add_mul, Nat.one_mul]
    omega
open Classical in
theorem leads_ok (M : Addr) {x : Str} {rs : List Row} (hr : RowsOk x.length rs) (hx : x.length ≤ 1000) (ev : Int) (b : Bag) : F_leading_to_loops M [machD M x rs, .int ev] b = .ok (.lst ((leadL rs ev).map D.int)) b := by
  have n1 := hr.n1
  have G := gr_M hr hx
  have h1 := arrows_ok M hr b
  have h2 := colours_ok M hr b
  have h3 := len_M M x rs b
  obtain ⟨Ls, h4, I, hLn⟩ := laa_ok G (ns_nums rs.length) [(colM rs, ev)] (fun p hp => by
    have : p = (colM rs, ev) := by simpa using hp
    subst this
    simp [colM]) b
  have hf := flat_lc2 (some (.sh (machD M x rs))) (some (.sh (.int ev))) (some (.sh (.lst (arrD rs)))) b (.lst (Ls.map lD)) rfl Ls
  have h5 := lead_ok G Ls.flatten b
  have hfl : Ls.flatten.length ≤ 100000 := by
    have := sum_len rs.length Ls fun l hl => by
      have : Ns rs.length l := ⟨I.fnd l hl, fun k hk => mem_nums.mp (I.fsub l hl k hk)⟩
      exact this.len
    have h6 : Ls.length * rs.length ≤ 13 * 6 := Nat.mul_le_mul (by omega) n1
    omega
  have easked : asOf [(colM rs, ev)] = [(colour rs, ev)] := by
    show [(colL (colM rs), ev)] = _
    rw [show colL (colM rs) = colour rs from funext fun k => colL_M rs k]
  -- the goals are the loops
  have hg : ∀ k, k ∈ Ls.flatten ↔ ∃ S, LoopM rs ev S ∧ S k := fun k => by
    rw [List.mem_flatten]
    constructor
    · rintro ⟨l, hl, hk⟩
      refine ⟨(· ∈ l), ⟨?_, fun a ha => I.fsub l hl a ha⟩, hk⟩
      have := I.fgood l hl
      rw [easked] at this
      exact this
    · rintro ⟨S, ⟨h1, h2⟩, hk⟩
      rw [← easked] at h1
      rcases I.all S h1 h2 with ⟨l, hl, h⟩ | ⟨w, hw, _⟩
      · exact ⟨l, hl, h k hk⟩
      · cases hw
  have e : (nums rs.length).filter (ldI (scM rs) Ls.flatten rs.length) = leadL rs ev := by
    unfold leadL
    apply List.filter_congr
    intro k hk
    rw [Bool.eq_iff_iff, it_iff G.go hk, decide_eq_true_eq]
    unfold Rch LeadP
    constructor
    · rintro (h | ⟨g, h, hp⟩)
      · exact .inl ((hg k).mp h)
      · obtain ⟨S, hS, hSg⟩ := (hg g).mp h
        exact .inr ⟨S, g, hS, hSg, hp⟩
    · rintro (h | ⟨S, g, hS, hSg, hp⟩)
      · exact .inl ((hg k).mpr h)
      · exact .inr ⟨g, (hg g).mpr ⟨S, hS, hSg⟩, hp⟩
  rw [e] at h5
  have hn0 : (0 : Int) ≤ rs.length := by omega
  have hn1 : (rs.length : Int) ≤ 100000 := by omega
  have hn1' : rs.length ≤ 100000 := by omega
  have hn2 : (rs.length : Int) < 9223372036854775808 := by omega
  have hn3 : rs.length < 9223372036854775808 := by omega
  unfold F_leading_to_loops G_leading_to_loops
  unfold machD at h1 h2 h3 hf ⊢
  have hask : ([(colM rs, ev)] : Ask).map askD = [.tup [.lst ((colM rs).map D.int), .int ev]] := rfl
  rw [hask] at h4
  simp [h1, h2, h3, hn0, hn1, hn1', hn2, hn3, range_nums, h4]
  simp [-List.map_flatten, -List.length_flatten, hf, hfl, h5]
end DL

set_option maxHeartbeats 1000000
namespace DL
open PySem PySem.Spec PyProof.Rows L2
def addN (ins : List Int) (f : List Int) (g : Int) : List Int := if g ∈ ins ∧ g ∉ f then f ++ [g] else f
theorem addN_spec (ins : List Int) : ∀ (gs f : List Int), f.Nodup → (gs.foldl (addN ins) f).Nodup ∧ (∀ x, x ∈ gs.foldl (addN ins) f ↔ x ∈ f ∨ (x ∈ gs ∧ x ∈ ins)) ∧ ∃ t, gs.foldl (addN ins) f = f ++ t
  | [], f, nd => ⟨nd, fun x => by simp, [], by simp⟩
  | g :: gs, f, nd => by
    have nd2 : (addN ins f g).Nodup := by
      unfold addN
      split
      · rename_i h
        rw [List.nodup_append]
        exact ⟨nd, by simp, fun a ha b hb => by
          have : b = g := by simpa using hb
          rw [this]
          intro e
          exact h.2 (by rw [← e]; exact ha)⟩
      · exact nd
    obtain ⟨h1, h2, t, h3⟩ := addN_spec ins gs (addN ins f g) nd2
    have hm : ∀ x, x ∈ addN ins f g ↔ x ∈ f ∨ (x = g ∧ x ∈ ins) := fun x => by
      unfold addN
      split
      · rename_i h
        constructor
        · intro hx
          rcases List.mem_append.mp hx with hx | hx
          · exact .inl hx
          · have : x = g := by simpa using hx
            subst this
            exact .inr ⟨rfl, h.1⟩
        · rintro (hx | ⟨rfl, _⟩)
          · exact List.mem_append_left _ hx
          · simp
      · rename_i h
        constructor
        · exact .inl
        · rintro (hx | ⟨rfl, hx⟩)
          · exact hx
          · exact Classical.byContradiction fun hn => h ⟨hx, hn⟩
    refine ⟨h1, fun x => ?_, ?_⟩
    · rw [List.foldl_cons, h2, hm]
      constructor
      · rintro ((h | ⟨rfl, h⟩) | ⟨ha, hb⟩)
        · exact .inl h
        · exact .inr ⟨List.mem_cons_self, h⟩
        · exact .inr ⟨List.mem_cons_of_mem _ ha, hb⟩
      · rintro (h | ⟨h, hb⟩)
        · exact .inl (.inl h)
        · rcases List.mem_cons.mp h with rfl | h
          · exact .inl (.inr ⟨rfl, hb⟩)
          · exact .inr ⟨h, hb⟩
    · rw [List.foldl_cons, h3]
      unfold addN
      split
      · exact ⟨[g] ++ t, by simp⟩
      · exact ⟨t, rfl⟩
end DL

set_option maxHeartbeats 1000000

set_option maxHeartbeats 1000000

set_option maxHeartbeats 1000000
namespace DL
open PySem PySem.Spec PyProof.Rows L2
theorem lay_ints (is : List Int) : PyData.canLayAll0 (is.map PyData.int) = true ∧ PyData.depthAll (is.map PyData.int) = 0 := by
  induction is with
  | nil => exact ⟨by simp [PyData.canLayAll0], by simp [PyData.depthAll]⟩
  | cons i is ih => exact ⟨by simp [PyData.canLayAll0, PyData.canLay0, ih.1], by simp [PyData.depthAll, PyData.depth, ih.2]⟩
theorem sh_ints (is : List Int) : SeqAt.shaped (.list (is.map PyData.int)) = true := by
  simp [SeqAt.shaped, PyData.canLay0, PyData.depth, lay_ints]
end DL

set_option maxHeartbeats 1000000

set_option maxHeartbeats 1000000

set_option maxHeartbeats 1000000
namespace DL
open PySem PySem.Spec PyProof.Rows L2
theorem cut_ints (ns : List Int) (lo hi : Option Int) : (∀ d ∈ cutD (ns.map D.int) lo hi, ∃ g, d = D.int g) ∧ (cutD (ns.map D.int) lo hi).length ≤ ns.length := by
  unfold cutD
  refine ⟨fun d hd => ?_, ?_⟩
  · obtain ⟨g, _, rfl⟩ := List.mem_map.mp (List.mem_of_mem_drop (List.mem_of_mem_take hd))
    exact ⟨g, rfl⟩
  · rw [List.length_take, List.length_drop, List.length_map]
    omega
theorem pow_int : (10 : Int) ^ 18 = 1000000000000000000 := by decide +kernel
theorem pow_18 : powF (.int 10) (.int 18) = some (.int 1000000000000000000) := by
  unfold powF
  dsimp only
  rw [if_pos (by decide +kernel)]
  exact congrArg (fun z => some (D.int z)) pow_int
end DL

set_option maxHeartbeats 1000000
namespace DL
open PySem PySem.Spec PyProof.Rows L2
theorem lead_next {rs : List Row} {ev a : Int} : LeadP rs ev a ↔ ∃ g ∈ scM rs a, LeadP rs ev g := by
  constructor
  · rintro (⟨S, hS, ha⟩ | ⟨S, g, hS, hg, hp⟩)
    · obtain ⟨c, c1, c2, _⟩ := (hS.1.2.1 a a ha ha).first
      exact ⟨c, c1, .inl ⟨S, hS, c2⟩⟩
    · obtain ⟨c, c1, _, c3⟩ := hp.first
      rcases c3 with rfl | c3
      · exact ⟨c, c1, .inl ⟨S, hS, hg⟩⟩
      · exact ⟨c, c1, .inr ⟨S, g, hS, hg, c3⟩⟩
  · rintro ⟨g, hg, ⟨S, hS, h⟩ | ⟨S, g', hS, h, hp⟩⟩
    · exact .inr ⟨S, g, hS, h, .one hg trivial⟩
    · exact .inr ⟨S, g', hS, h, .step hg trivial hp⟩
open Classical in
theorem mem_lead {rs : List Row} {ev a : Int} : a ∈ leadL rs ev ↔ (0 ≤ a ∧ a < rs.length) ∧ LeadP rs ev a := by
  unfold leadL
  rw [List.mem_filter, mem_nums, decide_eq_true_eq]
theorem live_ok (M : Addr) {x : Str} {rs : List Row} (hr : RowsOk x.length rs) (hx : x.length ≤ 1000) (b : Bag) : F_live M [machD M x rs] b = .ok (.tup ((leadL rs 0).map D.int)) b := by
  have h1 := check_ok M x rs b
  have h2 := leads_ok M hr hx 0 b
  unfold F_live G_live
  unfold machD at h1 h2 ⊢
  simp [h1, h2, tupleF]
theorem seq_step {G Gr : SF} {ρ ρ' : Env} {b b' : Bag} (h : G ρ b = .nx ρ' b') : sSeq G Gr ρ b = Gr ρ' b' := by
  show (G ρ b).seq Gr = _
  rw [h]
  rfl
end DL

set_option maxHeartbeats 1000000

set_option maxHeartbeats 1000000
namespace DL
open PySem PySem.Spec PyProof.Rows L2
theorem pdraw_ok (b : Bag) {m : Int} (h1 : 1 ≤ m) (h2 : m < 1073741824) : ∃ d b', F__law_draw [.bag, .int m] b = .ok (.int d) b' ∧ 0 ≤ d ∧ d < m := by
  unfold F__law_draw G__law_draw
  have hm0 : 0 < m := by omega
  have hq1 : -18446744073709551616 < b.y % 40009 + 20021 := by omega
  have hq2 : b.y % 40009 + 20021 < 18446744073709551616 := by omega
  by_cases hx : 0 < b.x
  · refine ⟨b.x % m, ⟨b.x / m, (b.y * (b.y % 40009 + 20021) + 60013 * (b.z + 1) + 11) % 2147483629, b.z + 1⟩, ?_, Int.emod_nonneg _ (by omega), Int.emod_lt_of_pos _ hm0⟩
    simp [sPar2, hq1, hq2, hx, hm0, h2]
  · refine ⟨((b.y * (b.y % 40009 + 20021) + 60013 * (b.z + 1) + 11) % 2147483629 / 89) % m, ⟨b.x, (b.y * (b.y % 40009 + 20021) + 60013 * (b.z + 1) + 11) % 2147483629, b.z + 1⟩, ?_, Int.emod_nonneg _ (by omega), Int.emod_lt_of_pos _ hm0⟩
    simp [sPar2, hq1, hq2, hx, hm0, h2]
theorem pick_ok (b : Bag) (ds : List D) (h1 : ds ≠ []) (h2 : ds.length ≤ 1000) : ∃ d ∈ ds, ∃ b', F__law_pick [.bag, .lst ds] b = .ok d b' := by
  have hl : 1 ≤ ds.length := by
    cases ds with
    | nil => exact absurd rfl h1
    | cons _ _ => simp
  obtain ⟨i, b', h3, h4, h5⟩ := pdraw_ok b (m := ds.length) (by omega) (by omega)
  obtain ⟨j, rfl⟩ : ∃ j : Nat, i = (j : Int) := ⟨i.toNat, by omega⟩
  have hj : j < ds.length := by omega
  have hg : atI ds (j : Int) = some ds[j] := atI_nat (List.getElem?_eq_getElem hj)
  refine ⟨ds[j], List.getElem_mem hj, b', ?_⟩
  have hl2 : ds.length ≤ 100000 := by omega
  unfold F__law_pick G__law_pick
  simp [h3, hg, hl2]
def bPur : SF := (sAsg (e2 modF (eB intF (aCons (e2 addF (e2 mulF (eV 4) (eC (.int 48271))) (eV 2)) aNil)) (eC (.int 2147483587))) (gN 4))
theorem pur_loop (p0 p1 p3 : Option SD) (b : Bag) : ∀ (ds : List D) (sd : Int) (s2 : Option SD), (∀ d ∈ ds, ∃ g, d = .int g) → ∃ sd' s2', loopD (gN 2) bPur ds [p0, p1, s2, p3, some (.sh (.int sd))] b = .nx [p0, p1, s2', p3, some (.sh (.int sd'))] b
  | [], sd, s2, _ => ⟨sd, s2, rfl⟩
  | d :: ds, sd, s2, h => by
    obtain ⟨g, rfl⟩ := h d List.mem_cons_self
    obtain ⟨sd', s2', h2⟩ := pur_loop p0 p1 p3 b ds ((sd * 48271 + g) % 2147483587) (some (.sh (.int g))) fun d hd => h d (List.mem_cons_of_mem _ hd)
    refine ⟨sd', s2', ?_⟩
    unfold loopD
    simp [bPur] at h2 ⊢
    exact h2
def gThen (Pw : EF) : SF := (sSeq (sAsg (eIx (eV 0) (eV 1)) (gN 2)) (sSeq (sAsg (eIf (bOr (bB (e2 ltF (eV 2) (eC (.int 0)))) (bB (e2 geF (eV 2) Pw))) (eB absF (aCons (eV 2) aNil)) (eC (.int 0))) (gN 3)) (sRetO (eLst (aCons (eV 3) (aCons (e2 modF (eB intF (aCons (e2 addF (e2 addF (e2 mulF (eV 2) (eC (.int 39373))) (e2 mulF (eC (.int 104723)) (eV 1))) (eC (.int 17))) aNil)) (eC (.int 2147483629))) (aCons (eC (.int 0)) aNil)))))))
def gElse : SF := (sSeq (sAsg (e2 addF (e2 mulF (eC (.int 86243)) (eV 1)) (eC (.int 131))) (gN 4)) (sSeq (sFor (aAny (eSl (eV 0) oNo (oSome (eC (.int 4))))) (gN 2) (sAsg (e2 modF (eB intF (aCons (e2 addF (e2 mulF (eV 4) (eC (.int 48271))) (eV 2)) aNil)) (eC (.int 2147483587))) (gN 4))) (sRetO (eLst (aCons (eC (.int 0)) (aCons (eV 4) (aCons (eC (.int 0)) aNil)))))))
def gPur (Pw : EF) : SF := (sSeq (sIf (bB (e2 ltF (eV 1) (eB lenF (aCons (eV 0) aNil)))) (gThen Pw) sNil) gElse)
theorem pu4_ok (Pw : EF) (T : Int) (hT : ∀ ρ b, Pw ρ b = .ok (.int T) b) (fg : Int) (b : Bag) (ρ : Env) (q2 : ρ[2]? = some (some (.sh (.int fg)))) : ∃ z, eIf (bOr (bB (e2 ltF (eV 2) (eC (.int 0)))) (bB (e2 geF (eV 2) Pw))) (eB absF (aCons (eV 2) aNil)) (eC (.int 0)) ρ b = .ok (.int z) b := by
  by_cases h0 : fg < 0
  · exact ⟨_, by simp [q2, hT, h0]; rfl⟩
  · by_cases ha : T ≤ fg
    · exact ⟨_, by simp [q2, hT, h0, ha]; rfl⟩
    · exact ⟨0, by simp [q2, hT, h0, ha]⟩
theorem pur_core (Pw : EF) (T : Int) (hT : ∀ ρ b, Pw ρ b = .ok (.int T) b) (ns : List Int) (hn : ns.length ≤ 63) (k : Nat) (b : Bag) : ∃ x y, runF 5 2 (gPur Pw) [.fl (ns.map D.int), .int k] b = .ok (.lst [.int x, .int y, .int 0]) b := by
  have r0 : runF 5 2 (gPur Pw) [.fl (ns.map D.int), .int k] b = (gPur Pw [some (.sh (.fl (ns.map D.int))), some (.sh (.int k)), none, none, none] b).outF := rfl
  rw [r0]
  have hl : ns.length ≤ 100000 := by omega
  have c0 : bB (e2 ltF (eV 1) (eB lenF (aCons (eV 0) aNil))) [some (.sh (.fl (ns.map D.int))), some (.sh (.int k)), none, none, none] b = .ok (decide (k < ns.length)) b := by
    by_cases hk : k < ns.length <;> simp [hk]
  by_cases hk : k < ns.length
  · have ea : atI (ns.map D.int) (k : Int) = some (.int ns[k]) := atI_nat (by rw [List.getElem?_map, List.getElem?_eq_getElem hk]; rfl)
    generalize ns[k] = fg at ea
    obtain ⟨z, g4⟩ := pu4_ok Pw T hT fg b [some (.sh (.fl (ns.map D.int))), some (.sh (.int k)), some (.sh (.int fg)), none, none] rfl
    refine ⟨z, (fg * 39373 + 104723 * k + 17) % 2147483629, ?_⟩
    have g1 : eIx (eV 0) (eV 1) [some (.sh (.fl (ns.map D.int))), some (.sh (.int k)), none, none, none] b = .ok (.int fg) b := by simp [ea]
    have g5 : eLst (aCons (eV 3) (aCons (e2 modF (eB intF (aCons (e2 addF (e2 addF (e2 mulF (eV 2) (eC (.int 39373))) (e2 mulF (eC (.int 104723)) (eV 1))) (eC (.int 17))) aNil)) (eC (.int 2147483629))) (aCons (eC (.int 0)) aNil))) [some (.sh (.fl (ns.map D.int))), some (.sh (.int k)), some (.sh (.int fg)), some (.sh (.int z)), none] b = .ok (.lst [.int z, .int ((fg * 39373 + 104723 * k + 17) % 2147483629), .int 0]) b := by simp
    have gt : gThen Pw [some (.sh (.fl (ns.map D.int))), some (.sh (.int k)), none, none, none] b = .ro (.lst [.int z, .int ((fg * 39373 + 104723 * k + 17) % 2147483629), .int 0]) b := by
      unfold gThen
      simp only [sSeq, sAsg, g1, st_ok_, gN, seq_nx_, List.set_cons_succ, List.set_cons_zero, g4, sRetO, g5]
    unfold gPur
    rw [decide_eq_true hk] at c0
    simp only [sSeq, sIf, c0, st_ok_, if_true, gt]
    rfl
  · rw [decide_eq_false hk] at c0
    obtain ⟨c1, c2⟩ := cut_ints ns none (some 4)
    obtain ⟨sd', s2', g4⟩ := pur_loop (some (.sh (.fl (ns.map D.int)))) (some (.sh (.int k))) none b (cutD (ns.map D.int) none (some 4)) (86243 * k + 131) none c1
    refine ⟨0, sd', ?_⟩
    have ge : gElse [some (.sh (.fl (ns.map D.int))), some (.sh (.int k)), none, none, none] b = .ro (.lst [.int 0, .int sd', .int 0]) b := by
      unfold gElse
      unfold bPur at g4
      have hc : (cutD (ns.map D.int) none (some 4)).length ≤ 100000 := by omega
      simp [sFor, eSl, oNo, oSome, slF] at g4 ⊢
      simp [g4, hc]
    unfold gPur
    simp only [sSeq, sIf, c0, st_ok_, sNil, seq_nx_, ge]
    simp [ge]
theorem purse_ok (ns : List Int) (hn : ns.length ≤ 63) (k : Nat) (b : Bag) : ∃ x y, F__law_purse [.fl (ns.map D.int), .int k] b = .ok (.lst [.int x, .int y, .int 0]) b :=
  pur_core (e2 powF (eC (.int 10)) (eC (.int 18))) 1000000000000000000 (fun ρ b => by
    show (Out.pureO (powF (.int 10) (.int 18)) b) = _
    rw [pow_18]
    rfl) ns hn k b
end DL

set_option maxHeartbeats 1000000
namespace DL
open PySem PySem.Spec PyProof.Rows L2
@[simp] theorem ninQ_lst (k : Int) (gs : List Int) : ninQ (.int k) (.lst (gs.map D.int)) = some (.bl (!decide (k ∈ gs))) := by
  simp [flats_ints, inV_ints]
@[simp] theorem ninQ_tup (k : Int) (gs : List Int) : ninQ (.int k) (.tup (gs.map D.int)) = some (.bl (!decide (k ∈ gs))) := by
  simp [flats_ints, inV_ints]
end DL

set_option maxHeartbeats 1000000
namespace DL
open PySem PySem.Spec PyProof.Rows L2
theorem goal_mem {w : Nat} {rs : List Row} (hr : RowsOk w rs) {s : Int} (s0 : 0 ≤ s) (s1 : s < rs.length) {i : Nat} (hi : i < w) : goal rs s i ∈ scM rs s := by
  have ok := (rowAt_ok hr s0 s1).2
  have hl : i < (rowAt rs s).2.length := by rw [ok.len]; exact hi
  show goal rs s i ∈ (rowAt rs s).2
  rw [goal_at, List.getElem?_eq_getElem hl]
  exact List.getElem_mem hl
theorem cyc {rs : List Row} (q : Nat → Int) (hin : ∀ i, 0 ≤ q i ∧ q i < rs.length) (hst : ∀ i, q (i + 1) ∈ scM rs (q i)) {a b : Nat} (hab : a < b) (e : q a = q b) {T : Int} (htop : TopIs (colour rs) (fun y => ∃ t, t < b - a ∧ y = q (a + t)) T) : LeadP rs (T % 2) (q 0) := by
  have hS : ∀ j, a ≤ j → j ≤ b → ∃ t, t < b - a ∧ q j = q (a + t) := fun j h1 h2 => by
    by_cases hj : j = b
    · exact ⟨0, by omega, by rw [hj, ← e]; rfl⟩
    · exact ⟨j - a, by omega, by rw [show a + (j - a) = j by omega]⟩
  let S : Int → Prop := fun y => ∃ t, t < b - a ∧ y = q (a + t)
  have hp : ∀ (d i : Nat), a ≤ i → i + d + 1 ≤ b → Pth (scM rs) S (q i) (q (i + d + 1)) := fun d => by
    induction d with
    | zero => exact fun i h1 h2 => .one (hst i) (hS (i + 1) (by omega) (by omega))
    | succ d ih =>
      intro i h1 h2
      have := ih (i + 1) (by omega) (by omega)
      rw [show i + 1 + d + 1 = i + (d + 1) + 1 by omega] at this
      exact .step (hst i) (hS (i + 1) (by omega) (by omega)) this
  have hsc : SC (scM rs) S := by
    rintro x y ⟨i, hi, rfl⟩ ⟨j, hj, rfl⟩
    have h1 := hp (b - (a + i) - 1) (a + i) (by omega) (by omega)
    rw [show a + i + (b - (a + i) - 1) + 1 = b by omega, ← e] at h1
    by_cases hj0 : j = 0
    · subst hj0; exact h1
    · have h2 := hp (j - 1) a (by omega) (by omega)
      rw [show a + (j - 1) + 1 = a + j by omega] at h2
      exact h1.trans h2
  have hloop : LoopM rs (T % 2) S := ⟨⟨⟨q a, 0, by omega, rfl⟩, hsc, fun p hp => by
    have : p = (colour rs, T % 2) := by simpa using hp
    subst this
    exact ⟨T, htop, rfl⟩⟩, fun y ⟨t, _, h2⟩ => by rw [h2]; exact mem_nums.mpr (hin _)⟩
  by_cases ha : a = 0
  · exact .inl ⟨S, hloop, ⟨0, by omega, by rw [ha]⟩⟩
  · have : ∀ (d : Nat), Pth (scM rs) (fun _ => True) (q 0) (q (d + 1)) := fun d => by
      induction d with
      | zero => exact .one (hst 0) trivial
      | succ d ih => exact ih.snoc (hst (d + 1)) trivial
    have h := this (a - 1)
    rw [show a - 1 + 1 = a by omega] at h
    exact .inr ⟨S, q a, hloop, ⟨0, by omega, rfl⟩, h⟩
theorem rn_per {x : Str} {rs : List Row} (hx : x ∈ sgs) (hr : RowsOk x.length rs) {u v : List Nat} (hu : ∀ c ∈ u, c ∈ x.cps.toList) (hv : ∀ c ∈ v, c ∈ x.cps.toList) (hv0 : v ≠ []) :
    (∀ i, 0 ≤ rn x rs (ltr u v) i ∧ rn x rs (ltr u v) i < rs.length) ∧ (∀ i, rn x rs (ltr u v) (i + 1) ∈ scM rs (rn x rs (ltr u v) i)) ∧ rn x rs (ltr u v) u.length = walkE x rs 0 u ∧
    ∃ J P, u.length ≤ J ∧ 0 < P ∧ ∀ i, J ≤ i → rn x rs (ltr u v) (i + P) = rn x rs (ltr u v) i := by
  have n0 := hr.n0
  have v0 : 0 < v.length := List.length_pos_iff.mpr hv0
  obtain ⟨hs, _⟩ := rn_walk (x := x) (rs := rs) (α := ltr u v) u 0 (fun j hj => by rw [Nat.zero_add, ltr_u hj])
  rw [Nat.zero_add] at hs
  have hs : walkE x rs 0 u = rn x rs (ltr u v) u.length := hs
  have hc : ∀ i, ltr u v i ∈ x.cps.toList := fun i => by
    by_cases h : i < u.length
    · rw [ltr_u h]
      apply hu
      simp [List.getD_eq_getElem?_getD, List.getElem?_eq_getElem h]
    · obtain ⟨j, rfl⟩ : ∃ j, i = u.length + j := ⟨i - u.length, by omega⟩
      rw [ltr_v]
      apply hv
      have : j % v.length < v.length := Nat.mod_lt _ v0
      simp [List.getD_eq_getElem?_getD, List.getElem?_eq_getElem this]
  have hin : ∀ i, 0 ≤ rn x rs (ltr u v) i ∧ rn x rs (ltr u v) i < rs.length := fun i => by
    induction i with
    | zero => exact ⟨by show (0 : Int) ≤ 0; decide, by show (0 : Int) < _; omega⟩
    | succ i ih =>
      obtain ⟨_, _, _, g0, g1⟩ := goal_ok hr ih.1 ih.2 (occ_ok hx (hc i)).2
      exact ⟨g0, g1⟩
  obtain ⟨a, b, hab, hbN, e⟩ := pig rs.length (fun k => (rn x rs (ltr u v) (u.length + k * v.length)).toNat) (fun k _ => by
    have := hin (u.length + k * v.length)
    show (rn x rs (ltr u v) (u.length + k * v.length)).toNat < rs.length
    omega)
  have e : rn x rs (ltr u v) (u.length + a * v.length) = rn x rs (ltr u v) (u.length + b * v.length) := by
    have h1 := hin (u.length + a * v.length)
    have h2 := hin (u.length + b * v.length)
    have e : (rn x rs (ltr u v) (u.length + a * v.length)).toNat = (rn x rs (ltr u v) (u.length + b * v.length)).toNat := e
    omega
  have per : ∀ t, rn x rs (ltr u v) (u.length + a * v.length + t) = rn x rs (ltr u v) (u.length + b * v.length + t) := fun t => by
    induction t with
    | zero => exact e
    | succ t ih =>
      show goal rs (rn x rs (ltr u v) (u.length + a * v.length + t)) (idx x (ltr u v (u.length + a * v.length + t))) = goal rs (rn x rs (ltr u v) (u.length + b * v.length + t)) (idx x (ltr u v (u.length + b * v.length + t)))
      rw [ih, Nat.add_assoc, Nat.add_assoc, ltr_v, ltr_v, Nat.mul_comm a, Nat.mul_comm b, Nat.mul_add_mod, Nat.mul_add_mod]
  obtain ⟨p, rfl⟩ : ∃ p, b = a + (p + 1) := ⟨b - a - 1, by omega⟩
  refine ⟨hin, fun i => goal_mem hr (hin i).1 (hin i).2 (occ_ok hx (hc i)).2, hs.symm, u.length + a * v.length, (p + 1) * v.length, by omega, Nat.mul_pos (by omega) v0, fun i hi => ?_⟩
  obtain ⟨t, rfl⟩ : ∃ t, i = u.length + a * v.length + t := ⟨i - (u.length + a * v.length), by omega⟩
  rw [per t, Nat.add_mul a]
  congr 1
  omega
/-- behind the start of a lasso there is a loop of its evenness -/
theorem lasso_lead {x : Str} {rs : List Row} (hx : x ∈ sgs) (hr : RowsOk x.length rs) {u v : List Nat} (hu : ∀ c ∈ u, c ∈ x.cps.toList) (hv : ∀ c ∈ v, c ∈ x.cps.toList) (hv0 : v ≠ []) : LeadP rs (topOf x rs u v % 2) (walkE x rs 0 u) := by
  obtain ⟨hin, hst, hs, J, P, hJ, hP, hper⟩ := rn_per hx hr hu hv hv0
  have hlim := top_lim hx hr hu hv hv0
  generalize hρ : rn x rs (ltr u v) = ρ at hin hst hs hper hlim
  have far : ∀ m i, J ≤ i → ρ (i + m * P) = ρ i := fun m i hi => by
    induction m with
    | zero => rw [Nat.zero_mul, Nat.add_zero]
    | succ m ih => rw [Nat.add_mul, Nat.one_mul, ← Nat.add_assoc, hper _ (by omega), ih]
  have h0 : ρ (u.length + 0) = walkE x rs 0 u := hs
  rw [← h0]
  refine cyc (fun i => ρ (u.length + i)) (fun i => hin _) (fun i => hst (u.length + i)) (a := J - u.length) (b := J - u.length + P) (by omega) ?_ ?_
  · show ρ (u.length + (J - u.length)) = ρ (u.length + (J - u.length + P))
    rw [show u.length + (J - u.length) = J by omega, show u.length + (J - u.length + P) = J + P by omega, hper J (Nat.le_refl _)]
  · obtain ⟨⟨I, hle⟩, hof⟩ := hlim
    refine ⟨?_, ?_⟩
    · obtain ⟨i, hi, hc⟩ := hof J
      refine ⟨ρ i, ⟨(i - J) % P, ?_, ?_⟩, hc⟩
      · have := Nat.mod_lt (i - J) hP
        omega
      · show ρ i = ρ (u.length + (J - u.length + (i - J) % P))
        have h1 := far ((i - J) / P) (J + (i - J) % P) (by omega)
        have h2 := Nat.div_add_mod (i - J) P
        rw [Nat.mul_comm] at h2
        rw [show J + (i - J) % P + (i - J) / P * P = i by omega] at h1
        rw [h1]
        congr 1
        omega
    · rintro y ⟨t, ht, rfl⟩
      show colour rs (ρ (u.length + (J - u.length + t))) ≤ _
      rw [show u.length + (J - u.length + t) = J + t by omega, ← far (I + 1) (J + t) (by omega)]
      refine hle _ ?_
      have : (I + 1) * 1 ≤ (I + 1) * P := Nat.mul_le_mul_left _ hP
      omega
noncomputable def deadL (rs : List Row) : List Int := (nums rs.length).filter fun k => !decide (k ∈ leadL rs 0)
end DL

set_option maxHeartbeats 1000000
namespace DL
open PySem PySem.Spec PyProof.Rows L2
def pairD (p : Nat × Int) : D := .tup [.str (one p.1), .int p.2]
def bWf : SF := (sIf (bAnd (bB (e2 inQ (eV 10) (eV 3))) (bB (eInDOw true 4 (eV 10)))) (sSeq (sDput 4 (eV 10) (e2 addF (eDgOw 4 (eV 7)) (eV 9))) (sPush 5 (eV 10))) sNil)
def bWfW : SF := (sSeq (sAsg (eIxOw 5 (eV 6)) (gN 7)) (sSeq (sAsg (eIx (eV 1) (eV 7)) (gN 8)) (sSeq (sFor (aZipX (aCons (eV 0) (aCons (eV 8) aNil))) (gT 2 (gsC (gN 9) (gsC (gN 10) gsN))) bWf) (sAug 6 (eC (.int 1))))))
structure WInv (sc : Int → List Int) (ins : List Int) (bg : Int) (f : List Int) (s : Nat) : Prop where
  nd : f.Nodup
  hd : f[0]? = some bg
  path : ∀ x ∈ f, x = bg ∨ Pth sc (· ∈ ins) bg x
  more : ∀ (i : Nat) (y : Int), i < s → f[i]? = some y → ∀ j ∈ sc y, j ∈ ins → j ∈ f
  le : s ≤ f.length
theorem zip_pairs (x : Str) (gs : List Int) : zipOf (signsOf x) (gs.map D.int) = (x.cps.toList.zip gs).map pairD := by
  unfold zipOf signsOf
  generalize x.cps.toList = cs
  induction cs generalizing gs with
  | nil => rfl
  | cons c cs ih =>
    cases gs with
    | nil => rfl
    | cons g gs =>
      rw [List.map_cons, List.map_cons, List.zipWith_cons_cons, ih, List.zip_cons_cons, List.map_cons]
      rfl
/-- the order in which numbers are met -/
def bfsW (sc : Int → List Int) (ins : List Int) : Nat → List Int → Nat → List Int
  | 0, f, _ => f
  | fuel + 1, f, s => if s = f.length then f else bfsW sc ins fuel ((sc (f.getD s 0)).foldl (addN ins) f) (s + 1)
end DL

set_option maxHeartbeats 1000000
namespace DL
open PySem PySem.Spec PyProof.Rows L2
theorem row_len {k : Nat} {rs : List Row} (hr : RowsOk k rs) {y : Int} (y0 : 0 ≤ y) (y1 : y < rs.length) : (scM rs y).length = k := (rowAt_ok hr y0 y1).2.len
end DL

set_option maxHeartbeats 1000000
namespace DL
open PySem PySem.Spec PyProof.Rows L2
abbrev toolD (x : Str) (rs : List Row) : D := .lst [.str x, rowsD rs]
def bTool : SF := (sSeq (sAsg (eB tupleF (aCons (eLc (aAny (eV 1)) [8] (gN 8) bYes (eCall (F__law_draw) (aCons (eV 0) (aCons (eV 4) aNil)))) aNil)) (gN 7)) (sPush 5 (eTup (aCons (eCall (F__law_draw) (aCons (eV 0) (aCons (e2 addF (eV 3) (eC (.int 1))) aNil))) (aCons (eV 7) aNil)))))
theorem pgoals_ok {x : Str} {n : Nat} (hn : 1 ≤ n) (hn6 : n ≤ 6) (ρ : Env) (b : Bag) (e0 : ρ[0]? = some (some (.sh .bag))) (e4 : ρ[4]? = some (some (.sh (.int n)))) :
    ∃ (gs : List Int) (b' : Bag), lcD (gN 8) bYes (eCall (F__law_draw) (aCons (eV 0) (aCons (eV 4) aNil))) (signsOf x) ρ b = .ok (gs.map D.int) b' ∧ gs.length = x.length ∧ ∀ g ∈ gs, 0 ≤ g ∧ g < n := by
  obtain ⟨ys, b', h2, h3, h4⟩ := lc_some (i := 8) (F := (eCall (F__law_draw) (aCons (eV 0) (aCons (eV 4) aNil)))) (fun y => ∃ g : Int, y = .int g ∧ (0 ≤ g ∧ g < n)) (signsOf x) ρ b (fun d hd b => by
    obtain ⟨g, b', h5, h6, h7⟩ := pdraw_ok b (m := n) (by omega) (by omega)
    refine ⟨.int g, b', ?_, g, rfl, h6, h7⟩
    simp [e0, e4, h5])
  obtain ⟨gs, rfl, hg⟩ := ints_of ys h4
  refine ⟨gs, b', h2, ?_, hg⟩
  rw [List.length_map] at h3
  rw [h3]
  simp [signsOf, Str.length]
theorem made_ok (M : Addr) (b : Bag) {x : Str} {rs : List Row} (hx : x ∈ sgs) (hr : RowsOk x.length rs) : F__law_made M [toolD x rs] b = .ok (machD M x rs) b := by
  have h := make_ok M b hx hr
  unfold F__law_made G__law_made
  unfold machD toolD
  have hrow : rowsD rs = .tup (rs.map rowD) := rfl
  rw [hrow] at h ⊢
  simp [eMake, h]
/-- a law that goes through its purses by a loop -/
theorem law_for (Q : DFn) (c : Nat) (hc : 2 ≤ c) (hc2 : c ≤ 1000) (hQ : ∀ x y : Int, ∃ b', Q [.bag] ⟨x, y, 0⟩ = .ok (.bl true) b') (ns : List Int) (h : ns.length ≤ 63) :
    ∃ b', runD 2 1 (sSeq (sFor (aRng (aCons (eB maxF (aCons (eC (.int 2)) (aCons (eB minF (aCons (eB lenF (aCons (eV 0) aNil)) (aCons (eC (.int c)) aNil))) aNil))) aNil)) (gN 1) (sIf (bNot (bB (eBag Q F__law_purse (aCons (eV 0) (aCons (eV 1) aNil))))) (sRet (eC (.bl false))) sNil)) (sRet (eC (.bl true)))) [.fl (ns.map D.int)] ⟨0, 0, 0⟩ = .ok (.bl true) b' := by
  obtain ⟨n, hn, hn5⟩ : ∃ n : Nat, (if 2 < (if c < ns.length then (c : Int) else (ns.length : Int)) then (if c < ns.length then (c : Int) else (ns.length : Int)) else 2) = (n : Int) ∧ n ≤ c := by
    by_cases h1 : c < ns.length
    · rw [if_pos h1]
      by_cases h2 : (2 : Int) < c
      · exact ⟨c, by rw [if_pos h2], by omega⟩
      · exact ⟨2, by rw [if_neg h2]; rfl, by omega⟩
    · rw [if_neg h1]
      by_cases h2 : (2 : Int) < ns.length
      · exact ⟨ns.length, by rw [if_pos h2], by omega⟩
      · exact ⟨2, by rw [if_neg h2]; rfl, by omega⟩
  obtain ⟨ρ', b', e1, o1, e2⟩ := loop_ind (g := gN 1) (B := (sIf (bNot (bB (eBag Q F__law_purse (aCons (eV 0) (aCons (eV 1) aNil))))) (sRet (eC (.bl false))) sNil))
    (fun i ρ b => ∃ o1 : Option D, ρ = [some (.sh (.fl (ns.map D.int))), o1.map SD.sh])
    (rangeOf (n : Int)) 0 (fun i d hd ρ b ⟨o1, h1⟩ => by
      subst h1
      obtain ⟨rfl, hi⟩ := range_get hd
      obtain ⟨x, y, h5⟩ := purse_ok ns h i b
      obtain ⟨b2, h6⟩ := hQ x y
      refine ⟨_, [some (.sh (.fl (ns.map D.int))), some (.sh (.int i))], b, rfl, ?_, some (.int i), rfl⟩
      simp [eBag, h5, h6]) [some (.sh (.fl (ns.map D.int))), none] ⟨0, 0, 0⟩ ⟨none, rfl⟩
  subst e2
  have hn9 : (n : Int) ≤ 1000000 := by omega
  refine ⟨b', ?_⟩
  have hl : ns.length ≤ 100000 := by omega
  have hh : aRng (aCons (eB maxF (aCons (eC (.int 2)) (aCons (eB minF (aCons (eB lenF (aCons (eV 0) aNil)) (aCons (eC (.int c)) aNil))) aNil))) aNil) [some (.sh (.fl (ns.map D.int))), none] ⟨0, 0, 0⟩ = .ok (rangeOf (n : Int)) ⟨0, 0, 0⟩ := by
    simp [minF, maxF, aRng]
    rw [hn]
    simp [hn9]
  have hs : startE 2 [.fl (ns.map D.int)] = [some (.sh (.fl (ns.map D.int))), none] := rfl
  simp only [runD, List.length_singleton, if_true, hs, sSeq, sFor, hh, st_ok_, e1, seq_nx_]
  rfl
end DL

set_option maxHeartbeats 1000000

set_option maxHeartbeats 1000000
namespace DL
open PySem PySem.Spec PyProof.Rows L2
theorem idx_pos {x : Str} (hx : x ∈ sgs) {i c : Nat} (h : x.cps.toList[i]? = some c) : idx x c = i := by
  have key : ∀ x ∈ sgs, ∀ i ∈ List.range 3, (x.cps.toList[i]?).all (fun c => decide (idx x c = i)) = true := by decide +kernel
  have hl := (List.getElem?_eq_some_iff.mp h).1
  obtain ⟨_, l2⟩ := sg_len hx
  rw [str_len] at hl
  have := key x hx i (List.mem_range.mpr (by omega))
  rw [h] at this
  simpa using this
structure Wk (x : Str) (rs : List Row) (ins : List Int) (s k : Int) (w : Str) : Prop where
  wd : Wd x w
  to : walkE x rs s w.cps.toList = k
  by_ : ∀ j ∈ walkL x rs s w.cps.toList, j ∈ ins
theorem Wk.app {x : Str} {rs : List Row} {ins : List Int} {s k m : Int} {u w : Str} (h : Wk x rs ins s k u) (h' : Wk x rs ins k m w) : Wk x rs ins s m (u ++ w) := by
  refine ⟨app_wd h.wd h'.wd, ?_, fun j hj => ?_⟩
  · rw [app_list, walkE_app, h.to, h'.to]
  · rw [app_list, walkL_app, h.to] at hj
    rcases List.mem_append.mp hj with hj | hj
    · exact h.by_ j hj
    · exact h'.by_ j hj
end DL

set_option maxHeartbeats 1000000

set_option maxHeartbeats 1000000

set_option maxHeartbeats 1000000
namespace DL
open PySem PySem.Spec PyProof.Rows L2
theorem cps_fold (f : Nat → List Nat) : ∀ (l : List Nat) (acc : Array Nat), (l.foldl (fun out c => out ++ (f c).toArray) acc).toList = acc.toList ++ l.flatMap f
  | [], acc => by simp
  | c :: l, acc => by
    rw [List.foldl_cons, cps_fold f l]
    simp
theorem rch_ok {x : Str} (hx : x ∈ sgs) : ∀ c ∈ x.cps.toList, Builtin.Str.reprChar 39 c = [c] ∧ c ≠ 39 := by
  have : ∀ x ∈ sgs, ∀ c ∈ x.cps.toList, Builtin.Str.reprChar 39 c = [c] ∧ c ≠ 39 := by decide +kernel
  exact this x hx
theorem rep_word {x w : Str} (hx : x ∈ sgs) (h : Wd x w) : (reprText w).cps.toList = 39 :: (w.cps.toList ++ [39]) := by
  have hq : reprQuote w = 39 := by
    unfold reprQuote
    have : w.cps.contains 39 = false := by
      rw [← Array.contains_toList, Bool.eq_false_iff]
      intro hc
      have := List.contains_iff_mem.mp hc
      exact (rch_ok hx 39 (h 39 this)).2 rfl
    rw [this]
    rfl
  unfold reprText
  rw [hq]
  show ((w.cps.foldl (fun out c => out ++ (Builtin.Str.reprChar 39 c).toArray) #[39]).push 39).toList = _
  rw [Array.toList_push, ← Array.foldl_toList, cps_fold]
  have e : w.cps.toList.flatMap (Builtin.Str.reprChar 39) = w.cps.toList := by
    have hall : ∀ c ∈ w.cps.toList, Builtin.Str.reprChar 39 c = [c] := fun c hc => (rch_ok hx c (h c hc)).1
    generalize w.cps.toList = l at hall
    induction l with
    | nil => rfl
    | cons c l ih =>
      rw [List.flatMap_cons, hall c List.mem_cons_self, ih fun d hd => hall d (List.mem_cons_of_mem _ hd)]
      rfl
  rw [e]
  rfl
theorem strOk_app {a b : Str} (h : PyData.strOk a = true) (h' : PyData.strOk b = true) : PyData.strOk (a ++ b) = true := by
  unfold PyData.strOk at *
  rw [← Array.all_toList, List.all_eq_true] at *
  intro c hc
  rw [app_list] at hc
  rcases List.mem_append.mp hc with hc | hc
  · exact h c hc
  · exact h' c hc
theorem strOk_rep {x w : Str} (hx : x ∈ sgs) (h : Wd x w) : PyData.strOk (reprText w) = true := by
  unfold PyData.strOk
  rw [← Array.all_toList, List.all_eq_true, rep_word hx h]
  intro c hc
  rcases List.mem_cons.mp hc with rfl | hc
  · decide
  · rcases List.mem_append.mp hc with hc | hc
    · simpa using sg_cp hx c (h c hc)
    · have : c = 39 := by simpa using hc
      subst this
      decide
theorem len_rep {x w : Str} (hx : x ∈ sgs) (h : Wd x w) : (reprText w).length = w.length + 2 := by
  rw [← str_len, rep_word hx h]
  simp [Str.length]
end DL

set_option maxHeartbeats 1000000
namespace DL
open PySem PySem.Spec PyProof.Rows L2
def wL (x : Str) (sc : Int → List Int) : Int → List Nat → List Int
  | _, [] => []
  | s, c :: cs => gI sc s (idx x c) :: wL x sc (gI sc s (idx x c)) cs
theorem wE_M (x : Str) (rs : List Row) : ∀ (cs : List Nat) (s : Int), wE x (scM rs) s cs = walkE x rs s cs
  | [], _ => rfl
  | c :: cs, s => by
    have : gI (scM rs) s (idx x c) = goal rs s (idx x c) := by rw [goal_at]; rfl
    unfold wE walkE
    rw [this, wE_M x rs cs]
theorem wE_app (x : Str) (sc : Int → List Int) : ∀ (u v : List Nat) (s : Int), wE x sc s (u ++ v) = wE x sc (wE x sc s u) v
  | [], _, _ => rfl
  | c :: u, v, s => wE_app x sc u v _
theorem wL_app (x : Str) (sc : Int → List Int) : ∀ (u v : List Nat) (s : Int), wL x sc s (u ++ v) = wL x sc s u ++ wL x sc (wE x sc s u) v
  | [], _, _ => rfl
  | c :: u, v, s => congrArg (_ :: ·) (wL_app x sc u v _)
theorem wE_mem (x : Str) (sc : Int → List Int) : ∀ (cs : List Nat) (s : Int), cs ≠ [] → wE x sc s cs ∈ wL x sc s cs
  | [], _, h => absurd rfl h
  | [c], s, _ => List.mem_cons_self
  | c :: d :: cs, s, _ => List.mem_cons_of_mem _ (wE_mem x sc (d :: cs) _ (by simp))
structure WkG (x : Str) (sc : Int → List Int) (ins : List Int) (s k : Int) (w : Str) : Prop where
  wd : Wd x w
  to : wE x sc s w.cps.toList = k
  by_ : ∀ j ∈ wL x sc s w.cps.toList, j ∈ ins
theorem WkG.app {x : Str} {sc : Int → List Int} {ins : List Int} {s k m : Int} {u w : Str} (h : WkG x sc ins s k u) (h' : WkG x sc ins k m w) : WkG x sc ins s m (u ++ w) := by
  refine ⟨app_wd h.wd h'.wd, ?_, fun j hj => ?_⟩
  · rw [app_list, wE_app, h.to, h'.to]
  · rw [app_list, wL_app, h.to] at hj
    rcases List.mem_append.mp hj with hj | hj
    · exact h.by_ j hj
    · exact h'.by_ j hj
end DL

set_option maxHeartbeats 1000000

set_option maxHeartbeats 1000000

set_option maxHeartbeats 1000000
namespace DL
open PySem PySem.Spec PyProof.Rows L2
theorem flat_get {α β γ : Type} (f : α → β → γ) (ys : List β) : ∀ (xs : List α) (i j : Nat), j < ys.length → (xs.flatMap fun x => ys.map (f x))[i * ys.length + j]? = (xs[i]?).bind fun x => (ys[j]?).map (f x)
  | [], i, j, _ => by simp
  | x :: xs, 0, j, hj => by
    rw [Nat.zero_mul, Nat.zero_add, List.flatMap_cons, List.getElem?_append_left (by simpa using hj)]
    simp
  | x :: xs, i + 1, j, hj => by
    rw [List.flatMap_cons, List.getElem?_append_right (by rw [List.length_map, Nat.add_mul]; omega), List.length_map]
    have : (i + 1) * ys.length + j - ys.length = i * ys.length + j := by rw [Nat.add_mul]; omega
    rw [this, flat_get f ys xs i j hj]
    simp
theorem flat_len {α β γ : Type} (f : α → β → γ) (ys : List β) : ∀ (xs : List α), (xs.flatMap fun x => ys.map (f x)).length = xs.length * ys.length
  | [] => by simp
  | x :: xs => by
    rw [List.flatMap_cons, List.length_append, flat_len f ys xs, List.length_map, List.length_cons, Nat.add_mul]
    omega
def zipP (m : Nat) (as bs : List Int) : List Int := as.zipWith (fun lo hi => lo * (m : Int) + hi) bs
def pk (m : Nat) (i j : Int) : Int := i * (m : Int) + j
theorem pk_div {m : Nat} {i j : Int} (h0 : 0 ≤ j) (h1 : j < m) : pk m i j / m = i := by
  unfold pk
  rw [Int.add_comm, Int.add_mul_ediv_right _ _ (by omega), Int.ediv_eq_zero_of_lt h0 h1, Int.zero_add]
theorem pk_mod {m : Nat} {i j : Int} (h0 : 0 ≤ j) (h1 : j < m) : pk m i j % m = j := by
  unfold pk
  rw [Int.add_comm, Int.add_mul_emod_self_right, Int.emod_eq_of_lt h0 h1]
def scP (rs1 rs2 : List Row) (k : Int) : List Int := zipP rs2.length (scM rs1 (k / rs2.length)) (scM rs2 (k % rs2.length))
def arrP (rs1 rs2 : List Row) : List D := rs1.flatMap fun r => rs2.map fun t => .lst ((zipP rs2.length r.2 t.2).map D.int)
def col1 (rs1 rs2 : List Row) : List Int := rs1.flatMap fun r => rs2.map fun _ => r.1
def col2 (rs1 rs2 : List Row) : List Int := rs1.flatMap fun _ => rs2.map fun t => t.1
theorem scP_pk {rs1 rs2 : List Row} {i j : Int} (h0 : 0 ≤ j) (h1 : j < rs2.length) : scP rs1 rs2 (pk rs2.length i j) = zipP rs2.length (scM rs1 i) (scM rs2 j) := by
  unfold scP
  rw [pk_div h0 h1, pk_mod h0 h1]
/-- each number of the pair graph is a pair -/
theorem is_pk {n m : Nat} {k : Int} (h0 : 0 ≤ k) (h1 : k < (n * m : Nat)) : ∃ i j : Int, 0 ≤ i ∧ i < n ∧ 0 ≤ j ∧ j < m ∧ k = pk m i j := by
  have hm : 0 < m := by
    rcases Nat.eq_zero_or_pos m with h | h
    · subst h; simp at h1; omega
    · exact h
  have hm' : (0 : Int) < m := by omega
  refine ⟨k / m, k % m, Int.ediv_nonneg h0 (by omega), ?_, Int.emod_nonneg _ (by omega), Int.emod_lt_of_pos _ hm', ?_⟩
  · rw [Int.ediv_lt_iff_lt_mul hm']
    rw [Int.natCast_mul] at h1
    exact h1
  · unfold pk
    have := Int.mul_ediv_add_emod k m
    rw [Int.mul_comm] at this
    exact this.symm
theorem pk_lt {n m : Nat} {i j : Int} (i0 : 0 ≤ i) (i1 : i < n) (j0 : 0 ≤ j) (j1 : j < m) : 0 ≤ pk m i j ∧ pk m i j < (n * m : Nat) := by
  unfold pk
  obtain ⟨a, rfl⟩ : ∃ a : Nat, i = a := ⟨i.toNat, by omega⟩
  obtain ⟨c, rfl⟩ : ∃ c : Nat, j = c := ⟨j.toNat, by omega⟩
  have h1 : (a + 1) * m ≤ n * m := Nat.mul_le_mul_right _ (by omega)
  rw [Nat.add_mul, Nat.one_mul] at h1
  have e : (a : Int) * (m : Int) + c = ((a * m + c : Nat) : Int) := by rw [Int.natCast_add, Int.natCast_mul]
  rw [e]
  omega
section
variable {k : Nat} {rs1 rs2 : List Row} (h1 : RowsOk k rs1) (h2 : RowsOk k rs2) (hk : k ≤ 1000)
include h1 h2 hk
theorem arrP_at {i j : Int} (i0 : 0 ≤ i) (i1 : i < rs1.length) (j0 : 0 ≤ j) (j1 : j < rs2.length) : atI (arrP rs1 rs2) (pk rs2.length i j) = some (.lst ((scP rs1 rs2 (pk rs2.length i j)).map D.int)) := by
  rw [scP_pk j0 j1]
  obtain ⟨a, rfl⟩ : ∃ a : Nat, i = a := ⟨i.toNat, by omega⟩
  obtain ⟨c, rfl⟩ : ∃ c : Nat, j = c := ⟨j.toNat, by omega⟩
  have e : pk rs2.length (a : Int) (c : Int) = ((a * rs2.length + c : Nat) : Int) := by unfold pk; rw [Int.natCast_add, Int.natCast_mul]
  rw [e]
  refine atI_nat ?_
  unfold arrP
  rw [flat_get (fun (r t : Row) => D.lst ((zipP rs2.length r.2 t.2).map D.int)) rs2 rs1 a c (by omega), List.getElem?_eq_getElem (by omega : a < rs1.length), List.getElem?_eq_getElem (by omega : c < rs2.length)]
  unfold scM rowAt
  rw [Int.toNat_natCast, Int.toNat_natCast, List.getElem?_eq_getElem (by omega : a < rs1.length), List.getElem?_eq_getElem (by omega : c < rs2.length)]
  rfl
theorem gr_P : Gr (arrP rs1 rs2) (rs1.length * rs2.length) (scP rs1 rs2) := by
  have n1 := h1.n1
  have n2 := h2.n1
  have hmul : rs1.length * rs2.length ≤ 6 * 6 := Nat.mul_le_mul n1 n2
  refine ⟨flat_len _ _ _, fun y y0 y1 => ?_, fun y y0 y1 g hg => ?_, fun y y0 y1 => ?_, by omega⟩
  · obtain ⟨i, j, i0, i1, j0, j1, rfl⟩ := is_pk y0 y1
    exact ⟨_, arrP_at h1 h2 hk i0 i1 j0 j1, .inr rfl⟩
  · obtain ⟨i, j, i0, i1, j0, j1, rfl⟩ := is_pk y0 y1
    rw [scP_pk j0 j1] at hg
    unfold zipP at hg
    obtain ⟨t, ht, e⟩ := List.mem_iff_getElem.mp hg
    rw [List.length_zipWith] at ht
    rw [List.getElem_zipWith] at e
    have g1 := (gr_M h1 hk).go i i0 i1 _ (List.getElem_mem (by omega : t < (scM rs1 i).length))
    have g2 := (gr_M h2 hk).go j j0 j1 _ (List.getElem_mem (by omega : t < (scM rs2 j).length))
    rw [← e]
    exact pk_lt g1.1 g1.2 g2.1 g2.2
  · obtain ⟨i, j, i0, i1, j0, j1, rfl⟩ := is_pk y0 y1
    rw [scP_pk j0 j1]
    unfold zipP
    rw [List.length_zipWith, row_len h1 i0 i1]
    omega
theorem scP_len : ∀ y : Int, 0 ≤ y → y < (rs1.length * rs2.length : Nat) → (scP rs1 rs2 y).length = k := fun y y0 y1 => by
  obtain ⟨i, j, i0, i1, j0, j1, rfl⟩ := is_pk y0 y1
  rw [scP_pk j0 j1]
  unfold zipP
  rw [List.length_zipWith, row_len h1 i0 i1, row_len h2 j0 j1, Nat.min_self]
theorem col1_at {i j : Int} (i0 : 0 ≤ i) (i1 : i < rs1.length) (j0 : 0 ≤ j) (j1 : j < rs2.length) : colL (col1 rs1 rs2) (pk rs2.length i j) = colour rs1 i := by
  obtain ⟨a, rfl⟩ : ∃ a : Nat, i = a := ⟨i.toNat, by omega⟩
  obtain ⟨c, rfl⟩ : ∃ c : Nat, j = c := ⟨j.toNat, by omega⟩
  have e : pk rs2.length (a : Int) (c : Int) = ((a * rs2.length + c : Nat) : Int) := by unfold pk; rw [Int.natCast_add, Int.natCast_mul]
  unfold colL colour col1
  rw [e, Int.toNat_natCast, Int.toNat_natCast, flat_get (fun (r t : Row) => r.1) rs2 rs1 a c (by omega), List.getElem?_eq_getElem (by omega : a < rs1.length), List.getElem?_eq_getElem (by omega : c < rs2.length)]
  rfl
theorem col2_at {i j : Int} (i0 : 0 ≤ i) (i1 : i < rs1.length) (j0 : 0 ≤ j) (j1 : j < rs2.length) : colL (col2 rs1 rs2) (pk rs2.length i j) = colour rs2 j := by
  obtain ⟨a, rfl⟩ : ∃ a : Nat, i = a := ⟨i.toNat, by omega⟩
  obtain ⟨c, rfl⟩ : ∃ c : Nat, j = c := ⟨j.toNat, by omega⟩
  have e : pk rs2.length (a : Int) (c : Int) = ((a * rs2.length + c : Nat) : Int) := by unfold pk; rw [Int.natCast_add, Int.natCast_mul]
  unfold colL colour col2
  rw [e, Int.toNat_natCast, Int.toNat_natCast, flat_get (fun (r t : Row) => t.1) rs2 rs1 a c (by omega), List.getElem?_eq_getElem (by omega : a < rs1.length), List.getElem?_eq_getElem (by omega : c < rs2.length)]
  rfl
theorem gI_P {i j : Int} (i0 : 0 ≤ i) (i1 : i < rs1.length) (j0 : 0 ≤ j) (j1 : j < rs2.length) {t : Nat} (ht : t < k) : gI (scP rs1 rs2) (pk rs2.length i j) t = pk rs2.length (goal rs1 i t) (goal rs2 j t) := by
  have l1 := row_len h1 i0 i1
  have l2 := row_len h2 j0 j1
  unfold gI
  rw [scP_pk j0 j1, goal_at, goal_at]
  unfold zipP pk
  have e1 : (rowAt rs1 i).2[t]? = some ((scM rs1 i)[t]'(by omega)) := List.getElem?_eq_getElem (by show t < (scM rs1 i).length; omega)
  have e2 : (rowAt rs2 j).2[t]? = some ((scM rs2 j)[t]'(by omega)) := List.getElem?_eq_getElem (by show t < (scM rs2 j).length; omega)
  have e1' : (scM rs1 i)[t]? = some ((scM rs1 i)[t]'(by omega)) := e1
  have e2' : (scM rs2 j)[t]? = some ((scM rs2 j)[t]'(by omega)) := e2
  rw [List.getElem?_zipWith, e1', e2', e1, e2]
  rfl
end
section
variable {x : Str} (hx : x ∈ sgs) {rs1 rs2 : List Row} (h1 : RowsOk x.length rs1) (h2 : RowsOk x.length rs2)
include hx h1 h2
theorem walk_P : ∀ (w : List Nat) {i j : Int}, (∀ c ∈ w, c ∈ x.cps.toList) → 0 ≤ i → i < rs1.length → 0 ≤ j → j < rs2.length →
    wE x (scP rs1 rs2) (pk rs2.length i j) w = pk rs2.length (walkE x rs1 i w) (walkE x rs2 j w) ∧
    (∀ y, y ∈ wL x (scP rs1 rs2) (pk rs2.length i j) w → ∃ a c : Int, a ∈ walkL x rs1 i w ∧ c ∈ walkL x rs2 j w ∧ 0 ≤ a ∧ a < rs1.length ∧ 0 ≤ c ∧ c < rs2.length ∧ y = pk rs2.length a c) ∧
    (∀ a, a ∈ walkL x rs1 i w → ∃ c : Int, 0 ≤ a ∧ a < rs1.length ∧ 0 ≤ c ∧ c < rs2.length ∧ pk rs2.length a c ∈ wL x (scP rs1 rs2) (pk rs2.length i j) w) ∧
    (∀ c, c ∈ walkL x rs2 j w → ∃ a : Int, 0 ≤ a ∧ a < rs1.length ∧ 0 ≤ c ∧ c < rs2.length ∧ pk rs2.length a c ∈ wL x (scP rs1 rs2) (pk rs2.length i j) w)
  | [], i, j, _, _, _, _, _ => ⟨rfl, fun y h => (by cases h), fun a h => (by cases h), fun a h => (by cases h)⟩
  | c :: w, i, j, hw, i0, i1, j0, j1 => by
    obtain ⟨l1, l2⟩ := sg_len hx
    have hc := (occ_ok hx (hw c List.mem_cons_self)).2
    obtain ⟨_, _, _, g0, g1⟩ := goal_ok h1 i0 i1 hc
    obtain ⟨_, _, _, m0, m1⟩ := goal_ok h2 j0 j1 hc
    have e := gI_P h1 h2 (by omega) i0 i1 j0 j1 hc
    obtain ⟨r1, r2, r3, r4⟩ := walk_P w (fun c hc => hw c (List.mem_cons_of_mem _ hc)) g0 g1 m0 m1
    unfold wE wL walkE walkL
    rw [e]
    refine ⟨r1, fun y hy => ?_, fun a ha => ?_, fun a ha => ?_⟩
    · rcases List.mem_cons.mp hy with rfl | hy
      · exact ⟨_, _, List.mem_cons_self, List.mem_cons_self, g0, g1, m0, m1, rfl⟩
      · obtain ⟨a, d, q1, q2, q3⟩ := r2 y hy
        exact ⟨a, d, List.mem_cons_of_mem _ q1, List.mem_cons_of_mem _ q2, q3⟩
    · rcases List.mem_cons.mp ha with rfl | ha
      · exact ⟨goal rs2 j (idx x c), g0, g1, m0, m1, List.mem_cons_self⟩
      · obtain ⟨d, q1, q2, q3, q4, q5⟩ := r3 a ha
        exact ⟨d, q1, q2, q3, q4, List.mem_cons_of_mem _ q5⟩
    · rcases List.mem_cons.mp ha with rfl | ha
      · exact ⟨goal rs1 i (idx x c), g0, g1, m0, m1, List.mem_cons_self⟩
      · obtain ⟨d, q1, q2, q3, q4, q5⟩ := r4 a ha
        exact ⟨d, q1, q2, q3, q4, List.mem_cons_of_mem _ q5⟩
end
end DL

set_option maxHeartbeats 1000000
namespace DL
open PySem PySem.Spec PyProof.Rows L2
theorem cycSC {sc : Int → List Int} (q : Nat → Int) (hst : ∀ i, q (i + 1) ∈ sc (q i)) {a b : Nat} (hab : a < b) (e : q a = q b) : SC sc (fun y => ∃ t, t < b - a ∧ y = q (a + t)) := by
  have hS : ∀ j, a ≤ j → j ≤ b → ∃ t, t < b - a ∧ q j = q (a + t) := fun j h1 h2 => by
    by_cases hj : j = b
    · exact ⟨0, by omega, by rw [hj, ← e]; rfl⟩
    · exact ⟨j - a, by omega, by rw [show a + (j - a) = j by omega]⟩
  let S : Int → Prop := fun y => ∃ t, t < b - a ∧ y = q (a + t)
  have hp : ∀ (d i : Nat), a ≤ i → i + d + 1 ≤ b → Pth sc S (q i) (q (i + d + 1)) := fun d => by
    induction d with
    | zero => exact fun i h1 h2 => .one (hst i) (hS (i + 1) (by omega) (by omega))
    | succ d ih =>
      intro i h1 h2
      have := ih (i + 1) (by omega) (by omega)
      rw [show i + 1 + d + 1 = i + (d + 1) + 1 by omega] at this
      exact .step (hst i) (hS (i + 1) (by omega) (by omega)) this
  rintro x y ⟨i, hi, rfl⟩ ⟨j, hj, rfl⟩
  have h1 := hp (b - (a + i) - 1) (a + i) (by omega) (by omega)
  rw [show a + i + (b - (a + i) - 1) + 1 = b by omega, ← e] at h1
  by_cases hj0 : j = 0
  · subst hj0; exact h1
  · have h2 := hp (j - 1) a (by omega) (by omega)
    rw [show a + (j - 1) + 1 = a + j by omega] at h2
    exact h1.trans h2
theorem far_of {f : Nat → Int} {J P : Nat} (hper : ∀ i, J ≤ i → f (i + P) = f i) : ∀ m i, J ≤ i → f (i + m * P) = f i := fun m i hi => by
  induction m with
  | zero => rw [Nat.zero_mul, Nat.add_zero]
  | succ m ih => rw [Nat.add_mul, Nat.one_mul, ← Nat.add_assoc, hper _ (by omega), ih]
theorem lim_round {f : Nat → Int} {J P : Nat} (hP : 0 < P) (hper : ∀ i, J ≤ i → f (i + P) = f i) {T : Int} (h : Lim f T) : (∃ t, t < P ∧ f (J + t) = T) ∧ ∀ t, t < P → f (J + t) ≤ T := by
  obtain ⟨⟨I, hle⟩, hof⟩ := h
  have far := far_of hper
  refine ⟨?_, fun t ht => ?_⟩
  · obtain ⟨i, hi, hc⟩ := hof J
    refine ⟨(i - J) % P, Nat.mod_lt _ hP, ?_⟩
    have h1 := far ((i - J) / P) (J + (i - J) % P) (by omega)
    have h2 := Nat.div_add_mod (i - J) P
    rw [Nat.mul_comm] at h2
    rw [show J + (i - J) % P + (i - J) / P * P = i by omega] at h1
    rw [← h1]; exact hc
  · rw [← far (I + 1) (J + t) (by omega)]
    refine hle _ ?_
    have : (I + 1) * 1 ≤ (I + 1) * P := Nat.mul_le_mul_left _ hP
    omega
section
variable {x : Str} (hx : x ∈ sgs) {rs1 rs2 : List Row} (h1 : RowsOk x.length rs1) (h2 : RowsOk x.length rs2)
include hx h1 h2
/-- what a lasso comes to again and again in both -/
theorem inf_P {u v : List Nat} (hu : ∀ c ∈ u, c ∈ x.cps.toList) (hv : ∀ c ∈ v, c ∈ x.cps.toList) (hv0 : v ≠ []) :
    ∃ S : Int → Prop, (∃ a, S a) ∧ SC (scP rs1 rs2) S ∧ (∀ a, S a → RchG (scP rs1 rs2) (pk rs2.length (walkE x rs1 0 u) (walkE x rs2 0 u)) a) ∧ (∀ a, S a → RchG (scP rs1 rs2) 0 a) ∧ TopIs (colL (col1 rs1 rs2)) S (topOf x rs1 u v) ∧ TopIs (colL (col2 rs1 rs2)) S (topOf x rs2 u v) := by
  obtain ⟨l1, l2⟩ := sg_len hx
  have hk : x.length ≤ 1000 := by omega
  obtain ⟨in1, st1, be1, J1, P1, j1, p1, per1⟩ := rn_per hx h1 hu hv hv0
  obtain ⟨in2, st2, be2, J2, P2, j2, p2, per2⟩ := rn_per hx h2 hu hv hv0
  have li1 := top_lim hx h1 hu hv hv0
  have li2 := top_lim hx h2 hu hv hv0
  have hc : ∀ i, ltr u v i ∈ x.cps.toList := fun i => by
    by_cases h : i < u.length
    · rw [ltr_u h]
      apply hu
      simp [List.getD_eq_getElem?_getD, List.getElem?_eq_getElem h]
    · obtain ⟨j, rfl⟩ : ∃ j, i = u.length + j := ⟨i - u.length, by omega⟩
      rw [ltr_v]
      apply hv
      have : j % v.length < v.length := Nat.mod_lt _ (List.length_pos_iff.mpr hv0)
      simp [List.getD_eq_getElem?_getD, List.getElem?_eq_getElem this]
  have stP : ∀ i, pk rs2.length (rn x rs1 (ltr u v) (i + 1)) (rn x rs2 (ltr u v) (i + 1)) ∈ scP rs1 rs2 (pk rs2.length (rn x rs1 (ltr u v) i) (rn x rs2 (ltr u v) i)) := fun i => by
    have hi := (occ_ok hx (hc i)).2
    have e := gI_P h1 h2 hk (in1 i).1 (in1 i).2 (in2 i).1 (in2 i).2 hi
    show pk rs2.length (goal rs1 (rn x rs1 (ltr u v) i) (idx x (ltr u v i))) (goal rs2 (rn x rs2 (ltr u v) i) (idx x (ltr u v i))) ∈ _
    rw [← e]
    have hl := scP_len h1 h2 hk (pk rs2.length (rn x rs1 (ltr u v) i) (rn x rs2 (ltr u v) i)) (pk_lt (in1 i).1 (in1 i).2 (in2 i).1 (in2 i).2).1 (pk_lt (in1 i).1 (in1 i).2 (in2 i).1 (in2 i).2).2
    unfold gI
    rw [List.getElem?_eq_getElem (by omega : idx x (ltr u v i) < _)]
    exact List.getElem_mem _
  have far1 := far_of per1
  have far2 := far_of per2
  generalize hr1 : rn x rs1 (ltr u v) = r1 at *
  generalize hr2 : rn x rs2 (ltr u v) = r2 at *
  have z1 : r1 0 = 0 := by rw [← hr1]; rfl
  have z2 : r2 0 = 0 := by rw [← hr2]; rfl
  have perP1 : ∀ i, J1 + J2 ≤ i → r1 (i + P1 * P2) = r1 i := fun i hi => by rw [Nat.mul_comm]; exact far1 P2 i (by omega)
  have perP2 : ∀ i, J1 + J2 ≤ i → r2 (i + P1 * P2) = r2 i := fun i hi => far2 P1 i (by omega)
  have hP : 0 < P1 * P2 := Nat.mul_pos p1 p2
  let q : Nat → Int := fun i => pk rs2.length (r1 i) (r2 i)
  have hq0 : q 0 = 0 := by show pk rs2.length (r1 0) (r2 0) = 0; rw [z1, z2]; unfold pk; simp
  have e : q (J1 + J2) = q (J1 + J2 + P1 * P2) := by
    show pk _ _ _ = pk _ _ _
    rw [perP1 _ (Nat.le_refl _), perP2 _ (Nat.le_refl _)]
  have hsc := cycSC (sc := scP rs1 rs2) q stP (a := J1 + J2) (b := J1 + J2 + P1 * P2) (by omega) e
  have hb : J1 + J2 + P1 * P2 - (J1 + J2) = P1 * P2 := by omega
  rw [hb] at hsc
  have way : ∀ (a d : Nat), RchG (scP rs1 rs2) (q a) (q (a + d)) := fun a d => by
    induction d with
    | zero => exact .inl rfl
    | succ d ih =>
      refine .inr ?_
      rcases ih with h | h
      · have := stP (a + d)
        show Pth _ _ _ _
        refine .one (b := q (a + (d + 1))) ?_ trivial
        rw [← h]; exact this
      · exact h.snoc (stP (a + d)) trivial
  refine ⟨fun y => ∃ t, t < P1 * P2 ∧ y = q (J1 + J2 + t), ⟨q (J1 + J2), 0, hP, rfl⟩, hsc, ?_, ?_, ?_, ?_⟩
  · rintro a ⟨t, ht, rfl⟩
    have := way u.length (J1 + J2 + t - u.length)
    rw [show u.length + (J1 + J2 + t - u.length) = J1 + J2 + t by omega] at this
    have e2 : q u.length = pk rs2.length (walkE x rs1 0 u) (walkE x rs2 0 u) := by show pk _ (r1 u.length) (r2 u.length) = _; rw [be1, be2]
    rw [e2] at this
    exact this
  · rintro a ⟨t, ht, rfl⟩
    have := way 0 (J1 + J2 + t)
    rw [hq0, Nat.zero_add] at this
    exact this
  · obtain ⟨⟨t, t1, t2⟩, t3⟩ := lim_round hP (f := fun i => colour rs1 (r1 i)) (J := J1 + J2) (fun i hi => by show colour rs1 (r1 (i + P1 * P2)) = _; rw [perP1 i hi]) li1
    refine ⟨⟨q (J1 + J2 + t), ⟨t, t1, rfl⟩, ?_⟩, ?_⟩
    · exact (col1_at h1 h2 hk (in1 _).1 (in1 _).2 (in2 _).1 (in2 _).2).trans t2
    · rintro a ⟨t, ht, rfl⟩
      show colL (col1 rs1 rs2) (pk rs2.length (r1 (J1 + J2 + t)) (r2 (J1 + J2 + t))) ≤ _
      rw [col1_at h1 h2 hk (in1 _).1 (in1 _).2 (in2 _).1 (in2 _).2]
      exact t3 t ht
  · obtain ⟨⟨t, t1, t2⟩, t3⟩ := lim_round hP (f := fun i => colour rs2 (r2 i)) (J := J1 + J2) (fun i hi => by show colour rs2 (r2 (i + P1 * P2)) = _; rw [perP2 i hi]) li2
    refine ⟨⟨q (J1 + J2 + t), ⟨t, t1, rfl⟩, ?_⟩, ?_⟩
    · exact (col2_at h1 h2 hk (in1 _).1 (in1 _).2 (in2 _).1 (in2 _).2).trans t2
    · rintro a ⟨t, ht, rfl⟩
      show colL (col2 rs1 rs2) (pk rs2.length (r1 (J1 + J2 + t)) (r2 (J1 + J2 + t))) ≤ _
      rw [col2_at h1 h2 hk (in1 _).1 (in1 _).2 (in2 _).1 (in2 _).2]
      exact t3 t ht
end
end DL

set_option maxHeartbeats 1000000
namespace DL
open PySem PySem.Spec PyProof.Rows L2
theorem lc2_map {α β : Type} (ea : α → D) (eb : β → D) {i j : Nat} {vs1 : List Nat} {Fi1 : AF} {F : EF} {f : α → β → D} (es : List β) {ρ : Env} {b : Bag} : ∀ (ds : List α), (∀ d ∈ ds, Fi1 (unown (ρ.set i (some (.sh (ea d))))) b = .ok (es.map eb) b) →
    (∀ d ∈ ds, ∀ e ∈ es, F ((wipeE (unown (ρ.set i (some (.sh (ea d))))) vs1).set j (some (.sh (eb e)))) b = .ok (f d e) b) →
    lc2D (gN i) Fi1 vs1 (gN j) F (ds.map ea) ρ b = .ok (ds.flatMap fun d => es.map (f d)) b
  | [], _, _ => rfl
  | d :: ds, h1, h2 => by
    have ih := lc2_map ea eb es (i := i) (j := j) (vs1 := vs1) (Fi1 := Fi1) (F := F) (f := f) ds (fun d hd => h1 d (List.mem_cons_of_mem _ hd)) (fun d hd => h2 d (List.mem_cons_of_mem _ hd))
    have e1 := h1 d List.mem_cons_self
    have e2 : ∀ (xs : List β), (∀ e ∈ xs, e ∈ es) → lcD (gN j) bYes F (xs.map eb) (wipeE (unown (ρ.set i (some (.sh (ea d))))) vs1) b = .ok (xs.map (f d)) b := fun xs => by
      induction xs with
      | nil => intro _; rfl
      | cons e xs ih2 =>
        intro hxs
        have q := h2 d List.mem_cons_self e (hxs e List.mem_cons_self)
        have r := ih2 fun e he => hxs e (List.mem_cons_of_mem _ he)
        rw [List.map_cons]
        unfold lcD
        simp [q, r]
    rw [List.map_cons]
    unfold lc2D
    simp [e1, e2 es (fun _ h => h), ih]
theorem zip_lc (M : Addr) (x : Str) (rs1 rs2 : List Row) (n2 : rs2.length ≤ 6) (o2 o3 : Option SD) (b : Bag) : ∀ (rn tn : List Int), (∀ g ∈ rn, 0 ≤ g ∧ g < 6) → lcD (gT 2 (gsC (gN 5) (gsC (gN 6) gsN))) bYes (e2 addF (e2 mulF (eV 5) (eV 2)) (eV 6)) (zipOf (rn.map D.int) (tn.map D.int)) [some (.sh (machD M x rs1)), some (.sh (machD M x rs2)), some (.sh (.int (rs2.length : Int))), o2, o3, none, none] b = .ok ((zipP rs2.length rn tn).map D.int) b
  | [], tn, _ => rfl
  | a :: rn, [], _ => rfl
  | a :: rn, c :: tn, hg => by
    have ih := zip_lc M x rs1 rs2 n2 o2 o3 b rn tn (fun g hg' => hg g (List.mem_cons_of_mem _ hg'))
    have ha := hg a List.mem_cons_self
    have hcm : mulF (.int a) (.int (rs2.length : Int)) = some (.int (a * (rs2.length : Int))) := by
      have : (-(2 ^ 64) < a ∧ a < 2 ^ 64) ∨ (-(2 ^ 64) < (rs2.length : Int) ∧ (rs2.length : Int) < 2 ^ 64) := .inl ⟨by omega, by omega⟩
      simp only [mulF]
      rw [if_pos this]
    unfold zipOf zipP at ih ⊢
    simp only [List.map_cons, List.zipWith_cons_cons]
    unfold lcD
    simp only [lcD, gT, gsC, gN, gsN, List.length_cons, List.length_nil, if_true, Option.bind_some, bYes, noex_ok_, bind_ok_, List.set_cons_succ, List.set_cons_zero]
    simp only [e2, eV, List.getElem?_cons_succ, List.getElem?_cons_zero, bind_ok_, hcm, pureO_some_, addF, noex_ok_]
    rw [ih]
    rfl
section
variable (M : Addr) {x : Str} (hx : x ∈ sgs) {rs1 rs2 : List Row} (h1 : RowsOk x.length rs1) (h2 : RowsOk x.length rs2)
include hx h1 h2
theorem check_pair_ok (b : Bag) : F_check_pair M [machD M x rs1, machD M x rs2] b = .ok .non b := by
  have c1 := check_ok M x rs1 b
  have c2 := check_ok M x rs2 b
  have f1 := fld_l M x rs1
  have f2 := fld_l M x rs2
  have hne : neF (.str x) (.str x) = some (.bl false) := neF_str (by
    have : ∀ x ∈ sgs, PyData.strOk x = true := by decide +kernel
    exact this x hx)
  unfold F_check_pair G_check_pair
  unfold machD at c1 c2 f1 f2 ⊢
  simp [c1, c2, f1, f2, hne]
theorem pair_colours_ok (b : Bag) : F_pair_colours M [machD M x rs1, machD M x rs2] b = .ok (.tup [.lst ((col1 rs1 rs2).map D.int), .lst ((col2 rs1 rs2).map D.int)]) b := by
  have n1 := h1.n1
  have n2 := h2.n1
  have hmul : rs1.length * rs2.length ≤ 6 * 6 := Nat.mul_le_mul n1 n2
  have f1 := fld_s M x rs1
  have f2 := fld_s M x rs2
  have e1 := lc2_map (i := 3) (j := 4) (vs1 := [4]) (Fi1 := aAny (e1 (fldF M "_states") (eV 1))) (F := (eTup (aCons (eIx (eV 3) (eC (.int 0))) (aCons (eIx (eV 4) (eC (.int 0))) aNil)))) rowD rowD (f := fun r t => .tup [.int r.1, .int t.1]) rs2 (ρ := [some (.sh (machD M x rs1)), some (.sh (machD M x rs2)), none, none, none, none]) (b := b) rs1 (fun d hd => by
    unfold rowsD at f2
    unfold machD at f2 ⊢
    simp [f2]) (fun d hd e he => by
    unfold machD rowD
    simp)
  have hlen : (rs1.flatMap fun r => rs2.map fun t => D.tup [.int r.1, .int t.1]).length ≤ 100000 := by rw [flat_len (fun (r t : Row) => D.tup [.int r.1, .int t.1])]; omega
  have e2 := lc_map (g := gN 5) (F := eIx (eV 5) (eC (.int 0))) (f := fun d => match d with | .tup [y, _] => y | _ => .non) (rs1.flatMap fun r => rs2.map fun t => D.tup [.int r.1, .int t.1]) [some (.sh (machD M x rs1)), some (.sh (machD M x rs2)), some (.sh (.lst (rs1.flatMap fun r => rs2.map fun t => D.tup [.int r.1, .int t.1]))), none, none, none] b (fun d hd => by
    obtain ⟨r, hr, hd⟩ := List.mem_flatMap.mp hd
    obtain ⟨t, ht, rfl⟩ := List.mem_map.mp hd
    exact ⟨_, rfl, by simp⟩)
  have e3 := lc_map (g := gN 5) (F := eIx (eV 5) (eC (.int 1))) (f := fun d => match d with | .tup [_, y] => y | _ => .non) (rs1.flatMap fun r => rs2.map fun t => D.tup [.int r.1, .int t.1]) [some (.sh (machD M x rs1)), some (.sh (machD M x rs2)), some (.sh (.lst (rs1.flatMap fun r => rs2.map fun t => D.tup [.int r.1, .int t.1]))), none, none, none] b (fun d hd => by
    obtain ⟨r, hr, hd⟩ := List.mem_flatMap.mp hd
    obtain ⟨t, ht, rfl⟩ := List.mem_map.mp hd
    exact ⟨_, rfl, by simp⟩)
  have g1 : (rs1.flatMap fun r => rs2.map fun t => D.tup [.int r.1, .int t.1]).map (fun d => match d with | .tup [y, _] => y | _ => D.non) = (col1 rs1 rs2).map D.int := by
    unfold col1
    rw [List.map_flatMap, List.map_flatMap]
    congr 1
    funext r
    rw [List.map_map, List.map_map]
    rfl
  have g2 : (rs1.flatMap fun r => rs2.map fun t => D.tup [.int r.1, .int t.1]).map (fun d => match d with | .tup [_, y] => y | _ => D.non) = (col2 rs1 rs2).map D.int := by
    unfold col2
    rw [List.map_flatMap, List.map_flatMap]
    congr 1
    funext r
    rw [List.map_map, List.map_map]
    rfl
  rw [g1] at e2
  rw [g2] at e3
  unfold F_pair_colours G_pair_colours
  generalize (rs1.flatMap fun r => rs2.map fun t => D.tup [.int r.1, .int t.1]) = ps at *
  unfold rowsD at f1
  unfold machD at f1 e1 e2 e3 ⊢
  simp [f1, e1, hlen, e2, e3]
theorem pair_arrows_ok (b : Bag) : F_pair_arrows M [machD M x rs1, machD M x rs2] b = .ok (.lst (arrP rs1 rs2)) b := by
  have n1 := h1.n1
  have n2 := h2.n1
  have n20 := h2.n0
  have hmul : rs1.length * rs2.length ≤ 6 * 6 := Nat.mul_le_mul n1 n2
  obtain ⟨l1, l2⟩ := sg_len hx
  have f1 := fld_s M x rs1
  have f2 := fld_s M x rs2
  have hlenM := len_M M x rs2 b
  have inner : ∀ (r t : Row) (o2 o3 : Option SD), (∀ g ∈ r.2, 0 ≤ g ∧ g < 6) → lcD (gT 2 (gsC (gN 5) (gsC (gN 6) gsN))) bYes (e2 addF (e2 mulF (eV 5) (eV 2)) (eV 6)) (zipOf (r.2.map D.int) (t.2.map D.int)) [some (.sh (machD M x rs1)), some (.sh (machD M x rs2)), some (.sh (.int (rs2.length : Int))), o2, o3, none, none] b = .ok ((zipP rs2.length r.2 t.2).map D.int) b := fun r t o2 o3 hg => zip_lc M x rs1 rs2 n2 o2 o3 b r.2 t.2 hg
  have e1 := lc2_map (i := 3) (j := 4) (vs1 := [4]) (Fi1 := aAny (e1 (fldF M "_states") (eV 1))) (F := (eLc (aZipA (aCons (eIx (eV 3) (eC (.int 1))) (aCons (eIx (eV 4) (eC (.int 1))) aNil))) [5, 6] (gT 2 (gsC (gN 5) (gsC (gN 6) gsN))) bYes (e2 addF (e2 mulF (eV 5) (eV 2)) (eV 6)))) rowD rowD (f := fun r t => .lst ((zipP rs2.length r.2 t.2).map D.int)) rs2 (ρ := [some (.sh (machD M x rs1)), some (.sh (machD M x rs2)), some (.sh (.int (rs2.length : Int))), none, none, none, none]) (b := b) rs1 (fun d hd => by
    unfold rowsD at f2
    unfold machD at f2 ⊢
    simp [f2]) (fun r hr t ht => by
    have k1 := h1.ok r hr
    have k2 := h2.ok t ht
    have q := inner r t (some (.sh (rowD r))) (some (.sh (rowD t))) (fun g hg => by have := k1.go g hg; omega)
    have hz : (zipOf (r.2.map D.int) (t.2.map D.int)).length ≤ 100000 := by
      rw [zip_lenL, List.length_map, List.length_map, k1.len]; omega
    unfold machD at q
    unfold machD rowD at *
    simp [aZipA, hz, q])
  have hlen : (rs1.flatMap fun r => rs2.map fun t => D.lst ((zipP rs2.length r.2 t.2).map D.int)).length ≤ 100000 := by rw [flat_len (fun (r t : Row) => D.lst ((zipP rs2.length r.2 t.2).map D.int))]; omega
  have hbig : (rs2.length : Int) < 9223372036854775808 := by omega
  unfold F_pair_arrows G_pair_arrows arrP
  generalize (rs1.flatMap fun r => rs2.map fun t => D.lst ((zipP rs2.length r.2 t.2).map D.int)) = ps at *
  unfold rowsD at f1
  unfold machD at f1 e1 hlenM ⊢
  simp [f1, e1, hlen, hlenM, hbig]
end
end DL

set_option maxHeartbeats 1000000

set_option maxHeartbeats 1000000
namespace DL
open PySem PySem.Spec PyProof.Rows L2
section
variable (n m : Nat) (sc : Int → List Int)
def itG (g : Int → Int) : Nat → Int → Int
  | 0 => g
  | t + 1 => nxtG n sc (itG g t)
end
section
variable {n m : Nat} {sc : Int → List Int} (hw : ∀ k : Int, 0 ≤ k → k < n → (sc k).length = m) (hgo : ∀ k : Int, 0 ≤ k → k < n → ∀ g ∈ sc k, 0 ≤ g ∧ g < n)
theorem gI_in {k : Int} {i : Nat} (hgo : ∀ k : Int, 0 ≤ k → k < n → ∀ g ∈ sc k, 0 ≤ g ∧ g < n) (k0 : 0 ≤ k) (k1 : k < n) (hi : i < (sc k).length) : gI sc k i ∈ sc k ∧ 0 ≤ gI sc k i ∧ gI sc k i < n := by
  have e : gI sc k i = (sc k)[i] := by unfold gI; rw [List.getElem?_eq_getElem hi]; rfl
  have hm : gI sc k i ∈ sc k := by rw [e]; exact List.getElem_mem hi
  exact ⟨hm, hgo k k0 k1 _ hm⟩
end
end DL

set_option maxHeartbeats 1000000

set_option maxHeartbeats 1000000
namespace DL
open PySem PySem.Spec PyProof.Rows L2
theorem Pth.into {sc : Int → List Int} {ok : Int → Prop} {a b : Int} (h : Pth sc ok a b) : ∃ y, (y = a ∨ ok y) ∧ b ∈ sc y := by
  induction h with
  | one h1 _ => exact ⟨_, .inl rfl, h1⟩
  | step h1 h2 _ ih =>
    obtain ⟨y, hy, hb⟩ := ih
    rcases hy with rfl | hy
    · exact ⟨_, .inr h2, hb⟩
    · exact ⟨y, .inr hy, hb⟩
section
variable {w : Nat} {rs : List Row} (hr : RowsOk w rs) (hw : w ≤ 1000) (c : Int)
abbrev wide (rs : List Row) (c : Int) (w : Nat) : List Row := rs ++ [(c, List.replicate w 0)]
include hr hw
end
end DL

set_option maxHeartbeats 1000000
namespace DL
open PySem PySem.Spec PyProof.Rows L2
theorem lc_filtB {g : GF} {T : BF} {F : EF} {α : Type} {k f : α → D} {t : α → Bool} : ∀ (l : List α) (ρ : Env) (b : Bag), (∀ a ∈ l, ∃ ρ', g (k a) ρ b = some (ρ', b) ∧ T ρ' b = .ok (t a) b ∧ F ρ' b = .ok (f a) b) → lcD g T F (l.map k) ρ b = .ok ((l.filter t).map f) b
  | [], ρ, b, _ => rfl
  | a :: l, ρ, b, h => by
    obtain ⟨ρ', h0, h1, h2⟩ := h a List.mem_cons_self
    have h3 := lc_filtB l ρ b fun a ha => h a (List.mem_cons_of_mem _ ha)
    rw [List.map_cons]
    unfold lcD
    rw [h0]
    dsimp only
    cases ht : t a
    · rw [ht] at h1
      rw [List.filter_cons_of_neg (by simp [ht])]
      simp [h1, h3]
    · rw [ht] at h1
      rw [List.filter_cons_of_pos ht]
      simp [h1, h2, h3]
/-- 1 for a dead state -/
noncomputable def mkG (rs : List Row) (k : Int) : Int := if k ∈ deadL rs then 1 else 0
/-- the part of a state -/
noncomputable def grG (rs : List Row) : Int → Int := itG rs.length (scM rs) (mkG rs) rs.length
noncomputable def scG (rs : List Row) (k : Int) : List Int := (scM rs k).map (grG rs)
/-- the order in which the parts are met -/
structure OrdG (x : Str) (rs : List Row) (f : List Int) : Prop where
  nd : f.Nodup
  hd : f[0]? = some (grG rs 0)
  lo : ∀ k ∈ f, 0 ≤ k ∧ k < rs.length
  own : ∀ k ∈ f, grG rs k = k
  go : ∀ k ∈ f, ∀ j ∈ scG rs k, j ∈ f
  ord : f = bfsW (scG rs) ((nums rs.length).map (grG rs)) 100000 [grG rs 0] 0
end DL

set_option maxHeartbeats 1000000
namespace DL
open PySem PySem.Spec PyProof.Rows L2
section
variable {x : Str} {rs : List Row} (hx : x ∈ sgs) (hr : RowsOk x.length rs) {f : List Int} (O : OrdG x rs f)
theorem ltr_in {u v : List Nat} (hu : ∀ c ∈ u, c ∈ x.cps.toList) (hv : ∀ c ∈ v, c ∈ x.cps.toList) (hv0 : v ≠ []) (i : Nat) : ltr u v i ∈ x.cps.toList := by
  have v0 : 0 < v.length := List.length_pos_iff.mpr hv0
  by_cases h : i < u.length
  · rw [ltr_u h]
    refine hu _ ?_
    rw [List.getD_eq_getElem?_getD, List.getElem?_eq_getElem h]
    exact List.getElem_mem h
  · obtain ⟨j, rfl⟩ : ∃ j, i = u.length + j := ⟨i - u.length, by omega⟩
    rw [ltr_v]
    have hj : j % v.length < v.length := Nat.mod_lt _ v0
    refine hv _ ?_
    rw [List.getD_eq_getElem?_getD, List.getElem?_eq_getElem hj]
    exact List.getElem_mem hj
end
end DL

set_option maxHeartbeats 1000000

set_option maxHeartbeats 1000000
namespace DL
open PySem PySem.Spec PyProof.Rows L2
/-- rows: something, and the numbers that are gone on to -/
structure GrR (L : List D) (n : Nat) (sc : Int → List Int) (cD : Int → D) : Prop where
  len : L.length = n
  row : ∀ k : Int, 0 ≤ k → k < n → atI L k = some (.tup [cD k, .tup ((sc k).map D.int)])
  go : ∀ k : Int, 0 ≤ k → k < n → ∀ g ∈ sc k, 0 ≤ g ∧ g < n
  few : ∀ k : Int, 0 ≤ k → k < n → (sc k).length ≤ 1000
  n1000 : n ≤ 1000
end DL

set_option maxHeartbeats 1000000
namespace DL
open PySem PySem.Spec PyProof.Rows L2
theorem rowAt_W {k N : Nat} {ws : List Row} (h : RowsW k N ws) {s : Int} (s0 : 0 ≤ s) (s1 : s < ws.length) : atI (ws.map rowD) s = some (rowD (rowAt ws s)) ∧ RowOk k ws.length (rowAt ws s) := by
  obtain ⟨j, rfl⟩ : ∃ j : Nat, s = (j : Int) := ⟨s.toNat, by omega⟩
  have hj : j < ws.length := by omega
  have e : rowAt ws (j : Int) = ws[j] := by
    unfold rowAt
    rw [Int.toNat_natCast, List.getElem?_eq_getElem hj]
    rfl
  rw [e]
  exact ⟨atI_nat (by rw [List.getElem?_map, List.getElem?_eq_getElem hj]; rfl), h.ok _ (List.getElem_mem hj)⟩
theorem scW_len {k N : Nat} {ws : List Row} (h : RowsW k N ws) {s : Int} (s0 : 0 ≤ s) (s1 : s < ws.length) : (scM ws s).length = k := (rowAt_W h s0 s1).2.len
theorem goal_W {k N : Nat} {ws : List Row} (h : RowsW k N ws) {s : Int} (s0 : 0 ≤ s) (s1 : s < ws.length) {t : Nat} (ht : t < k) : gI (scM ws) s t = goal ws s t ∧ 0 ≤ goal ws s t ∧ goal ws s t < ws.length := by
  have hl := scW_len h s0 s1
  have e : gI (scM ws) s t = goal ws s t := by rw [goal_at]; rfl
  obtain ⟨_, a, b⟩ := gI_in (n := ws.length) (sc := scM ws) (fun k k0 k1 g hg => (rowAt_W h k0 k1).2.go g hg) s0 s1 (i := t) (by omega)
  rw [e] at a b
  exact ⟨e, a, b⟩
def prD2 (m : Nat) (r t : Row) : D := .tup [.tup [.int r.1, .int t.1], .tup ((zipP m r.2 t.2).map D.int)]
def pairL (w1 w2 : List Row) : List D := w1.flatMap fun r => w2.map fun t => prD2 w2.length r t
section
variable {k N1 N2 : Nat} {w1 w2 : List Row} (h1 : RowsW k N1 w1) (h2 : RowsW k N2 w2) (hk : k ≤ 100) (hN : N1 * N2 ≤ 1000)
include h1 h2 hk hN
theorem grR_P : GrR (pairL w1 w2) (w1.length * w2.length) (scP w1 w2) (fun y => .tup [.int (colour w1 (y / w2.length)), .int (colour w2 (y % w2.length))]) := by
  have n1 := h1.n1
  have n2 := h2.n1
  have hmul : w1.length * w2.length ≤ N1 * N2 := Nat.mul_le_mul n1 n2
  refine ⟨flat_len _ _ _, fun y y0 y1 => ?_, fun y y0 y1 g hg => ?_, fun y y0 y1 => ?_, by omega⟩
  · obtain ⟨i, j, i0, i1, j0, j1, rfl⟩ := is_pk y0 y1
    rw [scP_pk j0 j1, pk_div j0 j1, pk_mod j0 j1]
    obtain ⟨a, rfl⟩ : ∃ a : Nat, i = a := ⟨i.toNat, by omega⟩
    obtain ⟨c, rfl⟩ : ∃ c : Nat, j = c := ⟨j.toNat, by omega⟩
    have e : pk w2.length (a : Int) (c : Int) = ((a * w2.length + c : Nat) : Int) := by unfold pk; rw [Int.natCast_add, Int.natCast_mul]
    rw [e]
    refine atI_nat ?_
    unfold pairL
    rw [flat_get (fun (r t : Row) => prD2 w2.length r t) w2 w1 a c (by omega), List.getElem?_eq_getElem (by omega : a < w1.length), List.getElem?_eq_getElem (by omega : c < w2.length)]
    unfold scM rowAt colour
    rw [Int.toNat_natCast, Int.toNat_natCast, List.getElem?_eq_getElem (by omega : a < w1.length), List.getElem?_eq_getElem (by omega : c < w2.length)]
    rfl
  · obtain ⟨i, j, i0, i1, j0, j1, rfl⟩ := is_pk y0 y1
    rw [scP_pk j0 j1] at hg
    unfold zipP at hg
    obtain ⟨t, ht, e⟩ := List.mem_iff_getElem.mp hg
    rw [List.length_zipWith] at ht
    rw [List.getElem_zipWith] at e
    have g1 := (rowAt_W h1 i0 i1).2.go _ (List.getElem_mem (by omega : t < (scM w1 i).length))
    have g2 := (rowAt_W h2 j0 j1).2.go _ (List.getElem_mem (by omega : t < (scM w2 j).length))
    rw [← e]
    exact pk_lt g1.1 g1.2 g2.1 g2.2
  · obtain ⟨i, j, i0, i1, j0, j1, rfl⟩ := is_pk y0 y1
    rw [scP_pk j0 j1]
    unfold zipP
    rw [List.length_zipWith, scW_len h1 i0 i1]
    omega
theorem scPW_len : ∀ y : Int, 0 ≤ y → y < (w1.length * w2.length : Nat) → (scP w1 w2 y).length = k := fun y y0 y1 => by
  obtain ⟨i, j, i0, i1, j0, j1, rfl⟩ := is_pk y0 y1
  rw [scP_pk j0 j1]
  unfold zipP
  rw [List.length_zipWith, scW_len h1 i0 i1, scW_len h2 j0 j1, Nat.min_self]
theorem gI_PW {i j : Int} (i0 : 0 ≤ i) (i1 : i < w1.length) (j0 : 0 ≤ j) (j1 : j < w2.length) {t : Nat} (ht : t < k) : gI (scP w1 w2) (pk w2.length i j) t = pk w2.length (goal w1 i t) (goal w2 j t) := by
  have l1 := scW_len h1 i0 i1
  have l2 := scW_len h2 j0 j1
  unfold gI
  rw [scP_pk j0 j1, goal_at, goal_at]
  unfold zipP pk
  have e1 : (rowAt w1 i).2[t]? = some ((scM w1 i)[t]'(by omega)) := List.getElem?_eq_getElem (by show t < (scM w1 i).length; omega)
  have e2 : (rowAt w2 j).2[t]? = some ((scM w2 j)[t]'(by omega)) := List.getElem?_eq_getElem (by show t < (scM w2 j).length; omega)
  have e1' : (scM w1 i)[t]? = some ((scM w1 i)[t]'(by omega)) := e1
  have e2' : (scM w2 j)[t]? = some ((scM w2 j)[t]'(by omega)) := e2
  rw [List.getElem?_zipWith, e1', e2', e1, e2]
  rfl
end
end DL

set_option maxHeartbeats 1000000

set_option maxHeartbeats 1000000

set_option maxHeartbeats 1000000
namespace DL
open PySem PySem.Spec PyProof.Rows L2
def rnW (x : Str) (sc : Int → List Int) (α : Nat → Nat) : Nat → Int
  | 0 => 0
  | i + 1 => gI sc (rnW x sc α i) (idx x (α i))
/-- a graph with an arrow for each letter -/
structure GrX (x : Str) (n : Nat) (sc : Int → List Int) : Prop where
  n0 : 1 ≤ n
  wide : ∀ k : Int, 0 ≤ k → k < n → (sc k).length = x.length
  go : ∀ k : Int, 0 ≤ k → k < n → ∀ g ∈ sc k, 0 ≤ g ∧ g < n
section
variable {x : Str} (hx : x ∈ sgs) {n : Nat} {sc : Int → List Int} (G : GrX x n sc)
include hx G
theorem stepX {s : Int} (s0 : 0 ≤ s) (s1 : s < n) {c : Nat} (hc : c ∈ x.cps.toList) : gI sc s (idx x c) ∈ sc s ∧ 0 ≤ gI sc s (idx x c) ∧ gI sc s (idx x c) < n :=
  gI_in G.go s0 s1 (by rw [G.wide s s0 s1]; exact (occ_ok hx hc).2)
theorem rnW_in {α : Nat → Nat} (hα : ∀ i, α i ∈ x.cps.toList) : ∀ i, 0 ≤ rnW x sc α i ∧ rnW x sc α i < n
  | 0 => ⟨by show (0 : Int) ≤ 0; decide, by have := G.n0; show (0 : Int) < n; omega⟩
  | i + 1 => by
    obtain ⟨h0, h1⟩ := rnW_in hα i
    exact (stepX hx G h0 h1 (hα i)).2
omit hx G in
theorem rnW_walk {α : Nat → Nat} : ∀ (w : List Nat) (i : Nat), (∀ j, j < w.length → w.getD j 0 = α (i + j)) → wE x sc (rnW x sc α i) w = rnW x sc α (i + w.length) ∧ wL x sc (rnW x sc α i) w = (List.range w.length).map fun j => rnW x sc α (i + 1 + j)
  | [], i, _ => ⟨rfl, rfl⟩
  | c :: w, i, h => by
    have h0 : c = α i := h 0 (by simp)
    obtain ⟨h1, h2⟩ := rnW_walk w (i + 1) (fun j hj => by
      have := h (j + 1) (by rw [List.length_cons]; omega)
      rw [show i + (j + 1) = i + 1 + j by omega] at this
      simpa using this)
    have e : gI sc (rnW x sc α i) (idx x c) = rnW x sc α (i + 1) := by rw [h0]; rfl
    refine ⟨?_, ?_⟩
    · show wE x sc (gI sc (rnW x sc α i) (idx x c)) w = _
      rw [e, h1, List.length_cons, show i + 1 + w.length = i + (w.length + 1) by omega]
    · show gI sc (rnW x sc α i) (idx x c) :: wL x sc (gI sc (rnW x sc α i) (idx x c)) w = _
      rw [e, h2, List.length_cons, List.range_succ_eq_map, List.map_cons, List.map_map]
      congr 1
      apply List.map_congr_left
      intro j _
      show rnW x sc α (i + 1 + 1 + j) = rnW x sc α (i + 1 + (j + 1))
      rw [show i + 1 + 1 + j = i + 1 + (j + 1) by omega]
/-- where a lasso comes back, what is seen again and again is its round -/
theorem lim_back {u v : List Nat} (hv0 : v ≠ []) (hb : wE x sc (wE x sc 0 u) v = wE x sc 0 u) {k : Int → Int} {T : Int} (hT : TopIs k (· ∈ wL x sc (wE x sc 0 u) v) T) : Lim (fun i => k (rnW x sc (ltr u v) i)) T := by
  have v0 : 0 < v.length := List.length_pos_iff.mpr hv0
  have w1 : wE x sc 0 u = rnW x sc (ltr u v) u.length := by
    have := (rnW_walk (x := x) (sc := sc) (α := ltr u v) u 0 (fun j hj => by rw [Nat.zero_add, ltr_u hj])).1
    rw [Nat.zero_add] at this
    exact this
  have hw : ∀ m, rnW x sc (ltr u v) (u.length + m * v.length) = wE x sc 0 u ∧ wL x sc (wE x sc 0 u) v = (List.range v.length).map fun j => rnW x sc (ltr u v) (u.length + m * v.length + 1 + j) := fun m => by
    have hl : ∀ m j, j < v.length → v.getD j 0 = ltr u v (u.length + m * v.length + j) := fun m j hj => by
      rw [Nat.add_assoc, ltr_v, Nat.mul_comm, Nat.mul_add_mod, Nat.mod_eq_of_lt hj]
    have base : ∀ m, rnW x sc (ltr u v) (u.length + m * v.length) = wE x sc 0 u := fun m => by
      induction m with
      | zero => rw [Nat.zero_mul, Nat.add_zero, w1]
      | succ m ih =>
        have h := (rnW_walk (x := x) (sc := sc) (α := ltr u v) v (u.length + m * v.length) (hl m)).1
        rw [ih, hb] at h
        rw [Nat.add_mul, Nat.one_mul, ← Nat.add_assoc]
        exact h.symm
    refine ⟨base m, ?_⟩
    have h := (rnW_walk (x := x) (sc := sc) (α := ltr u v) v (u.length + m * v.length) (hl m)).2
    rw [base m] at h
    exact h
  obtain ⟨⟨y, y1, y2⟩, y3⟩ := hT
  refine ⟨⟨u.length, fun i hi => ?_⟩, fun I => ?_⟩
  · refine y3 _ ?_
    have e : i = u.length + ((i - u.length - 1) / v.length) * v.length + 1 + (i - u.length - 1) % v.length := by
      have := Nat.div_add_mod (i - u.length - 1) v.length
      rw [Nat.mul_comm] at this
      omega
    rw [(hw ((i - u.length - 1) / v.length)).2]
    exact List.mem_map.mpr ⟨(i - u.length - 1) % v.length, List.mem_range.mpr (Nat.mod_lt _ v0), by rw [← e]⟩
  · have y1' := y1
    rw [(hw (I + 1)).2] at y1'
    obtain ⟨j, hj, e⟩ := List.mem_map.mp y1'
    refine ⟨u.length + (I + 1) * v.length + 1 + j, ?_, by show k _ = T; rw [e]; exact y2⟩
    have : (I + 1) * 1 ≤ (I + 1) * v.length := Nat.mul_le_mul_left _ v0
    omega
/-- a way is a word -/
theorem pth_word {ok : Int → Prop} {s t : Int} (h : Pth sc ok s t) : 0 ≤ s → s < n → ∃ w : List Nat, (∀ c ∈ w, c ∈ x.cps.toList) ∧ w ≠ [] ∧ wE x sc s w = t ∧ ∀ j ∈ wL x sc s w, ok j := by
  have one : ∀ {s g : Int}, g ∈ sc s → 0 ≤ s → s < n → ∃ c ∈ x.cps.toList, gI sc s (idx x c) = g := fun {s g} hg s0 s1 => by
    obtain ⟨i, hi, e⟩ := List.mem_iff_getElem.mp hg
    have hl := G.wide s s0 s1
    have hi2 : i < x.cps.toList.length := by rw [str_len]; omega
    refine ⟨x.cps.toList[i], List.getElem_mem hi2, ?_⟩
    rw [idx_pos hx (List.getElem?_eq_getElem hi2)]
    unfold gI
    rw [List.getElem?_eq_getElem hi, e]
    rfl
  induction h with
  | @one a a' hg hok =>
    intro s0 s1
    obtain ⟨c, hc, e⟩ := one hg s0 s1
    refine ⟨[c], fun d hd => by have : d = c := by simpa using hd
                                rw [this]; exact hc, by simp, ?_, fun j hj => ?_⟩
    · show gI sc _ (idx x c) = _
      exact e
    · have : j = gI sc a (idx x c) := by simpa [wL] using hj
      rw [this, e]
      exact hok
  | step hg hok _ ih =>
    intro s0 s1
    obtain ⟨c, hc, e⟩ := one hg s0 s1
    obtain ⟨g0, g1⟩ := G.go _ s0 s1 _ hg
    obtain ⟨w, w1, w2, w3, w4⟩ := ih g0 g1
    refine ⟨c :: w, fun d hd => ?_, by simp, ?_, fun j hj => ?_⟩
    · rcases List.mem_cons.mp hd with rfl | hd
      · exact hc
      · exact w1 d hd
    · show wE x sc (gI sc _ (idx x c)) w = _
      rw [e]; exact w3
    · have hj : j ∈ gI sc _ (idx x c) :: wL x sc (gI sc _ (idx x c)) w := hj
      rw [e] at hj
      rcases List.mem_cons.mp hj with rfl | hj
      · exact hok
      · exact w4 j hj
end
end DL

set_option maxHeartbeats 1000000
namespace DL
open PySem PySem.Spec PyProof.Rows L2
theorem grX_W {x : Str} {N : Nat} {ws : List Row} (h : RowsW x.length N ws) : GrX x ws.length (scM ws) :=
  ⟨h.n0, fun k k0 k1 => scW_len h k0 k1, fun k k0 k1 g hg => (rowAt_W h k0 k1).2.go g hg⟩
/-- the lasso lies in the wish -/
def EvW (x : Str) (ws : List Row) (u v : List Nat) : Prop := ∃ T, Lim (fun i => colour ws (rnW x (scM ws) (ltr u v) i)) T ∧ T % 2 = 0
section
variable {x : Str} (hx : x ∈ sgs) {N1 N2 : Nat} {w1 w2 : List Row} (h1 : RowsW x.length N1 w1) (h2 : RowsW x.length N2 w2) (hN : N1 * N2 ≤ 1000)
include hx h1 h2 hN
theorem rnW_P {α : Nat → Nat} (hα : ∀ i, α i ∈ x.cps.toList) : ∀ i, rnW x (scP w1 w2) α i = pk w2.length (rnW x (scM w1) α i) (rnW x (scM w2) α i)
  | 0 => by
    show (0 : Int) = pk w2.length 0 0
    unfold pk
    simp
  | i + 1 => by
    obtain ⟨l1, l2⟩ := sg_len hx
    obtain ⟨a0, a1⟩ := rnW_in hx (grX_W h1) hα i
    obtain ⟨c0, c1⟩ := rnW_in hx (grX_W h2) hα i
    have hi := (occ_ok hx (hα i)).2
    show gI (scP w1 w2) (rnW x (scP w1 w2) α i) (idx x (α i)) = pk w2.length (gI (scM w1) (rnW x (scM w1) α i) (idx x (α i))) (gI (scM w2) (rnW x (scM w2) α i) (idx x (α i)))
    rw [rnW_P hα i, gI_PW h1 h2 (by omega) hN a0 a1 c0 c1 hi, (goal_W h1 a0 a1 hi).1, (goal_W h2 c0 c1 hi).1]
theorem grX_P : GrX x (w1.length * w2.length) (scP w1 w2) := by
  obtain ⟨l1, l2⟩ := sg_len hx
  have G := grR_P h1 h2 (by omega) hN
  have n10 := h1.n0
  have n20 := h2.n0
  exact ⟨Nat.mul_pos (by omega) (by omega), scPW_len h1 h2 (by omega) hN, G.go⟩
end
section
variable {x : Str} (hx : x ∈ sgs) {rs : List Row} (hr : RowsOk x.length rs)
theorem rnW_M {α : Nat → Nat} : ∀ i, rnW x (scM rs) α i = rn x rs α i
  | 0 => rfl
  | i + 1 => by
    show gI (scM rs) (rnW x (scM rs) α i) _ = goal rs (rn x rs α i) _
    rw [rnW_M i, goal_at]
    rfl
include hx hr in
theorem ev_top {u v : List Nat} (hu : ∀ c ∈ u, c ∈ x.cps.toList) (hv : ∀ c ∈ v, c ∈ x.cps.toList) (hv0 : v ≠ []) : EvW x rs u v ↔ topOf x rs u v % 2 = 0 := by
  have hl := top_lim hx hr hu hv hv0
  have hf : (fun i => colour rs (rnW x (scM rs) (ltr u v) i)) = fun i => colour rs (rn x rs (ltr u v) i) := funext fun i => by rw [rnW_M]
  unfold EvW
  rw [hf]
  constructor
  · rintro ⟨T, h1, h2⟩
    rw [← lim_uniq h1 hl]; exact h2
  · exact fun h => ⟨_, hl, h⟩
end
end DL

set_option maxHeartbeats 1000000
namespace DL
open PySem PySem.Spec PyProof.Rows L2
section
variable {x : Str} (hx : x ∈ sgs) {rs : List Row} (hr : RowsOk x.length rs)
include hx hr
theorem live_word {s : Int} (s0 : 0 ≤ s) (s1 : s < rs.length) (h : LeadP rs 0 s) : ∃ p v : List Nat, (∀ c ∈ p, c ∈ x.cps.toList) ∧ (∀ c ∈ v, c ∈ x.cps.toList) ∧ v ≠ [] ∧ wE x (scM rs) (wE x (scM rs) s p) v = wE x (scM rs) s p ∧ ∃ T, TopIs (colour rs) (· ∈ wL x (scM rs) (wE x (scM rs) s p) v) T ∧ T % 2 = 0 := by
  have GX := grX_W hr.w
  obtain ⟨S, hS, p, hp, hpS⟩ : ∃ S, LoopM rs 0 S ∧ ∃ p : List Nat, (∀ c ∈ p, c ∈ x.cps.toList) ∧ S (wE x (scM rs) s p) := by
    rcases h with ⟨S, hS, hs⟩ | ⟨S, g, hS, hg, hp⟩
    · exact ⟨S, hS, [], fun c hc => (by cases hc), hs⟩
    · obtain ⟨w, w1, w2, w3, _⟩ := pth_word hx GX hp s0 s1
      exact ⟨S, hS, w, w1, by rw [w3]; exact hg⟩
  obtain ⟨⟨_, hSC, hT⟩, hin⟩ := hS
  obtain ⟨T, ⟨⟨t, t1, t2⟩, t3⟩, t4⟩ := hT (colour rs, 0) (by simp)
  obtain ⟨y0, y1⟩ := mem_nums.mp (hin _ hpS)
  obtain ⟨z0, z1⟩ := mem_nums.mp (hin _ t1)
  obtain ⟨q, q1, q2, q3, _⟩ := pth_word hx GX (hSC _ _ hpS t1) y0 y1
  obtain ⟨v, v1, v2, v3, v4⟩ := pth_word hx GX (hSC _ _ t1 t1) z0 z1
  have hE : wE x (scM rs) s (p ++ q) = t := by rw [wE_app, q3]
  refine ⟨p ++ q, v, fun c hc => (List.mem_append.mp hc).elim (hp c) (q1 c), v1, v2, by rw [hE, v3], T, ⟨⟨t, ?_, t2⟩, fun j hj => ?_⟩, t4⟩
  · rw [hE]
    have := wE_mem x (scM rs) v t v2
    rwa [v3] at this
  · rw [hE] at hj
    exact t3 j (v4 j hj)
/-- from a state that is not dead some lasso goes on into the wish -/
theorem live_on {w : List Nat} (hw : ∀ c ∈ w, c ∈ x.cps.toList) (h : LeadP rs 0 (wE x (scM rs) 0 w)) (s0 : 0 ≤ wE x (scM rs) 0 w) (s1 : wE x (scM rs) 0 w < rs.length) : ∃ p v : List Nat, (∀ c ∈ p, c ∈ x.cps.toList) ∧ (∀ c ∈ v, c ∈ x.cps.toList) ∧ v ≠ [] ∧ EvW x rs (w ++ p) v := by
  obtain ⟨p, v, p1, v1, v0, e, T, hT, t4⟩ := live_word hx hr s0 s1 h
  refine ⟨p, v, p1, v1, v0, T, ?_, t4⟩
  have hE : wE x (scM rs) 0 (w ++ p) = wE x (scM rs) (wE x (scM rs) 0 w) p := wE_app _ _ _ _ _
  exact lim_back hx (grX_W hr.w) v0 (by rw [hE]; exact e) (by rw [hE]; exact hT)
end
end DL

set_option maxHeartbeats 1000000
namespace DL
open PySem PySem.Spec PyProof.Rows L2
abbrev WdN (x : Str) (w : List Nat) : Prop := ∀ c ∈ w, c ∈ x.cps.toList
section
variable {x : Str} (hx : x ∈ sgs) {rs : List Row} (hr : RowsOk x.length rs)
include hx hr
theorem walk_lo : ∀ (w : List Nat) (s : Int), WdN x w → 0 ≤ s → s < rs.length → 0 ≤ wE x (scM rs) s w ∧ wE x (scM rs) s w < rs.length
  | [], s, _, h0, h1 => ⟨h0, h1⟩
  | c :: w, s, hw, h0, h1 => by
    obtain ⟨_, g0, g1⟩ := stepX hx (grX_W hr.w) h0 h1 (hw c List.mem_cons_self)
    exact walk_lo w _ (fun d hd => hw d (List.mem_cons_of_mem _ hd)) g0 g1
end
end DL

set_option maxHeartbeats 1000000

set_option maxHeartbeats 1000000
namespace DL
open PySem PySem.Spec PyProof.Rows L2
section
variable {x : Str} (hx : x ∈ sgs) {rs : List Row} (hr : RowsOk x.length rs)
include hx hr
theorem lead_back {ev : Int} : ∀ (p : List Nat) (s : Int), WdN x p → 0 ≤ s → s < rs.length → LeadP rs ev (wE x (scM rs) s p) → LeadP rs ev s
  | [], _, _, _, _, h => h
  | c :: p, s, hp, s0, s1, h => by
    obtain ⟨hm, g0, g1⟩ := stepX hx (grX_W hr.w) s0 s1 (hp c List.mem_cons_self)
    exact lead_next.mpr ⟨_, hm, lead_back p _ (fun d hd => hp d (List.mem_cons_of_mem _ hd)) g0 g1 h⟩
/-- an even lasso leads from the state behind any of its beginnings -/
theorem ev_lead {w p v : List Nat} (hw : WdN x w) (hp : WdN x p) (hv : WdN x v) (hv0 : v ≠ []) (h : EvW x rs (w ++ p) v) : LeadP rs 0 (wE x (scM rs) 0 w) := by
  have n0 := hr.n0
  have hu : WdN x (w ++ p) := fun c hc => (List.mem_append.mp hc).elim (hw c) (hp c)
  have hl := lasso_lead hx hr hu hv hv0
  rw [(ev_top hx hr hu hv hv0).mp h, ← wE_M, wE_app] at hl
  obtain ⟨s0, s1⟩ := walk_lo hx hr w 0 hw (by decide) (by omega)
  exact lead_back hx hr p _ hp s0 s1 hl
end
end DL

set_option maxHeartbeats 1000000

set_option maxHeartbeats 1000000
namespace DL
open PySem PySem.Spec PyProof.Rows L2
/-- colours that tell the evenness of all reached loops -/
def ValidC (rs : List Row) (c : Int → Int) : Prop := ∀ S : Int → Prop, (∃ a, S a) → SC (scM rs) S → (∀ a, S a → Reach rs a) → ∀ T T', TopIs (colour rs) S T → TopIs c S T' → 0 ≤ T' ∧ T' % 2 = T % 2
structure DepthIs (rs : List Row) (d : Int) : Prop where
  up : ∃ c, ValidC rs c ∧ ∀ k, Reach rs k → 0 ≤ c k ∧ c k ≤ d
  mn : ∀ c, ValidC rs c → ∀ B, 0 ≤ B → (∀ k, Reach rs k → c k ≤ B) → d ≤ B
theorem DepthIs.uniq {rs : List Row} {d d' : Int} (h : DepthIs rs d) (h' : DepthIs rs d') (h0 : Reach rs 0) : d = d' := by
  have key : ∀ {d d'}, DepthIs rs d → DepthIs rs d' → d ≤ d' := fun {d d'} h h' => by
    obtain ⟨c, c1, c2⟩ := h'.up
    have := c2 0 h0
    exact h.mn c c1 d' (by omega) fun k hk => (c2 k hk).2
  have := key h h'
  have := key h' h
  omega
end DL

set_option maxHeartbeats 1000000

set_option maxHeartbeats 1000000
namespace DL
open PySem PySem.Spec PyProof.Rows L2
theorem oneW {x : Str} {c : Nat} (h : c ∈ x.cps.toList) : Wd x (one c) := fun d hd => by
  have : d = c := by simpa using hd
  subst this
  exact h
end DL

set_option maxHeartbeats 1000000

set_option maxHeartbeats 1000000

set_option maxHeartbeats 1000000
namespace DL
open PySem PySem.Spec PyProof.Rows L2
abbrev dcP (P : List Wp) : D := .dct (P.map fun p => Sum.inl p.2) (P.map fun p => D.str p.1)
section
variable {x : Str} {sc : Int → List Int} {ins : List Int} {bg : Int}
theorem look_P {w : Str} {num : Int} : ∀ {P : List Wp}, (P.map (·.2)).Nodup → (w, num) ∈ P → lookK (P.map fun p => Sum.inl p.2) (P.map fun p => D.str p.1) (Sum.inl num : Key) = some (.str w)
  | [], _, h => by cases h
  | p :: P, nd, h => by
    obtain ⟨n1, n2⟩ := List.nodup_cons.mp nd
    rw [List.map_cons, List.map_cons, lookK]
    rcases List.mem_cons.mp h with rfl | h
    · rw [if_pos rfl]
    · rw [if_neg, look_P n2 h]
      intro e
      have e : p.2 = num := by simpa using e
      exact n1 (List.mem_map.mpr ⟨(w, num), h, e.symm⟩)
theorem has_P (a : Int) (P : List Wp) : ((P.map fun p => (Sum.inl p.2 : Key)).any fun k => decide (k = Sum.inl a)) = decide (a ∈ P.map (·.2)) := by
  have := has_map a (P.map (·.2))
  rw [List.map_map] at this
  exact this
theorem put_P {P : List Wp} {q : Wp} (h : q.2 ∉ P.map (·.2)) : putD (P.map fun p => Sum.inl p.2) (P.map fun p => D.str p.1) (Sum.inl q.2 : Key) (.str q.1) = dcP (P ++ [q]) := by
  unfold putD
  rw [has_P, if_neg (by simpa using h)]
  simp [dcP]
end
theorem wfP_inner (s0 s1 s2 s6 s8 : Option SD) (ins : List Int) {w : Str} {num : Int} (b : Bag) : ∀ (ps : List (Nat × Int)) (P : List Wp), (w, num) ∈ P → (P.map (·.2)).Nodup → P.length + ps.length ≤ 1000 → w.length ≤ 1000 → ∀ (o9 o10 : Option D), ∃ (o9' o10' : Option D),
    loopD (gT 2 (gsC (gN 9) (gsC (gN 10) gsN))) bWf (ps.map pairD) [s0, s1, s2, some (.sh (lD ins)), some (.ow (dcP P)), some (.ow (lD (P.map (·.2)))), s6, some (.sh (.int num)), s8, o9.map SD.sh, o10.map SD.sh] b =
    .nx [s0, s1, s2, some (.sh (lD ins)), some (.ow (dcP ((ps.map fun q => (w ++ one q.1, q.2)).foldl (addP ins) P))), some (.ow (lD (((ps.map fun q => (w ++ one q.1, q.2)).foldl (addP ins) P).map (·.2)))), s6, some (.sh (.int num)), s8, o9'.map SD.sh, o10'.map SD.sh] b
  | [], P, _, _, _, _, o9, o10 => ⟨o9, o10, rfl⟩
  | (c, g) :: ps, P, hn, nd, hl, hw, o9, o10 => by
    rw [List.length_cons] at hl
    have m1 := inQ_lst g ins
    have m2 := has_P g P
    have l1 := look_P nd hn
    by_cases hin : g ∈ ins ∧ g ∉ P.map (·.2)
    · have hin' : ((w ++ one c, g) : Wp).2 ∈ ins ∧ ((w ++ one c, g) : Wp).2 ∉ P.map (·.2) := hin
      have nd2 : ((P ++ [((w ++ one c, g) : Wp)]).map (·.2)).Nodup := by
        rw [List.map_append, List.nodup_append]
        exact ⟨nd, by simp, fun a ha d hd => by
          have : d = g := by simpa using hd
          rw [this]
          intro e
          exact hin.2 (by rw [← e]; exact ha)⟩
      obtain ⟨o9', o10', i1⟩ := wfP_inner s0 s1 s2 s6 s8 ins b ps (P ++ [(w ++ one c, g)]) (List.mem_append_left _ hn) nd2 (by rw [List.length_append, List.length_singleton]; omega) hw (some (.str (one c))) (some (.int g))
      refine ⟨o9', o10', ?_⟩
      rw [List.map_cons, List.map_cons, List.foldl_cons, addP_pos hin']
      have hp := put_P (q := ((w ++ one c, g) : Wp)) hin.2
      have hone : (one c).length = 1 := rfl
      have hlen : w.length + (one c).length ≤ 100000 := by omega
      have hfl : P.length ≤ 100000 := by omega
      rw [decide_eq_false hin.2] at m2
      have gg : gT 2 (gsC (gN 9) (gsC (gN 10) gsN)) (pairD (c, g)) [s0, s1, s2, some (.sh (lD ins)), some (.ow (dcP P)), some (.ow (lD (P.map (·.2)))), s6, some (.sh (.int num)), s8, o9.map SD.sh, o10.map SD.sh] b = some ([s0, s1, s2, some (.sh (lD ins)), some (.ow (dcP P)), some (.ow (lD (P.map (·.2)))), s6, some (.sh (.int num)), s8, some (.sh (.str (one c))), some (.sh (.int g))], b) := rfl
      have hb : bWf [s0, s1, s2, some (.sh (lD ins)), some (.ow (dcP P)), some (.ow (lD (P.map (·.2)))), s6, some (.sh (.int num)), s8, some (.sh (.str (one c))), some (.sh (.int g))] b = .nx [s0, s1, s2, some (.sh (lD ins)), some (.ow (dcP (P ++ [(w ++ one c, g)]))), some (.ow (lD ((P ++ [((w ++ one c, g) : Wp)]).map (·.2)))), s6, some (.sh (.int num)), s8, some (.sh (.str (one c))), some (.sh (.int g))] b := by
        rw [← hp]
        unfold lD
        simp only [bWf, sIf, bAnd, bB, e2, eV, eInDOw, sSeq, sDput, sPush, eDgOw, List.getElem?_cons_succ, List.getElem?_cons_zero, bind_ok_, m1, pureO_some_, decide_eq_true hin.1, st_ok_, if_true, keyD, m2, Bool.not_false, l1, addF, hlen, List.length_map, hfl, List.set_cons_succ, List.set_cons_zero, seq_nx_, List.map_append, List.map_cons, List.map_nil]
      unfold loopD
      rw [gg]
      dsimp only
      rw [hb]
      exact i1
    · have hin' : ¬ (((w ++ one c, g) : Wp).2 ∈ ins ∧ ((w ++ one c, g) : Wp).2 ∉ P.map (·.2)) := hin
      obtain ⟨o9', o10', i1⟩ := wfP_inner s0 s1 s2 s6 s8 ins b ps P hn nd (by omega) hw (some (.str (one c))) (some (.int g))
      refine ⟨o9', o10', ?_⟩
      rw [List.map_cons, List.map_cons, List.foldl_cons, addP_neg hin']
      have gg : gT 2 (gsC (gN 9) (gsC (gN 10) gsN)) (pairD (c, g)) [s0, s1, s2, some (.sh (lD ins)), some (.ow (dcP P)), some (.ow (lD (P.map (·.2)))), s6, some (.sh (.int num)), s8, o9.map SD.sh, o10.map SD.sh] b = some ([s0, s1, s2, some (.sh (lD ins)), some (.ow (dcP P)), some (.ow (lD (P.map (·.2)))), s6, some (.sh (.int num)), s8, some (.sh (.str (one c))), some (.sh (.int g))], b) := rfl
      have hb : bWf [s0, s1, s2, some (.sh (lD ins)), some (.ow (dcP P)), some (.ow (lD (P.map (·.2)))), s6, some (.sh (.int num)), s8, some (.sh (.str (one c))), some (.sh (.int g))] b = .nx [s0, s1, s2, some (.sh (lD ins)), some (.ow (dcP P)), some (.ow (lD (P.map (·.2)))), s6, some (.sh (.int num)), s8, some (.sh (.str (one c))), some (.sh (.int g))] b := by
        unfold lD
        by_cases h1 : g ∈ ins
        · have h2 : g ∈ P.map (·.2) := Decidable.byContradiction fun h => hin ⟨h1, h⟩
          rw [decide_eq_true h2] at m2
          simp only [bWf, sIf, bAnd, bB, e2, eV, eInDOw, List.getElem?_cons_succ, List.getElem?_cons_zero, bind_ok_, m1, pureO_some_, decide_eq_true h1, st_ok_, if_true, keyD, m2, Bool.not_true]
          simp
        · rw [decide_eq_false h1] at m1
          simp [-inQ, -inQ_lst, bWf, m1]
      unfold loopD
      rw [gg]
      dsimp only
      rw [hb]
      exact i1
end DL

set_option maxHeartbeats 1000000
namespace DL
open PySem PySem.Spec PyProof.Rows L2
theorem getD_mem {P : List Wp} {s : Nat} (h : s < P.length) : P.getD s ("", 0) ∈ P := by
  rw [List.getD_eq_getElem?_getD, List.getElem?_eq_getElem h]
  exact List.getElem_mem h
theorem qbP_grown {x : Str} {sc : Int → List Int} {ins : List Int} {bg : Int} : ∀ (fuel : Nat) (P : List Wp) (s : Nat), Grown x sc ins bg P → s ≤ P.length → Grown x sc ins bg (qbP x sc ins fuel P s)
  | 0, P, s, g, _ => g
  | fuel + 1, P, s, g, hs => by
    unfold qbP
    by_cases h : s = P.length
    · rw [if_pos h]; exact g
    · rw [if_neg h]
      have hlt : s < P.length := by omega
      obtain ⟨T, e, _⟩ := addP_app ins (chlP x sc (P.getD s ("", 0))) P
      exact qbP_grown fuel _ (s + 1) (g.fold (getD_mem hlt) fun q hq => hq) (by rw [e, List.length_append]; omega)
section
variable {A : List D} {n : Nat} {sc : Int → List Int} (G : Gr A n sc) {x : Str} (hw : ∀ k : Int, 0 ≤ k → k < n → (sc k).length = x.length) (hx : x.length ≤ 100) {ins : List Int} (N : NsW n ins) {bg : Int} (hbi : bg ∈ ins) (hn8 : n ≤ 800)
include G hw hx N hbi hn8
theorem wfP_loop (b : Bag) : ∀ (fuel : Nat) (P : List Wp) (s : Nat), Grown x sc ins bg P → s ≤ P.length → n + 1 ≤ fuel + s → ∀ (o7 o8 o9 o10 : Option D), ∃ (m : Int) (o7' o8' o9' o10' : Option D),
    whileD (bB (e2 ltF (eV 6) (eLenOw 5))) bWfW fuel [some (.sh (.str x)), some (.sh (.lst A)), some (.sh (.int bg)), some (.sh (lD ins)), some (.ow (dcP P)), some (.ow (lD (P.map (·.2)))), some (.sh (.int s)), o7.map SD.sh, o8.map SD.sh, o9.map SD.sh, o10.map SD.sh] b =
    .nx [some (.sh (.str x)), some (.sh (.lst A)), some (.sh (.int bg)), some (.sh (lD ins)), some (.ow (dcP (qbP x sc ins fuel P s))), some (.ow (lD ((qbP x sc ins fuel P s).map (·.2)))), some (.sh (.int m)), o7'.map SD.sh, o8'.map SD.sh, o9'.map SD.sh, o10'.map SD.sh] b
  | 0, P, s, g, hs, h, _, _, _, _ => by
    have hfl : (P.map (·.2)).length ≤ ins.length := nd_sub g.nd (g.inn hbi)
    rw [List.length_map] at hfl
    have := N.len
    omega
  | fuel + 1, P, s, g, hs, h, o7, o8, o9, o10 => by
    have hfl : (P.map (·.2)).length ≤ ins.length := nd_sub g.nd (g.inn hbi)
    rw [List.length_map] at hfl
    have hnl := N.len
    by_cases hs1 : s = P.length
    · subst hs1
      refine ⟨P.length, o7, o8, o9, o10, ?_⟩
      unfold qbP
      rw [if_pos rfl]
      unfold whileD
      unfold lD
      simp
    · have hlt : s < P.length := by omega
      have hPs : P[s]? = some P[s] := List.getElem?_eq_getElem hlt
      have hm := List.getElem_mem hlt
      have hgd : P.getD s ("", 0) = P[s] := by rw [List.getD_eq_getElem?_getD, hPs]; rfl
      have hq : qbP x sc ins (fuel + 1) P s = qbP x sc ins fuel ((chlP x sc P[s]).foldl (addP ins) P) (s + 1) := by
        rw [qbP, if_neg hs1, hgd]
      rw [hq]
      generalize P[s] = p at hPs hm
      obtain ⟨w, y⟩ := p
      have hyi : y ∈ ins := g.inn hbi y (List.mem_map.mpr ⟨_, hm, rfl⟩)
      obtain ⟨y0, y1⟩ := N.lo y hyi
      obtain ⟨d, r1, r2⟩ := G.row y y0 y1
      have hlen := hw y y0 y1
      have hwl := g.len _ hm
      dsimp only at hwl
      obtain ⟨o9', o10', h1⟩ := wfP_inner (some (.sh (.str x))) (some (.sh (.lst A))) (some (.sh (.int bg))) (some (.sh (.int s))) (some (.sh d)) ins (w := w) (num := y) b (x.cps.toList.zip (sc y)) P hm g.nd (by
        rw [List.length_zip, str_len, hlen]; omega) (by omega) o9 o10
      obtain ⟨T, eT, _⟩ := addP_app ins (chlP x sc (w, y)) P
      have g2 := g.fold hm (L := chlP x sc (w, y)) fun q hq => hq
      obtain ⟨m, p7, p8, p9, p10, h5⟩ := wfP_loop b fuel _ (s + 1) g2 (by rw [eT, List.length_append]; omega) (by omega) (some (.int y)) (some d) o9' o10'
      refine ⟨m, p7, p8, p9, p10, ?_⟩
      unfold whileD
      have hlt' : (s : Int) < (P.length : Int) := by omega
      have hix : atI ((P.map (·.2)).map D.int) (s : Int) = some (.int y) := atI_nat (by rw [List.getElem?_map, List.getElem?_map, hPs]; rfl)
      have e1 : ((s + 1 : Nat) : Int) = (s : Int) + 1 := by omega
      rw [e1] at h5
      have hz : aZipX (aCons (eV 0) (aCons (eV 8) aNil)) [some (.sh (.str x)), some (.sh (.lst A)), some (.sh (.int bg)), some (.sh (lD ins)), some (.ow (dcP P)), some (.ow (lD (P.map (·.2)))), some (.sh (.int s)), some (.sh (.int y)), some (.sh d), o9.map SD.sh, o10.map SD.sh] b = .ok ((x.cps.toList.zip (sc y)).map pairD) b := by
        rw [← zip_pairs]
        rcases r2 with rfl | rfl <;> simp [aZipX]
      unfold chlP at h5
      dsimp only at h5
      unfold lD at h1 h5 hz ⊢
      simp only [bOw, bB, e2, eV, eLenOw, List.getElem?_cons_succ, List.getElem?_cons_zero, bind_ok_, ltF, List.length_map, hs1, decide_true, pureO_some_, st_ok_, if_true, decide_eq_true hlt']
      unfold bWfW
      simp only [sSeq, sAsg, eIxOw, eV, eIx, List.getElem?_cons_succ, List.getElem?_cons_zero, bind_ok_, hix, pureO_some_, st_ok_, gN, List.set_cons_succ, List.set_cons_zero, seq_nx_, ixF, r1, sFor]
      rw [hz]
      simp only [st_ok_]
      rw [h1]
      simp only [seq_nx_, sAug, List.getElem?_cons_succ, List.getElem?_cons_zero, eC, st_ok_, List.set_cons_succ, List.set_cons_zero]
      exact h5
theorem words_P (b : Bag) : F_words_from [.str x, .lst A, .int bg, lD ins] b = .ok (dcP (qbP x sc ins 100000 [("", bg)] 0)) b := by
  obtain ⟨m, o7, o8, o9, o10, h1⟩ := wfP_loop G hw hx N hbi hn8 b 100000 [("", bg)] 0 .nil (by simp) (by omega) none none none none
  unfold F_words_from G_words_from
  unfold bWfW bWf at h1
  have ed : dcP [(("" : Str), bg)] = .dct [.inl bg] [.str ""] := rfl
  rw [ed] at h1
  generalize qbP x sc ins 100000 [("", bg)] 0 = Q at h1 ⊢
  unfold lD at h1 ⊢
  simp [eDone, sWhile] at h1 ⊢
  simp [h1]
end
end DL

set_option maxHeartbeats 1000000

set_option maxHeartbeats 1000000
namespace DL
open PySem PySem.Spec PyProof.Rows L2
theorem strOk_join : ∀ {ts : List Str}, (∀ t ∈ ts, PyData.strOk t = true) → PyData.strOk (Str.join ", " ts) = true
  | [], _ => by decide +kernel
  | [t], h => h t List.mem_cons_self
  | t :: s :: ts, h => by
    show PyData.strOk (t ++ ", " ++ Str.join ", " (s :: ts)) = true
    exact strOk_app (strOk_app (h t List.mem_cons_self) (by decide +kernel)) (strOk_join fun z hz => h z (List.mem_cons_of_mem _ hz))
theorem strOk_from : ∀ {ts : List Str} {k : Nat} {acc : Str}, PyData.strOk acc = true → (∀ t ∈ ts, PyData.strOk t = true) → PyData.strOk (textFrom k acc ts) = true
  | [], _, _, h, _ => h
  | t :: ts, k, acc, h, h' => by
    show PyData.strOk (textFrom (k + 1) (acc ++ (if k > 0 then ", " else "" : String) ++ t) ts) = true
    refine strOk_from (strOk_app (strOk_app h ?_) (h' t List.mem_cons_self)) fun z hz => h' z (List.mem_cons_of_mem _ hz)
    split <;> decide +kernel
theorem shownAll_map : ∀ ps : List PyData, PyData.shownAll ps = ps.map PyData.shown
  | [] => rfl
  | p :: ps => by show p.shown :: PyData.shownAll ps = _; rw [shownAll_map ps]; rfl
theorem showableAll_map : ∀ {ps : List PyData}, (∀ p ∈ ps, p.showable = true) → PyData.showableAll ps = true
  | [], _ => rfl
  | p :: ps, h => by
    show (p.showable && PyData.showableAll ps) = true
    rw [h p List.mem_cons_self, showableAll_map fun q hq => h q (List.mem_cons_of_mem _ hq)]
    rfl
theorem hasDictAll_map : ∀ {ps : List PyData}, (∀ p ∈ ps, p.hasDict = false) → PyData.hasDictAll ps = false
  | [], _ => rfl
  | p :: ps, h => by
    show (p.hasDict || PyData.hasDictAll ps) = false
    rw [h p List.mem_cons_self, hasDictAll_map fun q hq => h q (List.mem_cons_of_mem _ hq)]
    rfl
theorem depthAll_le {k : Nat} : ∀ {ps : List PyData}, (∀ p ∈ ps, p.depth ≤ k) → PyData.depthAll ps ≤ k
  | [], _ => Nat.zero_le _
  | p :: ps, h => by
    show max p.depth (PyData.depthAll ps) ≤ k
    exact Nat.max_le.mpr ⟨h p List.mem_cons_self, depthAll_le fun q hq => h q (List.mem_cons_of_mem _ hq)⟩
theorem shown_sum {n : Nat} : ∀ {ps : List PyData}, (∀ p ∈ ps, p.shown.length ≤ n) → ((ps.map PyData.shown).map (·.length)).sum ≤ ps.length * n
  | [], _ => by simp
  | p :: ps, h => by
    have h1 := h p List.mem_cons_self
    have h2 := shown_sum fun q hq => h q (List.mem_cons_of_mem _ hq)
    rw [List.map_cons, List.map_cons, List.sum_cons, List.length_cons, Nat.add_mul, Nat.one_mul]
    omega
theorem shP_lst {ps : List PyData} {k n m : Nat} (h : ∀ p ∈ ps, ShP p k n) (hm : ps.length ≤ m) : ShP (.list ps) (k + 1) (m * (n + 2) + 3) ∧ ShP (.tuple ps) (k + 1) (m * (n + 2) + 3) := by
  have h1 := listText_len_le (PyData.shownAll ps)
  have h2 := tupleText_len_le (PyData.shownAll ps)
  have h3 := shown_sum fun p hp => (h p hp).ln
  have h4 : PyData.depthAll ps ≤ k := depthAll_le fun p hp => (h p hp).dp
  rw [shownAll_map] at h1 h2
  rw [List.length_map] at h1 h2
  have h5 : ps.length * n + 2 * ps.length ≤ m * (n + 2) := by
    rw [Nat.mul_comm 2, ← Nat.mul_add]
    exact Nat.mul_le_mul_right _ hm
  have ok : ∀ t ∈ PyData.shownAll ps, PyData.strOk t = true := fun t ht => by
    rw [shownAll_map] at ht
    obtain ⟨p, hp, rfl⟩ := List.mem_map.mp ht
    exact (h p hp).ok
  refine ⟨⟨showableAll_map fun p hp => (h p hp).sh, hasDictAll_map fun p hp => (h p hp).nd, ?_, ?_, ?_⟩, ⟨showableAll_map fun p hp => (h p hp).sh, hasDictAll_map fun p hp => (h p hp).nd, ?_, ?_, ?_⟩⟩
  · show PyData.depthAll ps + 1 ≤ k + 1; omega
  · show (listText (PyData.shownAll ps)).length ≤ _
    rw [shownAll_map]; omega
  · show PyData.strOk (textFrom 0 "[" (PyData.shownAll ps) ++ "]") = true
    exact strOk_app (strOk_from (by decide +kernel) ok) (by decide +kernel)
  · show PyData.depthAll ps + 1 ≤ k + 1; omega
  · show (tupleText (PyData.shownAll ps)).length ≤ _
    rw [shownAll_map]; omega
  · show PyData.strOk (("(" : Str) ++ Str.join ", " (PyData.shownAll ps) ++ (if (PyData.shownAll ps).length == 1 then ",)" else ")" : String)) = true
    refine strOk_app (strOk_app (by decide +kernel) (strOk_join ok)) ?_
    split <;> decide +kernel
theorem pds_all {k n : Nat} : ∀ {ds : List D}, (∀ d ∈ ds, ShB d k n) → ∃ ps, pds ds = some ps ∧ ps.length = ds.length ∧ ∀ p ∈ ps, ShP p k n
  | [], _ => ⟨[], rfl, rfl, fun p h => (by cases h)⟩
  | d :: ds, h => by
    obtain ⟨p, h1, h2⟩ := h d List.mem_cons_self
    obtain ⟨ps, h3, h4, h5⟩ := pds_all fun e he => h e (List.mem_cons_of_mem _ he)
    refine ⟨p :: ps, ?_, by simp [h4], fun q hq => ?_⟩
    · simp [pds, h1, h3]
    · rcases List.mem_cons.mp hq with rfl | hq
      · exact h2
      · exact h5 q hq
theorem shB_lst {ds : List D} {k n m : Nat} (h : ∀ d ∈ ds, ShB d k n) (hm : ds.length ≤ m) : ShB (.lst ds) (k + 1) (m * (n + 2) + 3) := by
  obtain ⟨ps, h1, h2, h3⟩ := pds_all h
  exact ⟨.list ps, by simp [D.pd, h1], (shP_lst h3 (by omega)).1⟩
theorem shB_bl (c : Bool) : ShB (.bl c) 0 5 := ⟨.bool c, rfl, rfl, rfl, Nat.le_refl _, by cases c <;> decide, by cases c <;> decide +kernel⟩
theorem shB_non : ShB .non 0 4 := ⟨.none, rfl, rfl, rfl, Nat.le_refl _, by decide, by decide +kernel⟩
theorem shB_str {x w : Str} (hx : x ∈ sgs) (h : Wd x w) : ShB (.str w) 0 (w.length + 2) := ⟨.str w, rfl, rfl, rfl, Nat.le_refl _, Nat.le_of_eq (len_rep hx h), strOk_rep hx h⟩
theorem repr_of {ds : List D} {k n : Nat} (h : ShB (.lst ds) k n) (hk : k ≤ 60) (hn : n ≤ 1000000) : ∃ z, reprF [.lst ds] = some (.str z) ∧ PyData.strOk z = true := by
  obtain ⟨p, h1, h2⟩ := h
  refine ⟨p.shown, ?_, h2.ok⟩
  have a := Nat.le_trans h2.dp hk
  have b := Nat.le_trans h2.ln hn
  simp only [reprF, h1, Option.bind_some, h2.sh, h2.nd, a, b, and_self, if_true]
end DL

set_option maxHeartbeats 1000000

set_option maxHeartbeats 1000000

set_option maxHeartbeats 1000000
namespace DL
open PySem PySem.Spec PyProof.Rows L2
def dueD (P : List Wp) (gs : List Int) : D := match P.filter fun p => decide (p.2 ∈ gs) with
  | [] => .non
  | p :: _ => .str p.1
theorem items_P (P : List Wp) : itemsD (P.map fun p => Sum.inl p.2) (P.map fun p => D.str p.1) = P.map fun p => D.tup [.int p.2, .str p.1] := by
  unfold itemsD
  induction P with
  | nil => rfl
  | cons p P ih =>
    rw [List.map_cons, List.map_cons, List.map_cons, List.zipWith_cons_cons, ih]
    rfl
end DL

set_option maxHeartbeats 1000000

set_option maxHeartbeats 1000000

set_option maxHeartbeats 1000000
namespace DL
open PySem PySem.Spec PyProof.Rows L2
section
variable {k : Nat} {rs : List Row} (hr : RowsOk k rs) (hk : k ≤ 1000)
include hr hk
theorem ChN.le {c : Int → Int} (v : ValidC rs c) {S : Int → Prop} {m : Int} (h : ChN rs S m) : ∀ U, TopIs c S U → m ≤ U := by
  induction h with
  | @base S T h t =>
    intro U u
    have := v S h.ne h.sc h.re _ U t u
    omega
  | @sub S L T m h t hL hs ih =>
    intro U u
    have e := v S h.ne h.sc h.re _ U t u
    obtain ⟨U', u'⟩ := top_ex hL.loop.ne (fun a ha => reach_n hr hk (hL.loop.re a ha)) c
    have i1 := ih U' u'
    have i2 : U' ≤ U := by
      obtain ⟨a, a1, a2⟩ := u'.1
      have := u.2 a (hs a a1)
      omega
    split <;> omega
end
end DL

set_option maxHeartbeats 1000000

set_option maxHeartbeats 1000000
namespace DL
open PySem PySem.Spec PyProof.Rows L2
theorem Grown.head {x : Str} {sc : Int → List Int} {ins : List Int} {bg : Int} {P : List Wp} (g : Grown x sc ins bg P) : ∃ Q, P = (("" : Str), bg) :: Q := by
  induction g with
  | nil => exact ⟨[], rfl⟩
  | @snoc P p q g hp hq hi hn ih =>
    obtain ⟨Q, rfl⟩ := ih
    exact ⟨Q ++ [q], rfl⟩
theorem Grown.leads {x : Str} (hx : x ∈ sgs) {sc : Int → List Int} {ins : List Int} {bg : Int} {P : List Wp} (g : Grown x sc ins bg P) : ∀ p ∈ P, Wd x p.1 ∧ wE x sc bg p.1.cps.toList = p.2 := by
  induction g with
  | nil =>
    intro p hp
    have : p = (("" : Str), bg) := by simpa using hp
    rw [this]
    exact ⟨fun c hc => (by cases hc), rfl⟩
  | @snoc P p q g hp hq hi hn ih =>
    intro z hz
    rcases List.mem_append.mp hz with h | h
    · exact ih z h
    · have : z = q := by simpa using h
      rw [this]
      obtain ⟨w, hw, rfl⟩ := List.mem_map.mp hq
      obtain ⟨i1, i2⟩ := ih p hp
      obtain ⟨i, hi1, e⟩ := List.mem_iff_getElem.mp hw
      have hz : (x.cps.toList.zip (sc p.2))[i]? = some w := by rw [List.getElem?_eq_getElem hi1, e]
      rw [List.getElem?_zip_eq_some] at hz
      obtain ⟨z1, z2⟩ := hz
      refine ⟨app_wd i1 (oneW (List.mem_of_getElem? z1)), ?_⟩
      show wE x sc bg (p.1 ++ one w.1).cps.toList = w.2
      rw [app_list, wE_app, i2]
      show gI sc p.2 (idx x w.1) = w.2
      rw [idx_pos hx z1]
      unfold gI
      rw [z2]
      rfl
def fstG (x : Str) (sc : Int → List Int) (n : Nat) : List Wp := qbP x sc (nums n) 100000 [("", 0)] 0
theorem fstG_grown (x : Str) (sc : Int → List Int) (n : Nat) : Grown x sc (nums n) 0 (fstG x sc n) := qbP_grown 100000 _ 0 .nil (by simp)
section
variable {x : Str} (hx : x ∈ sgs) {A : List D} {n : Nat} {sc : Int → List Int} (G : Gr A n sc) (hw : ∀ k : Int, 0 ≤ k → k < n → (sc k).length = x.length) (n0 : 1 ≤ n) (hn8 : n ≤ 800)
include hx G hw n0 hn8
theorem fstG_len : (fstG x sc n).length ≤ n := by
  have hb0 : (0 : Int) ∈ nums n := mem_nums.mpr ⟨by decide, by omega⟩
  have g := fstG_grown x sc n
  have := nd_sub g.nd (g.inn hb0)
  rw [List.length_map, len_nums] at this
  exact this
theorem fstG_words (b : Bag) : F_words_from [.str x, .lst A, .int 0, lD (nums n)] b = .ok (dcP (fstG x sc n)) b := by
  obtain ⟨l1, l2⟩ := sg_len hx
  exact words_P G hw (by omega) (ns_nums n).w (mem_nums.mpr ⟨by decide, by omega⟩) hn8 b
theorem gfirst_ok {d3 : D} {gs : List Int} (hd : rowIs d3 gs) (b : Bag) : F_first_word_to [.str x, .lst A, .int 0, d3] b = .ok (dueD (fstG x sc n) gs) b := by
  have hF6 := fstG_len hx G hw n0 hn8
  have hw := fstG_words hx G hw n0 hn8 b
  have hal : A.length = n := G.len
  have hit := items_P (fstG x sc n)
  generalize fstG x sc n = P at hF6 hw hit ⊢
  have h := lc_filtB (g := gT 2 (gsC (gN 6) (gsC (gN 7) gsN))) (T := (bB (e2 inQ (eV 6) (eV 3)))) (F := eV 7) (k := fun p : Wp => D.tup [.int p.2, .str p.1]) (f := fun p => D.str p.1) (t := fun p => decide (p.2 ∈ gs)) P [some (.sh (.str x)), some (.sh (.lst A)), some (.sh (.int 0)), some (.sh d3), some (.sh (dcP P)), none, none, none] b (fun p hp => by
    have hq := inQ_row hd p.2
    refine ⟨_, rfl, ?_, rfl⟩
    simp [-inQ, -inQ_lst, hq])
  have hfl : (P.filter fun p => decide (p.2 ∈ gs)).length ≤ 800 := Nat.le_trans (List.length_filter_le _ _) (by omega)
  have hP' : P.length ≤ 100000 := by omega
  unfold dueD
  generalize hF : (P.filter fun p => decide (p.2 ∈ gs)) = Q at h hfl
  have hm0 : (0 : Int) ≤ n := by omega
  have hm1 : (n : Int) ≤ 100000 := by omega
  have hm1' : n ≤ 100000 := by omega
  have hm2 : (n : Int) < 9223372036854775808 := by omega
  have hm3 : n < 9223372036854775808 := by omega
  unfold F_first_word_to G_first_word_to
  unfold lD at hw
  rw [← hit] at h
  have hil : (itemsD (P.map fun p => Sum.inl p.2) (P.map fun p => D.str p.1)).length ≤ 100000 := by rw [hit, List.length_map]; exact hP'
  cases Q with
  | nil =>
    simp only [List.map_nil] at h
    simp [-inQ, hal, hm0, hm1, hm1', hm2, hm3, range_nums, hw, aItems] at h ⊢
    simp [h, hil]
  | cons p Q =>
    simp only [List.map_cons] at h
    have hQ : Q.length ≤ 99999 := by simp at hfl; omega
    simp [-inQ, hal, hm0, hm1, hm1', hm2, hm3, range_nums, hw, aItems] at h ⊢
    simp [h, hil, hQ]
end
/-- none of them is met, or a word to one of them -/
theorem due_cases {P : List Wp} {gs : List Int} : (dueD P gs = .non ∧ ∀ p ∈ P, p.2 ∉ gs) ∨ ∃ p ∈ P, p.2 ∈ gs ∧ dueD P gs = .str p.1 := by
  unfold dueD
  cases h : P.filter fun p => decide (p.2 ∈ gs) with
  | nil =>
    left
    rw [List.filter_eq_nil_iff] at h
    exact ⟨rfl, fun p hp => by simpa using h p hp⟩
  | cons p Q =>
    right
    have : p ∈ P.filter fun p => decide (p.2 ∈ gs) := by rw [h]; exact List.mem_cons_self
    obtain ⟨h1, h2⟩ := List.mem_filter.mp this
    exact ⟨p, h1, by simpa using h2, rfl⟩
end DL

set_option maxHeartbeats 1000000
namespace DL
open PySem PySem.Spec PyProof.Rows L2
def asE (rs1 rs2 : List Row) : Ask := [(col1 rs1 rs2, 0), (col2 rs1 rs2, 0)]
def FreeP (rs1 rs2 : List Row) (k : Int) : Prop := (∃ S, GLoop (scP rs1 rs2) (asOf (asE rs1 rs2)) S ∧ (∀ a, S a → a ∈ nums (rs1.length * rs2.length)) ∧ S k) ∨ ∃ S g, GLoop (scP rs1 rs2) (asOf (asE rs1 rs2)) S ∧ (∀ a, S a → a ∈ nums (rs1.length * rs2.length)) ∧ S g ∧ Pth (scP rs1 rs2) (fun _ => True) k g
open Classical in
noncomputable def stuckL (rs1 rs2 : List Row) : List Int := (nums (rs1.length * rs2.length)).filter fun k : Int => decide (k / (rs2.length : Int) ∈ leadL rs1 0) && !decide (FreeP rs1 rs2 k)
theorem flat_lc8 (d0 d1 d2 d3 d4 d5 : D) (b : Bag) : ∀ (Ls : List (List Int)), lc2D (gN 8) (aAny (eV 8)) [9] (gN 9) (eV 9) (Ls.map lD) [some (.sh d0), some (.sh d1), some (.sh d2), some (.sh d3), some (.sh d4), some (.sh d5), none, none, none, none] b = .ok (Ls.flatten.map D.int) b
  | [] => rfl
  | l :: Ls => by
    have ih := flat_lc8 d0 d1 d2 d3 d4 d5 b Ls
    rw [List.map_cons]
    unfold lc2D
    have h2 := lc_ints (i := 9) (b := b) (ρ := [some (.sh d0), some (.sh d1), some (.sh d2), some (.sh d3), some (.sh d4), some (.sh d5), none, none, some (.sh (lD l)), none]) (F := eV 9) D.int l (fun k _ => by simp)
    simp only [lD] at h2 ih ⊢
    simp [h2, ih]
section
variable (M : Addr) {x : Str} (hx : x ∈ sgs) {rs1 rs2 : List Row} (h1 : RowsOk x.length rs1) (h2 : RowsOk x.length rs2)
include hx h1 h2
open Classical in
theorem stuck_ok (b : Bag) : F_stuck_pairs M [machD M x rs1, machD M x rs2] b = .ok (lD (stuckL rs1 rs2)) b := by
  obtain ⟨l1, l2⟩ := sg_len hx
  have n1 := h1.n1
  have n2 := h2.n1
  have n10 := h1.n0
  have n20 := h2.n0
  have hmul : rs1.length * rs2.length ≤ 6 * 6 := Nat.mul_le_mul n1 n2
  have hpos : 0 < rs1.length * rs2.length := Nat.mul_pos (by omega) (by omega)
  have c1 := pair_colours_ok M hx h1 h2 b
  have c2 := pair_arrows_ok M hx h1 h2 b
  have G := gr_P h1 h2 (by omega : x.length ≤ 1000)
  have lc1 : (col1 rs1 rs2).length = rs1.length * rs2.length := flat_len (fun (r t : Row) => r.1) rs2 rs1
  have lc2 : (col2 rs1 rs2).length = rs1.length * rs2.length := flat_len (fun (r t : Row) => t.1) rs2 rs1
  have hal : (arrP rs1 rs2).length = rs1.length * rs2.length := G.len
  have hlive := live_ok M h1 (by omega) b
  have hlen := len_M M x rs2 b
  generalize hn : rs1.length * rs2.length = n at *
  obtain ⟨Ls, h4, I, hLn⟩ := laa_ok G (ns_nums n) (asE rs1 rs2) (fun p hp => by
    have hp : p = (col1 rs1 rs2, 0) ∨ p = (col2 rs1 rs2, 0) := by simpa [asE] using hp
    rcases hp with rfl | rfl
    · exact lc1
    · exact lc2) b
  have h5 := lead_ok G Ls.flatten b
  have hfl : Ls.flatten.length ≤ 100000 := by
    have := sum_len n Ls fun l hl => by
      have : Ns n l := ⟨I.fnd l hl, fun k hk => mem_nums.mp (I.fsub l hl k hk)⟩
      exact this.len
    have h6 : Ls.length * n ≤ 73 * 36 := Nat.mul_le_mul (by omega) (by omega)
    omega
  have hLl : Ls.length ≤ 100000 := by omega
  have hg : ∀ k, k ∈ Ls.flatten ↔ ∃ S, GLoop (scP rs1 rs2) (asOf (asE rs1 rs2)) S ∧ (∀ a, S a → a ∈ nums n) ∧ S k := fun k => by
    rw [List.mem_flatten]
    constructor
    · rintro ⟨l, hl, hk⟩
      exact ⟨(· ∈ l), I.fgood l hl, fun a ha => I.fsub l hl a ha, hk⟩
    · rintro ⟨S, h1, h2, hk⟩
      rcases I.all S h1 h2 with ⟨l, hl, h⟩ | ⟨w, hw, _⟩
      · exact ⟨l, hl, h k hk⟩
      · cases hw
  have e : (nums n).filter (ldI (scP rs1 rs2) Ls.flatten n) = (nums n).filter fun k => decide (FreeP rs1 rs2 k) := by
    apply List.filter_congr
    intro k hk
    rw [Bool.eq_iff_iff, it_iff G.go hk, decide_eq_true_eq]
    unfold Rch FreeP
    rw [hn]
    constructor
    · rintro (h | ⟨g, h, hp⟩)
      · exact .inl ((hg k).mp h)
      · obtain ⟨S, hS, hSn, hSg⟩ := (hg g).mp h
        exact .inr ⟨S, g, hS, hSn, hSg, hp⟩
    · rintro (h | ⟨S, g, hS, hSn, hSg, hp⟩)
      · exact .inl ((hg k).mpr h)
      · exact .inr ⟨g, (hg g).mpr ⟨S, hS, hSn, hSg⟩, hp⟩
  rw [e] at h5
  generalize hfree : ((nums n).filter fun k => decide (FreeP rs1 rs2 k)) = free at h5
  have hfm : ∀ k, k ∈ nums n → (k ∈ free ↔ FreeP rs1 rs2 k) := fun k hk => by
    rw [← hfree, List.mem_filter, decide_eq_true_eq]
    exact ⟨fun h => h.2, fun h => ⟨hk, h⟩⟩
  have hflat := flat_lc8 (machD M x rs1) (machD M x rs2) (.lst (arrP rs1 rs2)) (.lst ((col1 rs1 rs2).map D.int)) (.lst ((col2 rs1 rs2).map D.int)) (.lst (Ls.map lD)) b Ls
  have hm0 : (0 : Int) ≤ n := by omega
  have hm1 : (n : Int) ≤ 100000 := by omega
  have hm1' : n ≤ 100000 := by omega
  have hm2 : (n : Int) < 9223372036854775808 := by omega
  have hm3 : n < 9223372036854775808 := by omega
  have hm4 : (n : Int) ≤ 1000000 := by omega
  have hrng := range_nums n
  have hnn := len_nums n
  have r0 : sAsg (eCall (F_pair_arrows M) (aCons (eV 0) (aCons (eV 1) aNil))) (gN 2) [some (.sh (machD M x rs1)), some (.sh (machD M x rs2)), none, none, none, none, none, none, none, none] b = .nx [some (.sh (machD M x rs1)), some (.sh (machD M x rs2)), some (.sh (.lst (arrP rs1 rs2))), none, none, none, none, none, none, none] b := by
    simp [c2]
  have r1 : sAsg (eCall (F_pair_colours M) (aCons (eV 0) (aCons (eV 1) aNil))) (gT 2 (gsC (gN 3) (gsC (gN 4) gsN))) [some (.sh (machD M x rs1)), some (.sh (machD M x rs2)), some (.sh (.lst (arrP rs1 rs2))), none, none, none, none, none, none, none] b = .nx [some (.sh (machD M x rs1)), some (.sh (machD M x rs2)), some (.sh (.lst (arrP rs1 rs2))), some (.sh (.lst ((col1 rs1 rs2).map D.int))), some (.sh (.lst ((col2 rs1 rs2).map D.int))), none, none, none, none, none] b := by
    simp [c1]
  have r2 : sAsg (eCall (F_loops_as_asked) (aCons (eV 2) (aCons (eLstRg (eB lenF (aCons (eV 2) aNil))) (aCons (eLst (aCons (eTup (aCons (eV 3) (aCons (eC (.int 0)) aNil))) (aCons (eTup (aCons (eV 4) (aCons (eC (.int 0)) aNil))) aNil))) aNil)))) (gN 5) [some (.sh (machD M x rs1)), some (.sh (machD M x rs2)), some (.sh (.lst (arrP rs1 rs2))), some (.sh (.lst ((col1 rs1 rs2).map D.int))), some (.sh (.lst ((col2 rs1 rs2).map D.int))), none, none, none, none, none] b = .nx [some (.sh (machD M x rs1)), some (.sh (machD M x rs2)), some (.sh (.lst (arrP rs1 rs2))), some (.sh (.lst ((col1 rs1 rs2).map D.int))), some (.sh (.lst ((col2 rs1 rs2).map D.int))), some (.sh (.lst (Ls.map lD))), none, none, none, none] b := by
    have h4' : F_loops_as_asked [.lst (arrP rs1 rs2), .lst ((nums n).map D.int), .lst [.tup [.lst ((col1 rs1 rs2).map D.int), .int 0], .tup [.lst ((col2 rs1 rs2).map D.int), .int 0]]] b = .ok (.lst (Ls.map lD)) b := h4
    simp [hal, hm0, hm1, hm1', hm2, hm3, hrng, h4']
  have r3 : sAsg (eCall (F_leading_to) (aCons (eV 2) (aCons (eLc2 (aAny (eV 5)) [8, 9] (gN 8) (aAny (eV 8)) [9] (gN 9) (eV 9)) aNil))) (gN 6) [some (.sh (machD M x rs1)), some (.sh (machD M x rs2)), some (.sh (.lst (arrP rs1 rs2))), some (.sh (.lst ((col1 rs1 rs2).map D.int))), some (.sh (.lst ((col2 rs1 rs2).map D.int))), some (.sh (.lst (Ls.map lD))), none, none, none, none] b = .nx [some (.sh (machD M x rs1)), some (.sh (machD M x rs2)), some (.sh (.lst (arrP rs1 rs2))), some (.sh (.lst ((col1 rs1 rs2).map D.int))), some (.sh (.lst ((col2 rs1 rs2).map D.int))), some (.sh (.lst (Ls.map lD))), some (.sh (lD free)), none, none, none] b := by
    unfold lD at *
    simp [hLl, -List.map_flatten] at hflat ⊢
    have hfl2 : (Ls.map List.length).sum ≤ 100000 := by rw [← List.length_flatten]; exact hfl
    simp [hflat, hfl2, h5, -List.map_flatten]
  have r4 : sAsg (eCall (F_live M) (aCons (eV 0) aNil)) (gN 7) [some (.sh (machD M x rs1)), some (.sh (machD M x rs2)), some (.sh (.lst (arrP rs1 rs2))), some (.sh (.lst ((col1 rs1 rs2).map D.int))), some (.sh (.lst ((col2 rs1 rs2).map D.int))), some (.sh (.lst (Ls.map lD))), some (.sh (lD free)), none, none, none] b = .nx [some (.sh (machD M x rs1)), some (.sh (machD M x rs2)), some (.sh (.lst (arrP rs1 rs2))), some (.sh (.lst ((col1 rs1 rs2).map D.int))), some (.sh (.lst ((col2 rs1 rs2).map D.int))), some (.sh (.lst (Ls.map lD))), some (.sh (lD free)), some (.sh (.tup ((leadL rs1 0).map D.int))), none, none] b := by
    simp [hlive]
  have hlc := lc_filt (i := 9) (b := b) (ρ := [some (.sh (machD M x rs1)), some (.sh (machD M x rs2)), some (.sh (.lst (arrP rs1 rs2))), some (.sh (.lst ((col1 rs1 rs2).map D.int))), some (.sh (.lst ((col2 rs1 rs2).map D.int))), some (.sh (.lst (Ls.map lD))), some (.sh (lD free)), some (.sh (.tup ((leadL rs1 0).map D.int))), none, none]) (T := (bAnd (bB (e2 inQ (e2 fdivF (eV 9) (eLenO M (F_Machine_len_ M) (aCons (eV 1) aNil))) (eV 7))) (bB (e2 ninQ (eV 9) (eV 6))))) (F := eV 9) (fun k : Int => decide (k / (rs2.length : Int) ∈ leadL rs1 0) && !decide (FreeP rs1 rs2 k)) D.int (nums n) (fun k hk => by
    have q1 := inQ_tup (k / (rs2.length : Int)) (leadL rs1 0)
    have q2 := ninQ_lst k free
    have hp : (0 : Int) < rs2.length := by omega
    have hq : (rs2.length : Int) < 1073741824 := by omega
    have hl0 : (0 : Int) ≤ rs2.length := by omega
    have hl2 : (rs2.length : Int) < 9223372036854775808 := by omega
    have hl3 : rs2.length < 9223372036854775808 := by omega
    have hfk : decide (k ∈ free) = decide (FreeP rs1 rs2 k) := by
      rw [Bool.eq_iff_iff, decide_eq_true_eq, decide_eq_true_eq]
      exact hfm k hk
    rw [hfk] at q2
    have hp' : 0 < rs2.length := by omega
    have hq' : rs2.length < 1073741824 := by omega
    unfold machD at hlen ⊢
    unfold lD
    by_cases hd : k / (rs2.length : Int) ∈ leadL rs1 0
    · rw [decide_eq_true hd] at q1
      simp [-inQ, -ninQ, -inQ_tup, -ninQ_lst, hlen, hp, hq, hp', hq', hl0, hl2, hl3, q1, q2, hd]
    · rw [decide_eq_false hd] at q1
      simp [-inQ, -ninQ, -inQ_tup, -ninQ_lst, hlen, hp, hq, hp', hq', hl0, hl2, hl3, q1, q2, hd]) (fun k hk _ => by simp)
  have hst2 : stuckL rs1 rs2 = (nums n).filter fun k : Int => decide (k / (rs2.length : Int) ∈ leadL rs1 0) && !decide (FreeP rs1 rs2 k) := by
    unfold stuckL
    rw [hn]
  rw [hst2]
  have r5 : sRet (eLc (aRng (aCons (eB lenF (aCons (eV 2) aNil)) aNil)) [9] (gN 9) (bAnd (bB (e2 inQ (e2 fdivF (eV 9) (eLenO M (F_Machine_len_ M) (aCons (eV 1) aNil))) (eV 7))) (bB (e2 ninQ (eV 9) (eV 6)))) (eV 9)) [some (.sh (machD M x rs1)), some (.sh (machD M x rs2)), some (.sh (.lst (arrP rs1 rs2))), some (.sh (.lst ((col1 rs1 rs2).map D.int))), some (.sh (.lst ((col2 rs1 rs2).map D.int))), some (.sh (.lst (Ls.map lD))), some (.sh (lD free)), some (.sh (.tup ((leadL rs1 0).map D.int))), none, none] b = .rt (lD ((nums n).filter fun k : Int => decide (k / (rs2.length : Int) ∈ leadL rs1 0) && !decide (FreeP rs1 rs2 k))) b := by
    have ha : aRng (aCons (eB lenF (aCons (eV 2) aNil)) aNil) [some (.sh (machD M x rs1)), some (.sh (machD M x rs2)), some (.sh (.lst (arrP rs1 rs2))), some (.sh (.lst ((col1 rs1 rs2).map D.int))), some (.sh (.lst ((col2 rs1 rs2).map D.int))), some (.sh (.lst (Ls.map lD))), some (.sh (lD free)), some (.sh (.tup ((leadL rs1 0).map D.int))), none, none] b = .ok ((nums n).map D.int) b := by
      simp [aRng, hal, hm1', hm4, hrng]
    have hl9 : ((nums n).map D.int).length ≤ 100000 := by rw [List.length_map, hnn]; exact hm1'
    have hu : wipeE (unown [some (.sh (machD M x rs1)), some (.sh (machD M x rs2)), some (.sh (.lst (arrP rs1 rs2))), some (.sh (.lst ((col1 rs1 rs2).map D.int))), some (.sh (.lst ((col2 rs1 rs2).map D.int))), some (.sh (.lst (Ls.map lD))), some (.sh (lD free)), some (.sh (.tup ((leadL rs1 0).map D.int))), none, none]) [9] = [some (.sh (machD M x rs1)), some (.sh (machD M x rs2)), some (.sh (.lst (arrP rs1 rs2))), some (.sh (.lst ((col1 rs1 rs2).map D.int))), some (.sh (.lst ((col2 rs1 rs2).map D.int))), some (.sh (.lst (Ls.map lD))), some (.sh (lD free)), some (.sh (.tup ((leadL rs1 0).map D.int))), none, none] := rfl
    simp only [sRet, eLc, ha, bind_ok_, hl9, if_true, hu, hlc, st_ok_]
    rfl
  have eF : F_stuck_pairs M = runD 10 2 (G_stuck_pairs M) := rfl
  have hst : startE 10 [machD M x rs1, machD M x rs2] = [some (.sh (machD M x rs1)), some (.sh (machD M x rs2)), none, none, none, none, none, none, none, none] := rfl
  rw [eF]
  simp only [runD, List.length_cons, List.length_nil, if_true, hst]
  unfold G_stuck_pairs
  rw [seq_step r0, seq_step r1, seq_step r2, seq_step r3, seq_step r4, r5]
  rfl
theorem jam_eq (b : Bag) : F_jam M [machD M x rs1, machD M x rs2] b = .ok (dueD (fstG x (scP rs1 rs2) (rs1.length * rs2.length)) (stuckL rs1 rs2)) b := by
  obtain ⟨l1, l2⟩ := sg_len hx
  have n1 := h1.n1
  have n2 := h2.n1
  have n10 := h1.n0
  have n20 := h2.n0
  have hmul : rs1.length * rs2.length ≤ 6 * 6 := Nat.mul_le_mul n1 n2
  have hpos : 0 < rs1.length * rs2.length := Nat.mul_pos (by omega) (by omega)
  have c0 := check_pair_ok M hx h1 h2 b
  have c2 := pair_arrows_ok M hx h1 h2 b
  have c3 := stuck_ok M hx h1 h2 b
  have f1 := fld_l M x rs1
  have G := gr_P h1 h2 (by omega : x.length ≤ 1000)
  have c4 := gfirst_ok hx G (scP_len h1 h2 (by omega)) (by omega) (by omega) (d3 := lD (stuckL rs1 rs2)) (.inr rfl) b
  unfold F_jam G_jam
  unfold machD at c0 c2 c3 f1 ⊢
  simp [c0, c2, c3, f1, c4]
end
end DL

set_option maxHeartbeats 1000000
namespace DL
open PySem PySem.Spec PyProof.Rows L2
theorem wE_rch {x : Str} (hx : x ∈ sgs) {n : Nat} {sc : Int → List Int} (GX : GrX x n sc) : ∀ (w : List Nat) (s : Int), WdN x w → 0 ≤ s → s < n → RchG sc s (wE x sc s w)
  | [], _, _, _, _ => .inl rfl
  | c :: w, s, hw, s0, s1 => by
    obtain ⟨hm, g0, g1⟩ := stepX hx GX s0 s1 (hw c List.mem_cons_self)
    rcases wE_rch hx GX w _ (fun d hd => hw d (List.mem_cons_of_mem _ hd)) g0 g1 with h | h
    · refine .inr ?_
      show Pth sc (fun _ => True) s (wE x sc (gI sc s (idx x c)) w)
      rw [h]
      exact .one hm trivial
    · exact .inr (.step hm trivial h)
theorem pth_in {n : Nat} {sc : Int → List Int} (go : ∀ k : Int, 0 ≤ k → k < n → ∀ g ∈ sc k, 0 ≤ g ∧ g < n) {a g : Int} (h : Pth sc (fun _ => True) a g) : 0 ≤ a → a < n → Pth sc (· ∈ nums n) a g := by
  induction h with
  | one h1 h2 => exact fun a0 a1 => .one h1 (mem_nums.mpr (go _ a0 a1 _ h1))
  | step h1 h2 h3 ih =>
    intro a0 a1
    obtain ⟨g0, g1⟩ := go _ a0 a1 _ h1
    exact .step h1 (mem_nums.mpr ⟨g0, g1⟩) (ih g0 g1)
section
variable {x : Str} (hx : x ∈ sgs) {rs1 rs2 : List Row} (h1 : RowsOk x.length rs1) (h2 : RowsOk x.length rs2)
include hx h1 h2
theorem end_P {w : List Nat} (hw : WdN x w) : wE x (scP rs1 rs2) 0 w = pk rs2.length (wE x (scM rs1) 0 w) (wE x (scM rs2) 0 w) := by
  have n10 := h1.n0
  have n20 := h2.n0
  have h := (walk_P hx h1 h2 w (i := 0) (j := 0) hw (by decide) (by omega) (by decide) (by omega)).1
  have e : pk rs2.length 0 0 = 0 := by unfold pk; simp
  rw [e] at h
  rw [h, wE_M, wE_M]
theorem free_iff {w : List Nat} (hw : WdN x w) : FreeP rs1 rs2 (pk rs2.length (wE x (scM rs1) 0 w) (wE x (scM rs2) 0 w)) ↔ ∃ p v, WdN x p ∧ WdN x v ∧ v ≠ [] ∧ EvW x rs1 (w ++ p) v ∧ EvW x rs2 (w ++ p) v := by
  obtain ⟨l1, l2⟩ := sg_len hx
  have n1 := h1.n1
  have n2 := h2.n1
  have n10 := h1.n0
  have n20 := h2.n0
  have hmul : rs1.length * rs2.length ≤ 6 * 6 := Nat.mul_le_mul n1 n2
  have hpos : 0 < rs1.length * rs2.length := Nat.mul_pos (by omega) (by omega)
  have GX := grX_P hx h1.w h2.w (by decide)
  have G := gr_P h1 h2 (by omega : x.length ≤ 1000)
  obtain ⟨a0, a1⟩ := walk_lo hx h1 w 0 hw (by decide) (by omega)
  obtain ⟨c0, c1⟩ := walk_lo hx h2 w 0 hw (by decide) (by omega)
  obtain ⟨k0, k1⟩ := pk_lt a0 a1 c0 c1
  constructor
  · intro h
    have hend := end_P hx h1 h2 hw
    generalize hk : pk rs2.length (wE x (scM rs1) 0 w) (wE x (scM rs2) 0 w) = k at *
    obtain ⟨S, hS, hSn, p, hp, hpS⟩ : ∃ S, GLoop (scP rs1 rs2) (asOf (asE rs1 rs2)) S ∧ (∀ a, S a → a ∈ nums (rs1.length * rs2.length)) ∧ ∃ p : List Nat, WdN x p ∧ S (wE x (scP rs1 rs2) k p) := by
      rcases h with ⟨S, hS, hSn, hs⟩ | ⟨S, g, hS, hSn, hg, hp⟩
      · exact ⟨S, hS, hSn, [], fun c hc => (by cases hc), hs⟩
      · obtain ⟨w', w1, _, w3, _⟩ := pth_word hx GX hp k0 k1
        exact ⟨S, hS, hSn, w', w1, by rw [w3]; exact hg⟩
    obtain ⟨_, hSC, hT⟩ := hS
    obtain ⟨T1, ⟨⟨t1, t1S, t1T⟩, t1m⟩, t1e⟩ := hT (colL (col1 rs1 rs2), 0) (by simp [asOf, asE])
    obtain ⟨T2, ⟨⟨t2, t2S, t2T⟩, t2m⟩, t2e⟩ := hT (colL (col2 rs1 rs2), 0) (by simp [asOf, asE])
    have hlo : ∀ a, S a → 0 ≤ a ∧ a < (rs1.length * rs2.length : Nat) := fun a ha => mem_nums.mp (hSn a ha)
    obtain ⟨q, q1, q2, q3, _⟩ := pth_word hx GX (hSC _ _ hpS t1S) (hlo _ hpS).1 (hlo _ hpS).2
    obtain ⟨v1, v1w, v1n, v1e, v1S⟩ := pth_word hx GX (hSC _ _ t1S t2S) (hlo _ t1S).1 (hlo _ t1S).2
    obtain ⟨v2, v2w, v2n, v2e, v2S⟩ := pth_word hx GX (hSC _ _ t2S t1S) (hlo _ t2S).1 (hlo _ t2S).2
    have hwp : WdN x (p ++ q) := fun c hc => (List.mem_append.mp hc).elim (hp c) (q1 c)
    have hv : WdN x (v1 ++ v2) := fun c hc => (List.mem_append.mp hc).elim (v1w c) (v2w c)
    have hv0 : v1 ++ v2 ≠ [] := fun e => v1n (List.append_eq_nil_iff.mp e).1
    have hu : WdN x (w ++ (p ++ q)) := fun c hc => (List.mem_append.mp hc).elim (hw c) (hwp c)
    have hE : wE x (scP rs1 rs2) 0 (w ++ (p ++ q)) = t1 := by rw [wE_app, hend, wE_app, q3]
    have hb : wE x (scP rs1 rs2) (wE x (scP rs1 rs2) 0 (w ++ (p ++ q))) (v1 ++ v2) = wE x (scP rs1 rs2) 0 (w ++ (p ++ q)) := by rw [hE, wE_app, v1e, v2e]
    have hmem : ∀ j, j ∈ wL x (scP rs1 rs2) t1 (v1 ++ v2) → S j := fun j hj => by
      rw [wL_app, v1e] at hj
      exact (List.mem_append.mp hj).elim (v1S j) (v2S j)
    have m1 : t1 ∈ wL x (scP rs1 rs2) t1 (v1 ++ v2) := by
      rw [wL_app, v1e]
      have := wE_mem x (scP rs1 rs2) v2 t2 v2n
      rw [v2e] at this
      exact List.mem_append_right _ this
    have m2 : t2 ∈ wL x (scP rs1 rs2) t1 (v1 ++ v2) := by
      rw [wL_app]
      have := wE_mem x (scP rs1 rs2) v1 t1 v1n
      rw [v1e] at this
      exact List.mem_append_left _ this
    have L1 := lim_back hx GX hv0 hb (k := colL (col1 rs1 rs2)) (T := T1) (by rw [hE]; exact ⟨⟨t1, m1, t1T⟩, fun j hj => t1m j (hmem j hj)⟩)
    have L2' := lim_back hx GX hv0 hb (k := colL (col2 rs1 rs2)) (T := T2) (by rw [hE]; exact ⟨⟨t2, m2, t2T⟩, fun j hj => t2m j (hmem j hj)⟩)
    have hα := ltr_in (x := x) hu hv hv0
    have hrn := rnW_P hx h1.w h2.w (by decide) hα
    have i1 := rnW_in hx (grX_W h1.w) hα
    have i2 := rnW_in hx (grX_W h2.w) hα
    refine ⟨p ++ q, v1 ++ v2, hwp, hv, hv0, ⟨T1, ?_, t1e⟩, ⟨T2, ?_, t2e⟩⟩
    · have : (fun i => colour rs1 (rnW x (scM rs1) (ltr (w ++ (p ++ q)) (v1 ++ v2)) i)) = fun i => colL (col1 rs1 rs2) (rnW x (scP rs1 rs2) (ltr (w ++ (p ++ q)) (v1 ++ v2)) i) := funext fun i => by
        rw [hrn i, col1_at h1 h2 (by omega : x.length ≤ 1000) (i1 i).1 (i1 i).2 (i2 i).1 (i2 i).2]
      rw [this]
      exact L1
    · have : (fun i => colour rs2 (rnW x (scM rs2) (ltr (w ++ (p ++ q)) (v1 ++ v2)) i)) = fun i => colL (col2 rs1 rs2) (rnW x (scP rs1 rs2) (ltr (w ++ (p ++ q)) (v1 ++ v2)) i) := funext fun i => by
        rw [hrn i, col2_at h1 h2 (by omega : x.length ≤ 1000) (i1 i).1 (i1 i).2 (i2 i).1 (i2 i).2]
      rw [this]
      exact L2'
  · rintro ⟨p, v, hp, hv, hv0, e1', e2'⟩
    have hu : WdN x (w ++ p) := fun c hc => (List.mem_append.mp hc).elim (hw c) (hp c)
    obtain ⟨S, s1, s2, s3, s3', s4, s5⟩ := inf_P hx h1 h2 hu hv hv0
    have t1 := (ev_top hx h1 hu hv hv0).mp e1'
    have t2 := (ev_top hx h2 hu hv hv0).mp e2'
    have hGL : GLoop (scP rs1 rs2) (asOf (asE rs1 rs2)) S := ⟨s1, s2, fun q hq => by
      have hq : q = (colL (col1 rs1 rs2), 0) ∨ q = (colL (col2 rs1 rs2), 0) := by simpa [asOf, asE] using hq
      rcases hq with rfl | rfl
      · exact ⟨_, s4, t1⟩
      · exact ⟨_, s5, t2⟩⟩
    have hnum : ∀ a, S a → a ∈ nums (rs1.length * rs2.length) := fun a ha => by
      rcases s3' a ha with e | h
      · rw [e]
        exact mem_nums.mpr ⟨by decide, by omega⟩
      · exact (pth_in G.go h (by decide) (by omega)).last
    have hr1 : RchG (scP rs1 rs2) (pk rs2.length (wE x (scM rs1) 0 w) (wE x (scM rs2) 0 w)) (pk rs2.length (wE x (scM rs1) 0 (w ++ p)) (wE x (scM rs2) 0 (w ++ p))) := by
      have h := wE_rch hx GX p (pk rs2.length (wE x (scM rs1) 0 w) (wE x (scM rs2) 0 w)) hp k0 k1
      have e := end_P hx h1 h2 hu
      rw [wE_app, end_P hx h1 h2 hw] at e
      rw [e] at h
      exact h
    obtain ⟨g, hg⟩ := s1
    have hr2 := hr1.trans (by rw [wE_M, wE_M]; exact s3 g hg)
    rcases hr2 with e | h
    · exact .inl ⟨S, hGL, hnum, by rw [← e]; exact hg⟩
    · exact .inr ⟨S, g, hGL, hnum, hg, h⟩
/-- from a beginning some run goes on into the wish just if its state is live -/
theorem live_iff {w : List Nat} (hw : WdN x w) : wE x (scM rs1) 0 w ∈ leadL rs1 0 ↔ ∃ p v, WdN x p ∧ WdN x v ∧ v ≠ [] ∧ EvW x rs1 (w ++ p) v := by
  have n0 := h1.n0
  obtain ⟨a0, a1⟩ := walk_lo hx h1 w 0 hw (by decide) (by omega)
  constructor
  · intro h
    exact live_on hx h1 hw (mem_lead.mp h).2 a0 a1
  · rintro ⟨p, v, hp, hv, hv0, h⟩
    exact mem_lead.mpr ⟨⟨a0, a1⟩, ev_lead hx h1 hw hp hv hv0 h⟩
/-- a word behind which a run lies in the first wish, and none in both -/
def JamW (x : Str) (rs1 rs2 : List Row) (w : List Nat) : Prop := WdN x w ∧ (∃ p v, WdN x p ∧ WdN x v ∧ v ≠ [] ∧ EvW x rs1 (w ++ p) v) ∧ ¬ ∃ p v, WdN x p ∧ WdN x v ∧ v ≠ [] ∧ EvW x rs1 (w ++ p) v ∧ EvW x rs2 (w ++ p) v
theorem stuck_iff {w : List Nat} (hw : WdN x w) : pk rs2.length (wE x (scM rs1) 0 w) (wE x (scM rs2) 0 w) ∈ stuckL rs1 rs2 ↔ JamW x rs1 rs2 w := by
  have n10 := h1.n0
  have n20 := h2.n0
  obtain ⟨a0, a1⟩ := walk_lo hx h1 w 0 hw (by decide) (by omega)
  obtain ⟨c0, c1⟩ := walk_lo hx h2 w 0 hw (by decide) (by omega)
  unfold stuckL JamW
  rw [List.mem_filter, Bool.and_eq_true, decide_eq_true_eq, Bool.not_eq_true', decide_eq_false_iff_not, pk_div c0 c1, live_iff hx h1 h2 hw, free_iff hx h1 h2 hw]
  exact ⟨fun h => ⟨hw, h.2.1, h.2.2⟩, fun h => ⟨mem_nums.mpr (pk_lt a0 a1 c0 c1), h.2.1, h.2.2⟩⟩
variable (M : Addr)
end
end DL

set_option maxHeartbeats 1000000

set_option maxHeartbeats 1000000
namespace DL
open PySem PySem.Spec PyProof.Rows L2
theorem sle.tr {a b c : List Nat} (h : sle a b) (h' : sle b c) : sle a c := by
  rcases h with h | rfl
  · rcases h' with h' | rfl
    · exact .inl (h.trans h')
    · exact .inl h
  · exact h'
theorem slt.irr {a : List Nat} (h : slt a a) : False := by
  rcases h with h | ⟨_, h⟩
  · omega
  · exact List.lt_irrefl a h
theorem sle_snoc {u v : List Nat} (h : sle u v) (c : Nat) : sle (u ++ [c]) (v ++ [c]) := by
  rcases h with h | rfl
  · exact .inl (slt_snoc h c c)
  · exact .inr rfl
theorem sle_anti {a b : List Nat} (h : sle a b) (h' : sle b a) : a = b := by
  rcases h with h | h
  · rcases h' with h' | h'
    · exact (h.trans h').irr.elim
    · exact h'.symm
  · exact h
end DL

set_option maxHeartbeats 1000000
namespace DL
open PySem PySem.Spec PyProof.Rows L2
section
variable {x : Str} (hx : x ∈ sgs) {n : Nat} {sc : Int → List Int} (G : GrX x n sc) (hn : n ≤ 1000)
include hx G hn
theorem wE_inQ : ∀ (w : List Nat) (s : Int), WdN x w → 0 ≤ s → s < n → 0 ≤ wE x sc s w ∧ wE x sc s w < n
  | [], s, _, h0, h1 => ⟨h0, h1⟩
  | c :: cs, s, hw, h0, h1 => by
    obtain ⟨_, a, b⟩ := stepX hx G h0 h1 (hw c List.mem_cons_self)
    exact wE_inQ cs _ (fun d hd => hw d (List.mem_cons_of_mem _ hd)) a b
theorem fstG_QI : QI x sc (nums n) 0 (fstG x sc n) (fstG x sc n).length := by
  have n0 := G.n0
  refine QI.done hx (n := n) (mem_nums.mpr ⟨by decide, by omega⟩) (by rw [len_nums]; exact Nat.le_refl _) 100000 _ 0 ⟨.nil, by simp, fun q hq => .inl (by simpa using hq), fun i p hi => by omega⟩ (by simp) (by omega)
theorem fstG_least : ∀ (m : Nat) (w : List Nat), w.length = m → WdN x w → ∃ p ∈ fstG x sc n, p.2 = wE x sc 0 w ∧ sle p.1.cps.toList w
  | 0, w, hm, _ => by
    have : w = [] := List.length_eq_zero_iff.mp hm
    subst this
    obtain ⟨Q, e⟩ := (fstG_QI hx G hn).g.head
    exact ⟨("", 0), by rw [e]; exact List.mem_cons_self, rfl, .inr rfl⟩
  | m + 1, w, hm, hw => by
    have hne : w ≠ [] := fun e => by rw [e] at hm; simp at hm
    obtain ⟨u, c, rfl⟩ : ∃ u c, w = u ++ [c] := ⟨w.dropLast, w.getLast hne, (List.dropLast_concat_getLast hne).symm⟩
    have hu : WdN x u := fun d hd => hw d (List.mem_append_left _ hd)
    have hc : c ∈ x.cps.toList := hw c (by simp)
    obtain ⟨p, p1, p2, p3⟩ := fstG_least m u (by simpa using hm) hu
    have Q := fstG_QI hx G hn
    have n0 := G.n0
    obtain ⟨s0, s1⟩ := wE_inQ hx G hn u 0 hu (by decide) (by omega)
    obtain ⟨t0, t1⟩ := wE_inQ hx G hn (u ++ [c]) 0 hw (by decide) (by omega)
    have hi := (occ_ok hx hc).2
    have e1 : wE x sc 0 (u ++ [c]) = gI sc p.2 (idx x c) := by
      rw [wE_app, p2]
      rfl
    have hch : (p.1 ++ one c, wE x sc 0 (u ++ [c])) ∈ chlP x sc p := by
      have hk : idx x c < x.cps.toList.length := by rw [str_len]; exact hi
      have hk2 : idx x c < (sc p.2).length := by rw [p2, G.wide _ s0 s1]; exact hi
      have hcc : x.cps.toList[idx x c] = c := by
        obtain ⟨i, hi3, ei3⟩ := List.mem_iff_getElem.mp hc
        have := idx_pos hx (i := i) (c := c) (by rw [List.getElem?_eq_getElem hi3, ei3])
        subst this
        exact ei3
      have hz : (x.cps.toList.zip (sc p.2))[idx x c]? = some (c, wE x sc 0 (u ++ [c])) := by
        rw [List.getElem?_zip_eq_some]
        refine ⟨by rw [List.getElem?_eq_getElem hk, hcc], ?_⟩
        rw [e1]
        unfold gI
        rw [List.getElem?_eq_getElem hk2]
        rfl
      unfold chlP
      exact List.mem_map.mpr ⟨_, List.mem_of_getElem? hz, rfl⟩
    obtain ⟨i, hi2, ei⟩ := List.mem_iff_getElem.mp p1
    obtain ⟨z, z1, z2, z3⟩ := Q.co i p hi2 (by rw [List.getElem?_eq_getElem hi2, ei]) _ hch (mem_nums.mpr ⟨t0, t1⟩)
    refine ⟨z, z1, z2, z3.tr ?_⟩
    rw [cps_one]
    exact sle_snoc p3 c
theorem dueG_least {gs : List Int} : (dueD (fstG x sc n) gs = .non ∧ ∀ w, WdN x w → wE x sc 0 w ∉ gs) ∨ ∃ v : Str, dueD (fstG x sc n) gs = .str v ∧ WdN x v.cps.toList ∧ wE x sc 0 v.cps.toList ∈ gs ∧ ∀ w, WdN x w → wE x sc 0 w ∈ gs → sle v.cps.toList w := by
  have Q := fstG_QI hx G hn
  unfold dueD
  cases hf : (fstG x sc n).filter fun p => decide (p.2 ∈ gs) with
  | nil =>
    left
    rw [List.filter_eq_nil_iff] at hf
    refine ⟨rfl, fun w hw hg => ?_⟩
    obtain ⟨p, p1, p2, _⟩ := fstG_least hx G hn w.length w rfl hw
    exact hf p p1 (decide_eq_true (by rw [p2]; exact hg))
  | cons v V =>
    right
    have hv : v ∈ (fstG x sc n).filter fun p => decide (p.2 ∈ gs) := by rw [hf]; exact List.mem_cons_self
    obtain ⟨v1, v2⟩ := List.mem_filter.mp hv
    obtain ⟨l1, l2⟩ := Q.g.leads hx v v1
    refine ⟨v.1, rfl, l1, by rw [l2]; exact of_decide_eq_true v2, fun w hw hg => ?_⟩
    obtain ⟨p, p1, p2, p3⟩ := fstG_least hx G hn w.length w rfl hw
    have hp : p ∈ (fstG x sc n).filter fun p => decide (p.2 ∈ gs) := List.mem_filter.mpr ⟨p1, decide_eq_true (by rw [p2]; exact hg)⟩
    have hpw : (v :: V).Pairwise sltW := by
      rw [← hf]
      exact Q.pw.sublist List.filter_sublist
    rw [hf] at hp
    rcases List.mem_cons.mp hp with rfl | hp
    · exact p3
    · exact sle.tr (.inl ((List.pairwise_cons.mp hpw).1 p hp)) p3
/-- no shorter than the number of states -/
theorem dueG_len {gs : List Int} {v : Str} (h : dueD (fstG x sc n) gs = .str v) : v.length ≤ n := by
  have Q := fstG_QI hx G hn
  have n0 := G.n0
  have hl : (fstG x sc n).length ≤ n := by
    have := nd_sub (c := nums n) Q.g.nd fun k hk => Q.g.inn (mem_nums.mpr ⟨by decide, by omega⟩) k hk
    rw [List.length_map, len_nums] at this
    exact this
  rcases due_cases (P := fstG x sc n) (gs := gs) with ⟨e, _⟩ | ⟨p, p1, _, e⟩
  · rw [e] at h
    cases h
  · rw [e] at h
    injection h with h
    have := Q.g.len p p1
    rw [h] at this
    omega
end
end DL

set_option maxHeartbeats 1000000

set_option maxHeartbeats 1000000
namespace DL
open PySem PySem.Spec PyProof.Rows L2
def inS (sc : Int → List Int) (so : List Int) (k : Int) : List Int := (sc k).filter fun j => decide (j ∈ so)
theorem inS_mem {sc : Int → List Int} {so : List Int} {k j : Int} : j ∈ inS sc so k ↔ j ∈ sc k ∧ j ∈ so := by
  unfold inS
  rw [List.mem_filter, decide_eq_true_iff]
theorem pth_inS {sc : Int → List Int} {so : List Int} {a g : Int} : Pth (inS sc so) (· ∈ so) a g ↔ Pth sc (· ∈ so) a g := by
  constructor
  · intro h
    induction h with
    | one h1 h2 => exact .one (inS_mem.mp h1).1 h2
    | step h1 h2 _ ih => exact .step (inS_mem.mp h1).1 h2 ih
  · intro h
    induction h with
    | one h1 h2 => exact .one (inS_mem.mpr ⟨h1, h2⟩) h2
    | step h1 h2 _ ih => exact .step (inS_mem.mpr ⟨h1, h2⟩) h2 ih
theorem pth_first {sc : Int → List Int} {so : List Int} {a g : Int} : (∃ m ∈ inS sc so a, g = m ∨ Pth (inS sc so) (· ∈ so) m g) ↔ Pth sc (· ∈ so) a g := by
  constructor
  · rintro ⟨m, hm, rfl | h⟩
    · exact .one (inS_mem.mp hm).1 (inS_mem.mp hm).2
    · exact .step (inS_mem.mp hm).1 (inS_mem.mp hm).2 (pth_inS.mp h)
  · intro h
    cases h with
    | one h1 h2 => exact ⟨g, inS_mem.mpr ⟨h1, h2⟩, .inl rfl⟩
    | step h1 h2 h3 => exact ⟨_, inS_mem.mpr ⟨h1, h2⟩, .inr (pth_inS.mpr h3)⟩
end DL

set_option maxHeartbeats 1000000
namespace DL
open PySem PySem.Spec PyProof.Rows L2
theorem sinv_nil : SInv [] [[]] := ⟨fun l hl => by
  have : l = [] := by simpa using hl
  rw [this]
  exact List.Sublist.refl _, fun p => by simp, rfl⟩
def bSets : SF := (sAsg (e2 addF (eV 2) (eLc (aAny (eV 2)) [4] (gN 4) bYes (e2 addF (eV 4) (eTup (aCons (eV 3) aNil))))) (gN 2))
end DL

set_option maxHeartbeats 1000000
namespace DL
open PySem PySem.Spec PyProof.Rows L2
theorem lc_filtL {α : Type} {ρ : Env} {b : Bag} {T : BF} {F : EF} {i : Nat} (enc f : α → D) (p : α → Bool) : ∀ (is : List α), (∀ k ∈ is, T (ρ.set i (some (.sh (enc k)))) b = .ok (p k) b) → (∀ k ∈ is, p k = true → F (ρ.set i (some (.sh (enc k)))) b = .ok (f k) b) →
    lcD (gN i) T F (is.map enc) ρ b = .ok ((is.filter p).map f) b
  | [], _, _ => rfl
  | k :: is, h1, h2 => by
    have ih := lc_filtL enc f p is (fun k hk => h1 k (List.mem_cons_of_mem _ hk)) (fun k hk => h2 k (List.mem_cons_of_mem _ hk))
    have e1 := h1 k List.mem_cons_self
    rw [List.map_cons]
    unfold lcD
    simp only [gN]
    rw [e1]
    simp only [noex_ok_, bind_ok_]
    by_cases hp : p k = true
    · rw [if_pos hp, h2 k List.mem_cons_self hp, List.filter_cons_of_pos hp]
      simp [ih]
    · rw [if_neg hp, List.filter_cons_of_neg hp, ih]
end DL

set_option maxHeartbeats 1000000
namespace DL
open PySem PySem.Spec PyProof.Rows L2
variable (m : Nat)
abbrev pE (k : Int) : D := .tup [.int (k / (m : Int)), .int (k % (m : Int))]
abbrev pP (k : Int) : PyData := .tuple [.int (k / (m : Int)), .int (k % (m : Int))]
abbrev lP (is : List Int) : D := .lst (is.map (pE m))
abbrev tP (is : List Int) : D := .tup (is.map (pE m))
abbrev kyP (k : Int) : List Key := [.inl (k / (m : Int)), .inl (k % (m : Int))]
abbrev adjT (ks : List Int) (sc : Int → List Int) : D := .dtp (ks.map (kyP m)) (ks.map fun k => lP m (sc k))
theorem pE_pd (k : Int) : ((pE m) k).pd = some ((pP m) k) := rfl
theorem pds_p : ∀ is : List Int, pds (is.map (pE m)) = some (is.map (pP m))
  | [] => rfl
  | i :: is => by
    rw [List.map_cons, pds, pE_pd m, pds_p is]
    rfl
theorem pair_inj {a c : Int} (h1 : a / (m : Int) = c / (m : Int)) (h2 : a % (m : Int) = c % (m : Int)) : a = c := by
  have e1 := Int.mul_ediv_add_emod a (m : Int)
  have e2 := Int.mul_ediv_add_emod c (m : Int)
  rw [h1, h2] at e1
  exact e1.symm.trans e2
theorem eqv_p (a c : Int) : PyData.eqv ((pP m) a) ((pP m) c) = decide (a = c) := by
  have e : PyData.eqv ((pP m) a) ((pP m) c) = ((a / (m : Int) == c / (m : Int)) && (a % (m : Int) == c % (m : Int))) := by
    simp [PyData.eqv, PyData.eqvAll]
  rw [e]
  by_cases h : a = c
  · subst h
    simp
  · rw [decide_eq_false h]
    by_cases h1 : a / (m : Int) = c / (m : Int)
    · by_cases h2 : a % (m : Int) = c % (m : Int)
      · exact absurd (pair_inj m h1 h2) h
      · simp [h2]
    · simp [h1]
theorem lay_p (is : List Int) : PyData.canLayAll0 (is.map (pP m)) = true ∧ PyData.depthAll (is.map (pP m)) ≤ 1 := by
  induction is with
  | nil => exact ⟨rfl, Nat.zero_le _⟩
  | cons i is ih =>
    refine ⟨?_, ?_⟩
    · rw [List.map_cons]
      simp only [PyData.canLayAll0, PyData.canLay0, ih.1]
      rfl
    · rw [List.map_cons]
      show max ((pP m) i).depth (PyData.depthAll (is.map (pP m))) ≤ 1
      exact Nat.max_le.mpr ⟨by simp [PyData.depth, PyData.depthAll], ih.2⟩
theorem sh_p (k : Int) : SeqAt.shaped ((pP m) k) = true := by
  simp [SeqAt.shaped, PyData.canLay0, PyData.canLayAll0, PyData.depth, PyData.depthAll]
theorem sh_lp (is : List Int) : SeqAt.shaped (.list (is.map (pP m))) = true := by
  have h := lay_p m is
  have h2 := h.2
  simp [SeqAt.shaped, PyData.canLay0, PyData.depth, h.1]
  omega
theorem sh_tp (is : List Int) : SeqAt.shaped (.tuple (is.map (pP m))) = true := by
  have h := lay_p m is
  have h2 := h.2
  simp [SeqAt.shaped, PyData.canLay0, PyData.depth, h.1]
  omega
theorem any_p (k : Int) (is : List Int) : (is.map (pP m)).any (fun z => PyData.eqv z ((pP m) k)) = decide (k ∈ is) := by
  induction is with
  | nil => simp
  | cons i is ih =>
    rw [List.map_cons, List.any_cons, ih, eqv_p m]
    by_cases h : i = k
    · subst h; simp
    · have h' : ¬ k = i := fun e => h e.symm
      simp [h, h']
theorem dep_p (k : Int) : ((pP m) k).depth ≤ 60 := by simp [PyData.depth, PyData.depthAll]
theorem inG_l (neg : Bool) (k : Int) (is : List Int) : inG neg ((pE m) k) ((lP m) is) = some (.bl (if neg then !decide (k ∈ is) else decide (k ∈ is))) := by
  have e : ((lP m) is).pd = some (.list (is.map (pP m))) := by
    simp only [D.pd, pds_p m, Option.map_some]
  unfold inG
  rw [pE_pd m, e]
  simp only [seqP, sh_p m, sh_lp m, dep_p m, and_self, if_true, any_p m]
theorem inG_t (neg : Bool) (k : Int) (is : List Int) : inG neg ((pE m) k) ((tP m) is) = some (.bl (if neg then !decide (k ∈ is) else decide (k ∈ is))) := by
  have e : ((tP m) is).pd = some (.tuple (is.map (pP m))) := by
    simp only [D.pd, pds_p m, Option.map_some]
  unfold inG
  rw [pE_pd m, e]
  simp only [seqP, sh_p m, sh_tp m, dep_p m, and_self, if_true, any_p m]
theorem keyT_p (k : Int) : keyT ((pE m) k) = some ((kyP m) k) := rfl
theorem kyP_inj {a c : Int} (h : (kyP m) a = (kyP m) c) : a = c := by
  have h1 := (List.cons.inj h).1
  have h2 := (List.cons.inj (List.cons.inj h).2).1
  exact pair_inj m (Sum.inl.inj h1) (Sum.inl.inj h2)
theorem lookT_map (g : Int → D) {a : Int} : ∀ {ns : List Int}, a ∈ ns → lookT (ns.map (kyP m)) (ns.map g) ((kyP m) a) = some (g a)
  | n :: ns, h => by
    rw [List.map_cons, List.map_cons]
    unfold lookT
    by_cases e : n = a
    · subst e
      rw [if_pos rfl]
    · rw [if_neg fun z => e (kyP_inj m z)]
      exact lookT_map g (by rcases List.mem_cons.mp h with h | h; exact absurd h.symm e; exact h)
theorem putT_new {ns : List Int} {g : Int → D} {a : Int} {e : D} (h : a ∉ ns) : putT (ns.map (kyP m)) (ns.map g) ((kyP m) a) e = .dtp ((ns ++ [a]).map (kyP m)) (ns.map g ++ [e]) := by
  unfold putT
  have : (ns.map (kyP m)).any (fun k => decide (k = (kyP m) a)) = false := by
    rw [List.any_eq_false]
    intro k hk
    obtain ⟨n, hn, rfl⟩ := List.mem_map.mp hk
    intro z
    exact h (kyP_inj m (of_decide_eq_true z) ▸ hn)
  rw [this]
  simp
theorem dictPT_new (g : Int → D) : ∀ (ks acc : List Int), (acc ++ ks).Nodup → dictPT (.dtp (acc.map (kyP m)) (acc.map g)) (ks.map fun k => .tup [(pE m) k, g k]) = some (.dtp ((acc ++ ks).map (kyP m)) ((acc ++ ks).map g))
  | [], acc, _ => by simp
  | k :: ks, acc, h => by
    have hk : k ∉ acc := fun hk => by
      have := List.nodup_append.mp h
      exact this.2.2 k hk k List.mem_cons_self rfl
    have hp := putT_new m (g := g) (e := g k) hk
    have ih := dictPT_new g ks (acc ++ [k]) (by rw [List.append_assoc]; exact h)
    rw [List.map_cons]
    unfold dictPT
    have e : putPT (.dtp (acc.map (kyP m)) (acc.map g)) (.tup [(pE m) k, g k]) = some (.dtp ((acc ++ [k]).map (kyP m)) ((acc ++ [k]).map g)) := by
      show some (putT (acc.map (kyP m)) (acc.map g) ((kyP m) k) (g k)) = _
      rw [hp]
      simp
    rw [e]
    dsimp only
    rw [ih, List.append_assoc]
    rfl
theorem neF_lp (is : List Int) : neF ((lP m) is) (.lst []) = some (.bl !is.isEmpty) := by
  have e : ((lP m) is).pd = some (.list (is.map (pP m))) := by
    simp only [D.pd, pds_p m, Option.map_some]
  have h0 := sh_lp m []
  simp only [List.map_nil] at h0
  unfold neF
  rw [e]
  have hv : PyData.eqv (.list (is.map (pP m))) (.list []) = is.isEmpty := by
    cases is with
    | nil => simp [PyData.eqv, PyData.eqvAll]
    | cons i is => simp [PyData.eqv, PyData.eqvAll]
  simp only [D.pd, pds, Option.map_some, sh_lp m, h0, and_self, if_true, hv]
theorem neF_tp (is : List Int) : neF ((tP m) is) (.tup []) = some (.bl !is.isEmpty) := by
  have e : ((tP m) is).pd = some (.tuple (is.map (pP m))) := by
    simp only [D.pd, pds_p m, Option.map_some]
  have h0 := sh_tp m []
  simp only [List.map_nil] at h0
  unfold neF
  rw [e]
  have hv : PyData.eqv (.tuple (is.map (pP m))) (.tuple []) = is.isEmpty := by
    cases is with
    | nil => simp [PyData.eqv, PyData.eqvAll]
    | cons i is => simp [PyData.eqv, PyData.eqvAll]
  simp only [D.pd, pds, Option.map_some, sh_tp m, h0, and_self, if_true, hv]
end DL

set_option maxHeartbeats 1000000
namespace DL
open PySem PySem.Spec PyProof.Rows L2
variable (md : Nat)
def bPc : SF := (sIf (bB (eInGOw true 2 (eV 4))) (sPush 2 (eV 4)) sNil)
theorem pc_add (s0 s1 s3 : Option SD) (ks : List Int) (b : Bag) : ∀ (gs f : List Int), (∀ g ∈ gs, g ∈ ks) → f.length + gs.length ≤ 100000 → ∀ (o4 : Option D), ∃ o4' : Option D, loopD (gN 4) bPc (gs.map (pE md)) [s0, s1, some (.ow ((lP md) f)), s3, o4.map SD.sh] b =
    .nx [s0, s1, some (.ow ((lP md) (gs.foldl (addN ks) f))), s3, o4'.map SD.sh] b
  | [], f, _, _, o4 => ⟨o4, rfl⟩
  | g :: gs, f, hg, h, o4 => by
    rw [List.length_cons] at h
    have hgk := hg g List.mem_cons_self
    have hlen : (addN ks f g).length + gs.length ≤ 100000 := by
      unfold addN
      split
      · rw [List.length_append, List.length_singleton]; omega
      · omega
    obtain ⟨o4', ih⟩ := pc_add s0 s1 s3 ks b gs (addN ks f g) (fun g h => hg g (List.mem_cons_of_mem _ h)) hlen (some ((pE md) g))
    refine ⟨o4', ?_⟩
    have h2 := inG_l md true g f
    have hf : f.length ≤ 100000 := by omega
    rw [List.map_cons, List.foldl_cons]
    unfold loopD
    unfold addN at ih ⊢
    by_cases hgf : g ∈ f
    · rw [decide_eq_true hgf] at h2
      have hb : bPc [s0, s1, some (.ow ((lP md) f)), s3, some (.sh ((pE md) g))] b = .nx [s0, s1, some (.ow ((lP md) f)), s3, some (.sh ((pE md) g))] b := by
        have h4 : eInGOw true 2 (eV 4) [s0, s1, some (.ow ((lP md) f)), s3, some (.sh ((pE md) g))] b = .ok (.bl false) b := by
          unfold lP at h2 ⊢
          simp [eInGOw, h2]
        simp [bPc, h4]
      rw [if_neg (fun z => z.2 hgf)] at ih ⊢
      rw [show gN 4 ((pE md) g) [s0, s1, some (.ow ((lP md) f)), s3, o4.map SD.sh] b = some ([s0, s1, some (.ow ((lP md) f)), s3, some (.sh ((pE md) g))], b) from rfl]
      dsimp only
      rw [hb]
      exact ih
    · rw [decide_eq_false hgf] at h2
      have hb : bPc [s0, s1, some (.ow ((lP md) f)), s3, some (.sh ((pE md) g))] b = .nx [s0, s1, some (.ow ((lP md) (f ++ [g]))), s3, some (.sh ((pE md) g))] b := by
        have h4 : eInGOw true 2 (eV 4) [s0, s1, some (.ow ((lP md) f)), s3, some (.sh ((pE md) g))] b = .ok (.bl true) b := by
          unfold lP at h2 ⊢
          simp [eInGOw, h2]
        have h5 : sPush 2 (eV 4) [s0, s1, some (.ow ((lP md) f)), s3, some (.sh ((pE md) g))] b = .nx [s0, s1, some (.ow ((lP md) (f ++ [g]))), s3, some (.sh ((pE md) g))] b := by
          unfold lP
          simp [hf]
        simp only [bPc, sIf, bB, h4, bind_ok_, st_ok_, if_true]
        exact h5
      rw [if_pos ⟨hgk, hgf⟩] at ih ⊢
      rw [show gN 4 ((pE md) g) [s0, s1, some (.ow ((lP md) f)), s3, o4.map SD.sh] b = some ([s0, s1, some (.ow ((lP md) f)), s3, some (.sh ((pE md) g))], b) from rfl]
      dsimp only
      rw [hb]
      exact ih
def bPcW : SF := (sSeq (sFor (aAny (eDgT (eV 0) (eIxOw 2 (eV 3)))) (gN 4) bPc) (sAsg (e2 addF (eV 3) (eC (.int 1))) (gN 3)))
section
variable {ks : List Int} {sc : Int → List Int} (nd : ks.Nodup) (cl : ∀ k ∈ ks, ∀ j ∈ sc k, j ∈ ks) (hl : ∀ k ∈ ks, (sc k).length ≤ 1000) (hk1 : ks.length ≤ 1000) {bg : Int} (hb : bg ∈ ks)
include nd cl hl hk1 hb
theorem pc_loop (b : Bag) : ∀ (fuel : Nat) (f : List Int) (s : Nat), WInv sc ks bg f s → ks.length + 1 ≤ fuel + s → ∀ (o4 : Option D), ∃ (f' : List Int) (o4' : Option D),
    whileD (bB (e2 ltF (eV 3) (eLenOw 2))) bPcW fuel [some (.sh ((adjT md) ks sc)), some (.sh ((pE md) bg)), some (.ow ((lP md) f)), some (.sh (.int s)), o4.map SD.sh] b =
    .nx [some (.sh ((adjT md) ks sc)), some (.sh ((pE md) bg)), some (.ow ((lP md) f')), some (.sh (.int f'.length)), o4'.map SD.sh] b ∧ WInv sc ks bg f' f'.length
  | 0, f, s, I, h, _ => by
    have hfl : f.length ≤ ks.length := nd_sub I.nd fun y hy => (I.path y hy).elim (fun e => by rw [e]; exact hb) (·.last)
    have := I.le
    omega
  | fuel + 1, f, s, I, h, o4 => by
    have hfl : f.length ≤ ks.length := nd_sub I.nd fun y hy => (I.path y hy).elim (fun e => by rw [e]; exact hb) (·.last)
    by_cases hs : s = f.length
    · subst hs
      refine ⟨f, o4, ?_, I⟩
      unfold whileD
      unfold lP
      simp
    · have hs : s < f.length := by have := I.le; omega
      have hfs : f[s]? = some f[s] := List.getElem?_eq_getElem hs
      have hm := List.getElem_mem hs
      generalize hy : f[s] = y at hfs hm
      have hyp := I.path y hm
      have hyi : y ∈ ks := hyp.elim (fun e => by rw [e]; exact hb) (·.last)
      have hyl := hl y hyi
      obtain ⟨o4', h1⟩ := pc_add md (some (.sh ((adjT md) ks sc))) (some (.sh ((pE md) bg))) (some (.sh (.int s))) ks b (sc y) f (cl y hyi) (by omega) o4
      obtain ⟨d1, d2, t, d4⟩ := addN_spec ks (sc y) f I.nd
      have I2 : WInv sc ks bg ((sc y).foldl (addN ks) f) (s + 1) := by
        refine ⟨d1, ?_, fun z hz => ?_, fun i z hi hz j hj hji => ?_, ?_⟩
        · rw [d4, List.getElem?_append_left (by omega)]; exact I.hd
        · rcases (d2 z).mp hz with hz | ⟨hz, hzi⟩
          · exact I.path z hz
          · right
            rcases hyp with rfl | hp
            · exact .one hz hzi
            · exact hp.snoc hz hzi
        · have hz2 : f[i]? = some z := by
            rw [d4, List.getElem?_append_left (by omega)] at hz
            exact hz
          by_cases hi2 : i < s
          · exact (d2 j).mpr (.inl (I.more i z hi2 hz2 j hj hji))
          · have : i = s := by omega
            subst this
            rw [hfs] at hz2
            cases hz2
            exact (d2 j).mpr (.inr ⟨hj, hji⟩)
        · rw [d4, List.length_append]; omega
      obtain ⟨f', p4, h5, h6⟩ := pc_loop b fuel _ (s + 1) I2 (by omega) o4'
      refine ⟨f', p4, ?_, h6⟩
      unfold whileD
      have hlt : (s : Int) < (f.length : Int) := by omega
      have hix : atI (f.map (pE md)) (s : Int) = some ((pE md) y) := atI_nat (by rw [List.getElem?_map, hfs]; rfl)
      have hlk := lookT_map md (fun k => (lP md) (sc k)) hyi
      have e1 : ((s + 1 : Nat) : Int) = (s : Int) + 1 := by omega
      rw [e1] at h5
      have ha : aAny (eDgT (eV 0) (eIxOw 2 (eV 3))) [some (.sh ((adjT md) ks sc)), some (.sh ((pE md) bg)), some (.ow ((lP md) f)), some (.sh (.int s)), o4.map SD.sh] b = .ok ((sc y).map (pE md)) b := by
        have h1 : eIxOw 2 (eV 3) [some (.sh ((adjT md) ks sc)), some (.sh ((pE md) bg)), some (.ow ((lP md) f)), some (.sh (.int s)), o4.map SD.sh] b = .ok ((pE md) y) b := by
          unfold lP
          simp [hix]
        have h2 : eDgT (eV 0) (eIxOw 2 (eV 3)) [some (.sh ((adjT md) ks sc)), some (.sh ((pE md) bg)), some (.ow ((lP md) f)), some (.sh (.int s)), o4.map SD.sh] b = .ok ((lP md) (sc y)) b := by
          have h0 : eV 0 [some (.sh ((adjT md) ks sc)), some (.sh ((pE md) bg)), some (.ow ((lP md) f)), some (.sh (.int s)), o4.map SD.sh] b = .ok ((adjT md) ks sc) b := rfl
          simp only [eDgT, h0, h1, bind_ok_, keyT_p md, hlk, pureO_some_]
        have h3 : allOf ((lP md) (sc y)) = some ((sc y).map (pE md)) := rfl
        simp only [aAny, h2, bind_ok_, h3, pureO_some_]
      have hc : bB (e2 ltF (eV 3) (eLenOw 2)) [some (.sh ((adjT md) ks sc)), some (.sh ((pE md) bg)), some (.ow ((lP md) f)), some (.sh (.int s)), o4.map SD.sh] b = .ok true b := by
        unfold lP
        simp [hlt]
      rw [hc]
      simp only [bPcW, sSeq, sFor, ha, st_ok_, if_true, h1, seq_nx_]
      simp
      exact h5
theorem pc_ok (b : Bag) : ∃ f : List Int, F__law_reached_v3 [(adjT md) ks sc, (pE md) bg] b = .ok ((lP md) f) b ∧ f.Nodup ∧ (∀ k, k ∈ f ↔ (k = bg ∨ Pth sc (· ∈ ks) bg k)) ∧ ∀ k ∈ f, k ∈ ks := by
  obtain ⟨f, o4, h1, I⟩ := pc_loop md nd cl hl hk1 hb b 100000 [bg] 0 ⟨by simp, rfl, fun y hy => .inl (by simpa using hy), fun i y h => by omega, by simp⟩ (by omega) none
  have hmem : ∀ k, k ∈ f ↔ (k = bg ∨ Pth sc (· ∈ ks) bg k) := fun k => ⟨I.path k, fun h => by
    have h0 : bg ∈ f := List.mem_of_getElem? I.hd
    have cl2 : ∀ y ∈ f, ∀ j ∈ sc y, j ∈ ks → j ∈ f := fun y hy => by
      obtain ⟨i, hi, e⟩ := List.mem_iff_getElem.mp hy
      exact I.more i y hi (by rw [List.getElem?_eq_getElem hi, e])
    rcases h with rfl | h
    · exact h0
    · exact h.shut (fun y hy hyi => cl2 bg h0 y hy hyi) (fun y hy z hz hzi => cl2 y hy z hz hzi)⟩
  refine ⟨f, ?_, I.nd, hmem, fun k hk => ((hmem k).mp hk).elim (fun e => by rw [e]; exact hb) (·.last)⟩
  have e : F__law_reached_v3 = runD 5 2 (sSeq (sOw1 2 3 (eLst (aCons (eV 1) aNil)) (eC (.int 0))) (sSeq (sWhile 100000 (bB (e2 ltF (eV 3) (eLenOw 2))) bPcW) (sFreeze 2 (sRet (eV 2))))) := rfl
  have hst : startE 5 [(adjT md) ks sc, (pE md) bg] = [some (.sh ((adjT md) ks sc)), some (.sh ((pE md) bg)), none, none, none] := rfl
  have q1 : sOw1 2 3 (eLst (aCons (eV 1) aNil)) (eC (.int 0)) [some (.sh ((adjT md) ks sc)), some (.sh ((pE md) bg)), none, none, none] b = .nx [some (.sh ((adjT md) ks sc)), some (.sh ((pE md) bg)), some (.ow ((lP md) [bg])), some (.sh (.int 0)), none] b := by
    unfold lP
    simp [sOw1]
  rw [Option.map_none] at h1
  have h1' : sWhile 100000 (bB (e2 ltF (eV 3) (eLenOw 2))) bPcW [some (.sh ((adjT md) ks sc)), some (.sh ((pE md) bg)), some (.ow ((lP md) [bg])), some (.sh (.int 0)), none] b = .nx [some (.sh ((adjT md) ks sc)), some (.sh ((pE md) bg)), some (.ow ((lP md) f)), some (.sh (.int f.length)), o4.map SD.sh] b := h1
  rw [e]
  simp only [runD, List.length_cons, List.length_nil, if_true, hst, sSeq, q1, seq_nx_, h1']
  cases o4 <;> simp [sFreeze]
end
end DL

set_option maxHeartbeats 1000000
namespace DL
open PySem PySem.Spec PyProof.Rows L2
variable (md : Nat)
theorem lc_pE {ρ : Env} {b : Bag} {F : EF} {i : Nat} (f : Int → D) (is : List Int) (h : ∀ k ∈ is, F (ρ.set i (some (.sh ((pE md) k)))) b = .ok (f k) b) : lcD (gN i) bYes F (is.map (pE md)) ρ b = .ok (is.map f) b := by
  have := lc_filtL (T := bYes) (b := b) (ρ := ρ) (i := i) (F := F) (pE md) f (fun _ => true) is (fun _ _ => rfl) (fun k hk _ => h k hk)
  rwa [List.filter_eq_self.mpr (fun _ _ => rfl)] at this
def bPate : SF := (sAsg (e2 addF (eV 5) (eLc (aAny (eCall (F__law_reached_v3) (aCons (eV 4) (aCons (eV 3) aNil)))) [6] (gN 6) (bB (e2 (inG true) (eV 6) (eV 5))) (eV 6))) (gN 5))
section
variable {so : List Int} {sc : Int → List Int} (nd : so.Nodup) (hl : ∀ k ∈ so, (sc k).length ≤ 1000) (hk1 : so.length ≤ 1000)
include nd hl hk1
theorem ownP_len : ∀ k ∈ so, (inS sc so k).length ≤ 1000 := fun k hk => Nat.le_trans (List.length_filter_le _ _) (hl k hk)
theorem mateP_loop (s0 s1 s2 : Option D) (b : Bag) : ∀ (ms bs : List Int), (∀ m ∈ ms, m ∈ so) → bs.Nodup → (∀ k ∈ bs, k ∈ so) → ∀ (o3 : Option D), ∃ (o3' : Option D) (bs' : List Int),
    loopD (gN 3) bPate (ms.map (pE md)) [s0.map SD.sh, s1.map SD.sh, s2.map SD.sh, o3.map SD.sh, some (.sh ((adjT md) so (inS sc so))), some (.sh ((lP md) bs)), none] b =
    .nx [s0.map SD.sh, s1.map SD.sh, s2.map SD.sh, o3'.map SD.sh, some (.sh ((adjT md) so (inS sc so))), some (.sh ((lP md) bs')), none] b ∧ bs'.Nodup ∧ (∀ k ∈ bs', k ∈ so) ∧ ∀ g, g ∈ bs' ↔ g ∈ bs ∨ ∃ m ∈ ms, g = m ∨ Pth (inS sc so) (· ∈ so) m g
  | [], bs, _, h1, h2, o3 => ⟨o3, bs, rfl, h1, h2, fun g => by simp⟩
  | m :: ms, bs, hm, h1, h2, o3 => by
    have hms := hm m List.mem_cons_self
    obtain ⟨f, f1, f2, f3, f4⟩ := pc_ok md nd (fun k hk j hj => (inS_mem.mp hj).2) (ownP_len nd hl hk1) hk1 hms b
    have nd2 : (bs ++ f.filter fun k => !decide (k ∈ bs)).Nodup := by
      rw [List.nodup_append]
      refine ⟨h1, f2.filter _, fun a ha c hc e => ?_⟩
      have := (List.mem_filter.mp hc).2
      rw [← e] at this
      simp [ha] at this
    have hin : ∀ k ∈ bs ++ f.filter fun k => !decide (k ∈ bs), k ∈ so := fun k hk => by
      rcases List.mem_append.mp hk with hk | hk
      · exact h2 k hk
      · exact f4 k (List.mem_filter.mp hk).1
    obtain ⟨o3', bs', g1, g2, g3, g4⟩ := mateP_loop s0 s1 s2 b ms (bs ++ f.filter fun k => !decide (k ∈ bs)) (fun m h => hm m (List.mem_cons_of_mem _ h)) nd2 hin (some ((pE md) m))
    refine ⟨o3', bs', ?_, g2, g3, fun g => ?_⟩
    · have hfl : f.length ≤ so.length := nd_sub f2 f4
      have hbl : bs.length ≤ so.length := nd_sub h1 h2
      have hc := lc_filtL (i := 6) (b := b) (ρ := [s0.map SD.sh, s1.map SD.sh, s2.map SD.sh, some (.sh ((pE md) m)), some (.sh ((adjT md) so (inS sc so))), some (.sh ((lP md) bs)), none]) (T := (bB (e2 (inG true) (eV 6) (eV 5)))) (F := eV 6) (pE md) (pE md) (fun k => !decide (k ∈ bs)) f (fun k hk => by
        have i1 : inG true ((pE md) k) ((lP md) bs) = some (.bl (!decide (k ∈ bs))) := inG_l md true k bs
        unfold lP
        simp [i1]) (fun k _ _ => by simp)
      have hfl2 : f.length ≤ 100000 := by omega
      have hfl3 := List.length_filter_le (fun k => !decide (k ∈ bs)) f
      have hlen : bs.length + (f.filter fun k => !decide (k ∈ bs)).length ≤ 100000 := by omega
      rw [List.map_cons]
      unfold loopD
      unfold lP at hc g1 f1 ⊢
      unfold adjT at hc g1 f1 ⊢
      rw [List.map_append] at g1
      cases s0 <;> cases s1 <;> cases s2 <;> simp [bPate, f1, hfl2, hc, hlen] at g1 hc ⊢ <;> exact g1
    · rw [g4, List.mem_append, List.mem_filter]
      constructor
      · rintro ((h | ⟨h, _⟩) | ⟨m', hm', h⟩)
        · exact .inl h
        · exact .inr ⟨m, List.mem_cons_self, (f3 g).mp h⟩
        · exact .inr ⟨m', List.mem_cons_of_mem _ hm', h⟩
      · rintro (h | ⟨m', hm', h⟩)
        · exact .inl (.inl h)
        · rcases List.mem_cons.mp hm' with rfl | hm'
          · by_cases hg : g ∈ bs
            · exact .inl (.inl hg)
            · exact .inl (.inr ⟨(f3 g).mpr h, by simpa using hg⟩)
          · exact .inr ⟨m', hm', h⟩
def bPach : SF := (sSeq (sAsg (eLst aNil) (gN 5)) (sSeq (sFor (aAny (eDgT (eV 4) (eV 2))) (gN 3) bPate) (sIf (bB (e2 neF (eLc (aAny (eV 1)) [6] (gN 6) (bB (e2 (inG true) (eV 6) (eV 5))) (eV 6)) (eLst aNil))) (sRet (eC (.bl false))) sNil)))
theorem eachP_step (s0 : Option D) (b : Bag) {a : Int} (ha : a ∈ so) (o3 o5 : Option D) : ∃ (o3' o5' : Option D),
    ((∀ g ∈ so, Pth sc (· ∈ so) a g) → bPach [s0.map SD.sh, some (.sh ((tP md) so)), some (.sh ((pE md) a)), o3.map SD.sh, some (.sh ((adjT md) so (inS sc so))), o5.map SD.sh, none] b = .nx [s0.map SD.sh, some (.sh ((tP md) so)), some (.sh ((pE md) a)), o3'.map SD.sh, some (.sh ((adjT md) so (inS sc so))), o5'.map SD.sh, none] b) ∧
    ((¬ ∀ g ∈ so, Pth sc (· ∈ so) a g) → bPach [s0.map SD.sh, some (.sh ((tP md) so)), some (.sh ((pE md) a)), o3.map SD.sh, some (.sh ((adjT md) so (inS sc so))), o5.map SD.sh, none] b = .rt (.bl false) b) := by
  obtain ⟨o3', bs, h1, h2, h3, h4⟩ := mateP_loop md nd hl hk1 s0 (some ((tP md) so)) (some ((pE md) a)) b (inS sc so a) [] (fun m hm => (inS_mem.mp hm).2) (by simp) (fun k h => by cases h) o3
  have hmem : ∀ g, g ∈ bs ↔ Pth sc (· ∈ so) a g := fun g => by
    rw [h4, ← pth_first]
    simp
  have hlk := lookT_map md (fun k => (lP md) (inS sc so k)) ha
  have hsl : so.length ≤ 100000 := by omega
  have hc := lc_filtL (i := 6) (b := b) (ρ := [s0.map SD.sh, some (.sh ((tP md) so)), some (.sh ((pE md) a)), o3'.map SD.sh, some (.sh ((adjT md) so (inS sc so))), some (.sh ((lP md) bs)), none]) (T := (bB (e2 (inG true) (eV 6) (eV 5)))) (F := eV 6) (pE md) (pE md) (fun k => !decide (k ∈ bs)) so (fun k hk => by
    have i1 : inG true ((pE md) k) ((lP md) bs) = some (.bl (!decide (k ∈ bs))) := inG_l md true k bs
    unfold lP
    simp [i1]) (fun k _ _ => by simp)
  have q1 : sAsg (eLst aNil) (gN 5) [s0.map SD.sh, some (.sh ((tP md) so)), some (.sh ((pE md) a)), o3.map SD.sh, some (.sh ((adjT md) so (inS sc so))), o5.map SD.sh, none] b = .nx [s0.map SD.sh, some (.sh ((tP md) so)), some (.sh ((pE md) a)), o3.map SD.sh, some (.sh ((adjT md) so (inS sc so))), some (.sh ((lP md) [])), none] b := by
    unfold lP
    simp
  have q2 : aAny (eDgT (eV 4) (eV 2)) [s0.map SD.sh, some (.sh ((tP md) so)), some (.sh ((pE md) a)), o3.map SD.sh, some (.sh ((adjT md) so (inS sc so))), some (.sh ((lP md) [])), none] b = .ok ((inS sc so a).map (pE md)) b := by
    have h5 : ∀ ρ : Env, eV 4 ρ b = .ok ((adjT md) so (inS sc so)) b → eV 2 ρ b = .ok ((pE md) a) b → aAny (eDgT (eV 4) (eV 2)) ρ b = .ok ((inS sc so a).map (pE md)) b := fun ρ i1 i2 => by
      have i3 : eDgT (eV 4) (eV 2) ρ b = .ok ((lP md) (inS sc so a)) b := by
        simp only [eDgT, i1, i2, bind_ok_, keyT_p md, hlk, pureO_some_]
      have i4 : allOf ((lP md) (inS sc so a)) = some ((inS sc so a).map (pE md)) := rfl
      simp only [aAny, i3, bind_ok_, i4, pureO_some_]
    exact h5 _ rfl rfl
  have q3 : eLc (aAny (eV 1)) [6] (gN 6) (bB (e2 (inG true) (eV 6) (eV 5))) (eV 6) [s0.map SD.sh, some (.sh ((tP md) so)), some (.sh ((pE md) a)), o3'.map SD.sh, some (.sh ((adjT md) so (inS sc so))), some (.sh ((lP md) bs)), none] b = .ok ((lP md) (so.filter fun k => !decide (k ∈ bs))) b := by
    have hu : wipeE (unown [s0.map SD.sh, some (.sh ((tP md) so)), some (.sh ((pE md) a)), o3'.map SD.sh, some (.sh ((adjT md) so (inS sc so))), some (.sh ((lP md) bs)), none]) [6] = [s0.map SD.sh, some (.sh ((tP md) so)), some (.sh ((pE md) a)), o3'.map SD.sh, some (.sh ((adjT md) so (inS sc so))), some (.sh ((lP md) bs)), none] := by
      cases s0 <;> cases o3' <;> rfl
    have ha2 : aAny (eV 1) [s0.map SD.sh, some (.sh ((tP md) so)), some (.sh ((pE md) a)), o3'.map SD.sh, some (.sh ((adjT md) so (inS sc so))), some (.sh ((lP md) bs)), none] b = .ok (so.map (pE md)) b := by simp
    have hl2 : (so.map (pE md)).length ≤ 100000 := by rw [List.length_map]; exact hsl
    simp only [eLc, ha2, bind_ok_, hl2, if_true, hu, hc]
  refine ⟨o3', some ((lP md) bs), fun hg => ?_, fun hg => ?_⟩
  · have e : so.filter (fun k => !decide (k ∈ bs)) = [] := by
      rw [List.filter_eq_nil_iff]
      intro k hk
      simp [(hmem k).mpr (hg k hk)]
    rw [e] at q3
    have hq : neF ((lP md) []) (.lst []) = some (.bl false) := by kernel_rfl
    unfold bPach
    simp only [sSeq, q1, seq_nx_, sFor, q2, st_ok_]
    rw [show (some (SD.sh ((tP md) so)) : Option SD) = (some ((tP md) so)).map SD.sh from rfl, show (some (SD.sh ((pE md) a)) : Option SD) = (some ((pE md) a)).map SD.sh from rfl, h1]
    simp only [Option.map_some, seq_nx_, sIf, bB, e2, q3, bind_ok_, eLst, aNil, eC, List.length_nil, Nat.zero_le, if_true, pureO_some_, hq, st_ok_]
    rfl
  · obtain ⟨k, hk, hkb⟩ : ∃ k ∈ so, k ∉ bs := by
      refine Classical.byContradiction fun h => hg fun g hgs => (hmem g).mp (Classical.byContradiction fun hb => h ⟨g, hgs, hb⟩)
    have hq : neF ((lP md) (so.filter fun k => !decide (k ∈ bs))) (.lst []) = some (.bl true) := by
      have h := neF_lp md (so.filter fun k => !decide (k ∈ bs))
      have hne : so.filter (fun k => !decide (k ∈ bs)) ≠ [] := fun e => by
        have : k ∈ so.filter (fun k => !decide (k ∈ bs)) := List.mem_filter.mpr ⟨hk, by simpa using hkb⟩
        rw [e] at this
        cases this
      have hi : (so.filter fun k => !decide (k ∈ bs)).isEmpty = false := by
        cases hf : so.filter (fun k => !decide (k ∈ bs)) with
        | nil => exact absurd hf hne
        | cons _ _ => rfl
      rw [hi] at h
      exact h
    unfold bPach
    simp only [sSeq, q1, seq_nx_, sFor, q2, st_ok_]
    rw [show (some (SD.sh ((tP md) so)) : Option SD) = (some ((tP md) so)).map SD.sh from rfl, show (some (SD.sh ((pE md) a)) : Option SD) = (some ((pE md) a)).map SD.sh from rfl, h1]
    simp only [Option.map_some, seq_nx_, sIf, bB, e2, q3, bind_ok_, eLst, aNil, eC, List.length_nil, Nat.zero_le, if_true, pureO_some_, hq, st_ok_]
    rfl
theorem eachP_loop (s0 : Option D) (b : Bag) : ∀ (as : List Int), (∀ a ∈ as, a ∈ so) → ∀ (o2 o3 o5 : Option D),
    ((∀ a ∈ as, ∀ g ∈ so, Pth sc (· ∈ so) a g) → ∃ o2' o3' o5' : Option D, loopD (gN 2) bPach (as.map (pE md)) [s0.map SD.sh, some (.sh ((tP md) so)), o2.map SD.sh, o3.map SD.sh, some (.sh ((adjT md) so (inS sc so))), o5.map SD.sh, none] b = .nx [s0.map SD.sh, some (.sh ((tP md) so)), o2'.map SD.sh, o3'.map SD.sh, some (.sh ((adjT md) so (inS sc so))), o5'.map SD.sh, none] b) ∧
    ((¬ ∀ a ∈ as, ∀ g ∈ so, Pth sc (· ∈ so) a g) → loopD (gN 2) bPach (as.map (pE md)) [s0.map SD.sh, some (.sh ((tP md) so)), o2.map SD.sh, o3.map SD.sh, some (.sh ((adjT md) so (inS sc so))), o5.map SD.sh, none] b = .rt (.bl false) b)
  | [], _, o2, o3, o5 => ⟨fun _ => ⟨o2, o3, o5, rfl⟩, fun h => absurd (fun a ha => by cases ha) h⟩
  | a :: as, h, o2, o3, o5 => by
    obtain ⟨o3', o5', k1, k2⟩ := eachP_step md nd hl hk1 s0 b (h a List.mem_cons_self) o3 o5
    obtain ⟨i1, i2⟩ := eachP_loop s0 b as (fun a ha => h a (List.mem_cons_of_mem _ ha)) (some ((pE md) a)) o3' o5'
    have hg : gN 2 ((pE md) a) [s0.map SD.sh, some (.sh ((tP md) so)), o2.map SD.sh, o3.map SD.sh, some (.sh ((adjT md) so (inS sc so))), o5.map SD.sh, none] b = some ([s0.map SD.sh, some (.sh ((tP md) so)), some (.sh ((pE md) a)), o3.map SD.sh, some (.sh ((adjT md) so (inS sc so))), o5.map SD.sh, none], b) := rfl
    refine ⟨fun hall => ?_, fun hn => ?_⟩
    · obtain ⟨p2, p3, p5, e⟩ := i1 fun c hc => hall c (List.mem_cons_of_mem _ hc)
      refine ⟨p2, p3, p5, ?_⟩
      rw [List.map_cons]
      unfold loopD
      rw [hg]; dsimp only; rw [k1 (hall a List.mem_cons_self)]; dsimp only
      exact e
    · rw [List.map_cons]
      unfold loopD
      rw [hg]; dsimp only
      by_cases ha : ∀ g ∈ so, Pth sc (· ∈ so) a g
      · rw [k1 ha]; dsimp only
        exact i2 fun hc => hn fun c hcm => by
          rcases List.mem_cons.mp hcm with rfl | hcm
          · exact ha
          · exact hc c hcm
      · rw [k2 ha]
end
open Classical in
theorem isloopP_ok {ks so : List Int} {sc : Int → List Int} (nd : so.Nodup) (hk : ∀ k ∈ so, k ∈ ks) (hl : ∀ k ∈ so, (sc k).length ≤ 1000) (hk1 : so.length ≤ 1000) (b : Bag) : F__law_is_loop_v2 [(adjT md) ks sc, (tP md) so] b = .ok (.bl (decide (SC sc (· ∈ so)))) b := by
  have e : F__law_is_loop_v2 = runD 7 2 (sSeq (sAsg (eDictPT (eLc (aAny (eV 1)) [2] (gN 2) bYes (eTup (aCons (eV 2) (aCons (eLc (aAny (eDgT (eV 0) (eV 2))) [3] (gN 3) (bB (e2 (inG false) (eV 3) (eV 1))) (eV 3)) aNil))))) (gN 4)) (sSeq (sFor (aAny (eV 1)) (gN 2) bPach) (sRet (eC (.bl true))))) := rfl
  have hst : startE 7 [(adjT md) ks sc, (tP md) so] = [some (.sh ((adjT md) ks sc)), some (.sh ((tP md) so)), none, none, none, none, none] := rfl
  have hsl : so.length ≤ 100000 := by omega
  have hc := lc_pE md (i := 2) (b := b) (ρ := [some (.sh ((adjT md) ks sc)), some (.sh ((tP md) so)), none, none, none, none, none]) (F := (eTup (aCons (eV 2) (aCons (eLc (aAny (eDgT (eV 0) (eV 2))) [3] (gN 3) (bB (e2 (inG false) (eV 3) (eV 1))) (eV 3)) aNil)))) (fun k => .tup [(pE md) k, (lP md) (inS sc so k)]) so (fun k hk' => by
    have hlk := lookT_map md (fun k => (lP md) (sc k)) (hk k hk')
    have hlen := hl k hk'
    have hlen2 : (sc k).length ≤ 100000 := by omega
    have h1 := lc_filtL (i := 3) (b := b) (ρ := [some (.sh ((adjT md) ks sc)), some (.sh ((tP md) so)), some (.sh ((pE md) k)), none, none, none, none]) (T := (bB (e2 (inG false) (eV 3) (eV 1)))) (F := eV 3) (pE md) (pE md) (fun j => decide (j ∈ so)) (sc k) (fun j hj => by
      have i1 : inG false ((pE md) j) ((tP md) so) = some (.bl (decide (j ∈ so))) := inG_t md false j so
      unfold tP
      simp [i1]) (fun j _ _ => by simp)
    let E : Env := [some (.sh ((adjT md) ks sc)), some (.sh ((tP md) so)), some (.sh ((pE md) k)), none, none, none, none]
    show (eTup (aCons (eV 2) (aCons (eLc (aAny (eDgT (eV 0) (eV 2))) [3] (gN 3) (bB (e2 (inG false) (eV 3) (eV 1))) (eV 3)) aNil))) E b = _
    have g0 : eV 0 E b = .ok ((adjT md) ks sc) b := rfl
    have g2 : eV 2 E b = .ok ((pE md) k) b := rfl
    have g3 : eDgT (eV 0) (eV 2) E b = .ok ((lP md) (sc k)) b := by
      simp only [eDgT, g0, g2, bind_ok_, keyT_p md, hlk, pureO_some_]
    have g4 : allOf ((lP md) (sc k)) = some ((sc k).map (pE md)) := rfl
    have g5 : aAny (eDgT (eV 0) (eV 2)) E b = .ok ((sc k).map (pE md)) b := by
      simp only [aAny, g3, bind_ok_, g4, pureO_some_]
    have g6 : wipeE (unown E) [3] = E := rfl
    have g7 : ((sc k).map (pE md)).length ≤ 100000 := by rw [List.length_map]; exact hlen2
    have h1 : lcD (gN 3) (bB (e2 (inG false) (eV 3) (eV 1))) (eV 3) ((sc k).map (pE md)) E b = _ := h1
    have g8 : eLc (aAny (eDgT (eV 0) (eV 2))) [3] (gN 3) (bB (e2 (inG false) (eV 3) (eV 1))) (eV 3) E b = .ok ((lP md) (inS sc so k)) b := by
      simp only [eLc, g5, bind_ok_, g6, if_pos g7, h1]
      rfl
    simp only [eTup, aCons, g2, g8, bind_ok_, aNil]
    rfl)
  have hd := dictPT_new md (fun k => (lP md) (inS sc so k)) so [] (by simpa using nd)
  have q1 : sAsg (eDictPT (eLc (aAny (eV 1)) [2] (gN 2) bYes (eTup (aCons (eV 2) (aCons (eLc (aAny (eDgT (eV 0) (eV 2))) [3] (gN 3) (bB (e2 (inG false) (eV 3) (eV 1))) (eV 3)) aNil))))) (gN 4) [some (.sh ((adjT md) ks sc)), some (.sh ((tP md) so)), none, none, none, none, none] b = .nx [some (.sh ((adjT md) ks sc)), some (.sh ((tP md) so)), none, none, some (.sh ((adjT md) so (inS sc so))), none, none] b := by
    have ha2 : aAny (eV 1) [some (.sh ((adjT md) ks sc)), some (.sh ((tP md) so)), none, none, none, none, none] b = .ok (so.map (pE md)) b := by simp
    have hl2 : (so.map (pE md)).length ≤ 100000 := by rw [List.length_map]; exact hsl
    have hu : wipeE (unown [some (.sh ((adjT md) ks sc)), some (.sh ((tP md) so)), none, none, none, none, none]) [2] = [some (.sh ((adjT md) ks sc)), some (.sh ((tP md) so)), none, none, none, none, none] := rfl
    have hd' : dictPT (.dtp [] []) (so.map fun k => .tup [(pE md) k, (lP md) (inS sc so k)]) = some ((adjT md) so (inS sc so)) := hd
    simp only [sAsg, eDictPT, eLc, ha2, bind_ok_, hl2, if_true, hu, hc, lstPT, hd', pureO_some_, st_ok_]
    rfl
  have ha3 : aAny (eV 1) [some (.sh ((adjT md) ks sc)), some (.sh ((tP md) so)), none, none, some (.sh ((adjT md) so (inS sc so))), none, none] b = .ok (so.map (pE md)) b := by simp
  obtain ⟨i1, i2⟩ := eachP_loop md (sc := sc) nd hl hk1 (some ((adjT md) ks sc)) b so (fun a h => h) none none none
  rw [e]
  by_cases hS : ∀ a ∈ so, ∀ g ∈ so, Pth sc (· ∈ so) a g
  · obtain ⟨p2, p3, p5, e1⟩ := i1 hS
    have hSC : SC sc (· ∈ so) := fun a g ha hg => hS a ha g hg
    rw [decide_eq_true hSC]
    simp only [Option.map_some, Option.map_none] at e1
    simp only [runD, List.length_cons, List.length_nil, if_true, hst, sSeq, q1, seq_nx_, sFor, ha3, st_ok_, e1]
    rfl
  · have e1 := i2 hS
    have hSC : ¬ SC sc (· ∈ so) := fun h => hS fun a ha g hg => h a g ha hg
    rw [decide_eq_false hSC]
    simp only [Option.map_some, Option.map_none] at e1
    simp only [runD, List.length_cons, List.length_nil, if_true, hst, sSeq, q1, seq_nx_, sFor, ha3, st_ok_, e1]
    rfl
end DL

set_option maxHeartbeats 1000000
namespace DL
open PySem PySem.Spec PyProof.Rows L2
variable (md : Nat)
theorem setsP_loop (s0 s1 : Option D) (b : Bag) : ∀ (es pre : List Int) (found : List (List Int)), SInv pre found → pre.length + es.length ≤ 10 → ∀ (o3 : Option D), ∃ (o3' : Option D) (found' : List (List Int)),
    loopD (gN 3) bSets (es.map (pE md)) [s0.map SD.sh, s1.map SD.sh, some (.sh (.lst (found.map (tP md)))), o3.map SD.sh, none] b = .nx [s0.map SD.sh, s1.map SD.sh, some (.sh (.lst (found'.map (tP md)))), o3'.map SD.sh, none] b ∧ SInv (pre ++ es) found'
  | [], pre, found, I, _, o3 => ⟨o3, found, rfl, by rw [List.append_nil]; exact I⟩
  | e :: es, pre, found, I, h, o3 => by
    rw [List.length_cons] at h
    obtain ⟨o3', found', h1, h2⟩ := setsP_loop s0 s1 b es (pre ++ [e]) (sbF found e) (I.step e) (by rw [List.length_append, List.length_singleton]; omega) (some ((pE md) e))
    refine ⟨o3', found', ?_, by rw [List.append_assoc] at h2; exact h2⟩
    have hfl : found.length ≤ 1024 := by
      rw [I.len]
      exact Nat.pow_le_pow_right (by decide) (by omega : pre.length ≤ 10)
    have hll : ∀ l ∈ found, l.length ≤ 10 := fun l hl => Nat.le_trans (I.sub l hl).length_le (by omega)
    have hc := lc_map (g := gN 4) (F := (e2 addF (eV 4) (eTup (aCons (eV 3) aNil)))) (f := fun d => match d with | .tup ds => .tup (ds ++ [(pE md) e]) | _ => .non) (found.map (tP md)) [s0.map SD.sh, s1.map SD.sh, some (.sh (.lst (found.map (tP md)))), some (.sh ((pE md) e)), none] b (fun d hd => by
      obtain ⟨l, hl, rfl⟩ := List.mem_map.mp hd
      have hlen : l.length + 1 ≤ 100000 := by have := hll l hl; omega
      refine ⟨_, rfl, ?_⟩
      unfold tP
      simp [hlen])
    have em : (found.map (tP md)).map (fun d => match d with | .tup ds => D.tup (ds ++ [(pE md) e]) | _ => .non) = (found.map (· ++ [e])).map (tP md) := by
      rw [List.map_map, List.map_map]
      apply List.map_congr_left
      intro l _
      show D.tup (l.map (pE md) ++ [(pE md) e]) = .tup ((l ++ [e]).map (pE md))
      rw [List.map_append]
      rfl
    rw [em] at hc
    have hl2 : found.length ≤ 100000 := by omega
    have hl3 : found.length + found.length ≤ 100000 := by omega
    unfold sbF at h1
    rw [List.map_append] at h1
    rw [List.map_cons]
    have hg : gN 3 ((pE md) e) [s0.map SD.sh, s1.map SD.sh, some (.sh (.lst (found.map (tP md)))), o3.map SD.sh, none] b = some ([s0.map SD.sh, s1.map SD.sh, some (.sh (.lst (found.map (tP md)))), some (.sh ((pE md) e)), none], b) := rfl
    have hu : wipeE (unown [s0.map SD.sh, s1.map SD.sh, some (.sh (.lst (found.map (tP md)))), some (.sh ((pE md) e)), none]) [4] = [s0.map SD.sh, s1.map SD.sh, some (.sh (.lst (found.map (tP md)))), some (.sh ((pE md) e)), none] := by
      cases s0 <;> cases s1 <;> rfl
    have hb : bSets [s0.map SD.sh, s1.map SD.sh, some (.sh (.lst (found.map (tP md)))), some (.sh ((pE md) e)), none] b = .nx [s0.map SD.sh, s1.map SD.sh, some (.sh (.lst (found.map (tP md) ++ (found.map (· ++ [e])).map (tP md)))), some (.sh ((pE md) e)), none] b := by
      have ha : aAny (eV 2) [s0.map SD.sh, s1.map SD.sh, some (.sh (.lst (found.map (tP md)))), some (.sh ((pE md) e)), none] b = .ok (found.map (tP md)) b := by simp
      have hv : eV 2 [s0.map SD.sh, s1.map SD.sh, some (.sh (.lst (found.map (tP md)))), some (.sh ((pE md) e)), none] b = .ok (.lst (found.map (tP md))) b := by simp
      have hlm : (found.map (tP md)).length ≤ 100000 := by rw [List.length_map]; exact hl2
      have hadd : addF (.lst (found.map (tP md))) (.lst ((found.map (· ++ [e])).map (tP md))) = some (.lst (found.map (tP md) ++ (found.map (· ++ [e])).map (tP md))) := by
        unfold addF
        simp [hl3]
      unfold bSets
      simp only [sAsg, e2, hv, bind_ok_, eLc, ha, hlm, if_true, hu, hc, hadd, pureO_some_, st_ok_]
      rfl
    unfold loopD
    rw [hg]; dsimp only; rw [hb]; dsimp only
    exact h1
end DL

set_option maxHeartbeats 1000000
namespace DL
open PySem PySem.Spec PyProof.Rows L2
variable (md : Nat)
section
variable {ks : List Int} {sc : Int → List Int} (nd : ks.Nodup) (cl : ∀ k ∈ ks, ∀ j ∈ sc k, j ∈ ks) (hl : ∀ k ∈ ks, (sc k).length ≤ 1000) (hk1 : ks.length ≤ 10) {bg : Int} (hb : bg ∈ ks)
include nd cl hl hk1 hb
open Classical in
theorem lawloopsP_ok (b : Bag) : ∃ Ls : List (List Int), F__law_loops_v3 [(adjT md) ks sc, (pE md) bg] b = .ok (.lst (Ls.map (tP md))) b ∧ Ls.length ≤ 1024 ∧
    (∀ l ∈ Ls, l.Nodup ∧ l ≠ [] ∧ l.length ≤ 10 ∧ (∀ k ∈ l, k = bg ∨ Pth sc (· ∈ ks) bg k) ∧ SC sc (· ∈ l)) ∧
    ∀ S : Int → Prop, (∃ a, S a) → SC sc S → (∀ a, S a → a = bg ∨ Pth sc (· ∈ ks) bg a) → ∃ l ∈ Ls, ∀ a, a ∈ l ↔ S a := by
  obtain ⟨f, f1, f2, f3, f4⟩ := pc_ok md nd cl hl (by omega) hb b
  have hfl : f.length ≤ ks.length := nd_sub f2 f4
  obtain ⟨o3, found, h1, I⟩ := setsP_loop md (some ((adjT md) ks sc)) (some ((pE md) bg)) b f [] [[]] sinv_nil (by rw [List.length_nil]; omega) none
  rw [List.nil_append] at I
  have hfound : found.length ≤ 1024 := by
    rw [I.len]
    exact Nat.pow_le_pow_right (by decide) (by omega : f.length ≤ 10)
  have hsub : ∀ l ∈ found, l.Nodup ∧ (∀ k ∈ l, k ∈ f) ∧ l.length ≤ 10 := fun l hl => ⟨(I.sub l hl).nodup f2, fun k hk => (I.sub l hl).subset hk, Nat.le_trans (I.sub l hl).length_le (by omega)⟩
  have hc := lc_filtL (i := 4) (b := b) (ρ := [some (.sh ((adjT md) ks sc)), some (.sh ((pE md) bg)), some (.sh (.lst (found.map (tP md)))), o3.map SD.sh, none]) (T := (bAnd (bB (e2 neF (eV 4) (eTup aNil))) (bB (eCall (F__law_is_loop_v2) (aCons (eV 0) (aCons (eV 4) aNil)))))) (F := eV 4) (tP md) (tP md) (fun l => !l.isEmpty && decide (SC sc (· ∈ l))) found (fun l hlf => by
    obtain ⟨g1, g2, g3⟩ := hsub l hlf
    have q1 := neF_tp md l
    have q2 := isloopP_ok md (ks := ks) (sc := sc) g1 (fun k hk => f4 k (g2 k hk)) (fun k hk => hl k (f4 k (g2 k hk))) (by omega) b
    let E : Env := [some (.sh ((adjT md) ks sc)), some (.sh ((pE md) bg)), some (.sh (.lst (found.map (tP md)))), o3.map SD.sh, some (.sh ((tP md) l))]
    show (bAnd (bB (e2 neF (eV 4) (eTup aNil))) (bB (eCall (F__law_is_loop_v2) (aCons (eV 0) (aCons (eV 4) aNil))))) E b = _
    have w0 : eV 0 E b = .ok ((adjT md) ks sc) b := rfl
    have w4 : eV 4 E b = .ok ((tP md) l) b := rfl
    have w5 : eTup aNil E b = .ok (.tup []) b := rfl
    have w6 : e2 neF (eV 4) (eTup aNil) E b = .ok (.bl !l.isEmpty) b := by
      simp only [e2, w4, w5, bind_ok_, q1, pureO_some_]
    have w7 : eCall (F__law_is_loop_v2) (aCons (eV 0) (aCons (eV 4) aNil)) E b = .ok (.bl (decide (SC sc (· ∈ l)))) b := by
      simp only [eCall, aCons, w0, w4, bind_ok_, aNil, q2]
    have w8 : bB (e2 neF (eV 4) (eTup aNil)) E b = .ok (!l.isEmpty) b := by
      unfold bB
      rw [w6]
      rfl
    have w9 : bB (eCall (F__law_is_loop_v2) (aCons (eV 0) (aCons (eV 4) aNil))) E b = .ok (decide (SC sc (· ∈ l))) b := by
      unfold bB
      rw [w7]
      rfl
    unfold bAnd
    rw [w8]
    cases l.isEmpty
    · simp only [bind_ok_, Bool.not_false, Bool.true_and]
      exact w9
    · rfl) (fun l hlf _ => by unfold tP; simp)
  refine ⟨found.filter (fun l => !l.isEmpty && decide (SC sc (· ∈ l))), ?_, Nat.le_trans (List.length_filter_le _ _) hfound, fun l hlm => ?_, fun S h0 hS hr => ?_⟩
  · have e : F__law_loops_v3 = runD 5 2 (sSeq (sAsg (eLst (aCons (eTup aNil) aNil)) (gN 2)) (sSeq (sFor (aAny (eCall (F__law_reached_v3) (aCons (eV 0) (aCons (eV 1) aNil)))) (gN 3) bSets) (sRet (eLc (aAny (eV 2)) [4] (gN 4) (bAnd (bB (e2 neF (eV 4) (eTup aNil))) (bB (eCall (F__law_is_loop_v2) (aCons (eV 0) (aCons (eV 4) aNil))))) (eV 4))))) := rfl
    have hst : startE 5 [(adjT md) ks sc, (pE md) bg] = [some (.sh ((adjT md) ks sc)), some (.sh ((pE md) bg)), none, none, none] := rfl
    have q1 : sAsg (eLst (aCons (eTup aNil) aNil)) (gN 2) [some (.sh ((adjT md) ks sc)), some (.sh ((pE md) bg)), none, none, none] b = .nx [some (.sh ((adjT md) ks sc)), some (.sh ((pE md) bg)), some (.sh (.lst ([[]].map (tP md)))), none, none] b := by
      simp
    have q2 : aAny (eCall (F__law_reached_v3) (aCons (eV 0) (aCons (eV 1) aNil))) [some (.sh ((adjT md) ks sc)), some (.sh ((pE md) bg)), some (.sh (.lst ([[]].map (tP md)))), none, none] b = .ok (f.map (pE md)) b := by
      unfold adjT at f1 ⊢
      unfold lP at f1 ⊢
      simp [f1]
    have q3 : aAny (eV 2) [some (.sh ((adjT md) ks sc)), some (.sh ((pE md) bg)), some (.sh (.lst (found.map (tP md)))), o3.map SD.sh, none] b = .ok (found.map (tP md)) b := by simp
    have hl2 : (found.map (tP md)).length ≤ 100000 := by rw [List.length_map]; omega
    have hu : wipeE (unown [some (.sh ((adjT md) ks sc)), some (.sh ((pE md) bg)), some (.sh (.lst (found.map (tP md)))), o3.map SD.sh, none]) [4] = [some (.sh ((adjT md) ks sc)), some (.sh ((pE md) bg)), some (.sh (.lst (found.map (tP md)))), o3.map SD.sh, none] := by
      cases o3 <;> rfl
    simp only [Option.map_some, Option.map_none] at h1
    rw [e]
    simp only [runD, List.length_cons, List.length_nil, if_true, hst, sSeq, q1, seq_nx_, sFor, q2, st_ok_, h1, sRet, eLc, q3, bind_ok_, hl2, hu, hc]
    rfl
  · obtain ⟨g1, g2⟩ := List.mem_filter.mp hlm
    obtain ⟨k1, k2, k3⟩ := hsub l g1
    rw [Bool.and_eq_true] at g2
    refine ⟨k1, fun h => ?_, k3, fun k hk => (f3 k).mp (k2 k hk), of_decide_eq_true g2.2⟩
    rw [h] at g2
    exact absurd g2.1 (by decide)
  · have hm := I.all fun a => decide (S a)
    have hmem : ∀ a, a ∈ f.filter (fun a => decide (S a)) ↔ S a := fun a => by
      rw [List.mem_filter, decide_eq_true_iff]
      exact ⟨(·.2), fun h => ⟨(f3 a).mpr (hr a h), h⟩⟩
    refine ⟨f.filter fun a => decide (S a), List.mem_filter.mpr ⟨hm, ?_⟩, hmem⟩
    rw [Bool.and_eq_true]
    obtain ⟨a, ha⟩ := h0
    refine ⟨?_, decide_eq_true (hS.congr fun a => (hmem a).symm)⟩
    have := (hmem a).mpr ha
    cases hq : f.filter (fun a => decide (S a)) with
    | nil => rw [hq] at this; cases this
    | cons _ _ => rfl
end
end DL

set_option maxHeartbeats 1000000
namespace DL
open PySem PySem.Spec PyProof.Rows L2
theorem zip_pE {md : Nat} (hm : 0 < md) : ∀ {as bs : List Int}, (∀ g ∈ bs, 0 ≤ g ∧ g < md) → zipOf (as.map D.int) (bs.map D.int) = (zipP md as bs).map (pE md)
  | [], _, _ => rfl
  | a :: as, [], _ => rfl
  | a :: as, c :: bs, h => by
    obtain ⟨c0, c1⟩ := h c List.mem_cons_self
    have ih := zip_pE hm (as := as) fun g hg => h g (List.mem_cons_of_mem _ hg)
    have e1 : (a * (md : Int) + c) / (md : Int) = a := pk_div (m := md) (i := a) c0 c1
    have e2 : (a * (md : Int) + c) % (md : Int) = c := pk_mod (m := md) (i := a) c0 c1
    show D.tup [.int a, .int c] :: zipOf (as.map D.int) (bs.map D.int) = pE md (a * (md : Int) + c) :: (zipP md as bs).map (pE md)
    rw [ih, pE, e1, e2]
theorem eIx_of {F G : EF} {ρ : Env} {b : Bag} {d k z : D} (h : F ρ b = .ok d b) (h' : G ρ b = .ok k b) (e : ixF b d k = some z) : eIx F G ρ b = .ok z b := by
  unfold eIx
  rw [h, bind_ok_, h', bind_ok_, e]
  rfl
def bPr : SF := (sDputT 2 (eTup (aCons (eV 3) (aCons (eV 4) aNil))) (eLstZ (aCons (eIx (eIx (eIx (eV 0) (eC (.int 1))) (eV 3)) (eC (.int 1))) (aCons (eIx (eIx (eIx (eV 1) (eC (.int 1))) (eV 4)) (eC (.int 1))) aNil))))
section
variable {x : Str} {rs1 rs2 : List Row} (h1 : RowsOk x.length rs1) (h2 : RowsOk x.length rs2)
include h1 h2
abbrev prE (x : Str) (rs1 rs2 : List Row) (t : Nat) (o3 o4 : Option SD) : Env := [some (.sh (toolD x rs1)), some (.sh (toolD x rs2)), some (.ow (adjT rs2.length (nums t) (scP rs1 rs2))), o3, o4]
theorem pr_step {i j : Nat} (hi : i < rs1.length) (hj : j < rs2.length) (b : Bag) : bPr (prE x rs1 rs2 (i * rs2.length + j) (some (.sh (.int i))) (some (.sh (.int j)))) b = .nx (prE x rs1 rs2 (i * rs2.length + j + 1) (some (.sh (.int i))) (some (.sh (.int j)))) b := by
  have n1 := h1.n1
  have n2 := h2.n1
  obtain ⟨a1, a2⟩ := rowAt_ok h1 (s := (i : Int)) (by omega) (by omega)
  obtain ⟨c1, c2⟩ := rowAt_ok h2 (s := (j : Int)) (by omega) (by omega)
  let E := prE x rs1 rs2 (i * rs2.length + j) (some (.sh (.int i))) (some (.sh (.int j)))
  have g1 : eIx (eIx (eIx (eV 0) (eC (.int 1))) (eV 3)) (eC (.int 1)) E b = .ok (.tup ((scM rs1 i).map D.int)) b := by
    have e1 : eIx (eV 0) (eC (.int 1)) E b = .ok (rowsD rs1) b := rfl
    have e3 : eV 3 E b = .ok (.int i) b := rfl
    have e4 : ixF b (rowsD rs1) (.int i) = some (rowD (rowAt rs1 i)) := a1
    exact eIx_of (eIx_of e1 e3 e4) rfl rfl
  have g2 : eIx (eIx (eIx (eV 1) (eC (.int 1))) (eV 4)) (eC (.int 1)) E b = .ok (.tup ((scM rs2 j).map D.int)) b := by
    have e1 : eIx (eV 1) (eC (.int 1)) E b = .ok (rowsD rs2) b := rfl
    have e3 : eV 4 E b = .ok (.int j) b := rfl
    have e4 : ixF b (rowsD rs2) (.int j) = some (rowD (rowAt rs2 j)) := c1
    exact eIx_of (eIx_of e1 e3 e4) rfl rfl
  have hpk : ((i * rs2.length + j : Nat) : Int) = pk rs2.length i j := by unfold pk; push_cast; rfl
  have hz : zipOf ((scM rs1 i).map D.int) ((scM rs2 j).map D.int) = (scP rs1 rs2 (i * rs2.length + j : Nat)).map (pE rs2.length) := by
    rw [hpk, scP_pk (by omega) (by omega)]
    exact zip_pE (by omega) c2.go
  have g3 : eLstZ (aCons (eIx (eIx (eIx (eV 0) (eC (.int 1))) (eV 3)) (eC (.int 1))) (aCons (eIx (eIx (eIx (eV 1) (eC (.int 1))) (eV 4)) (eC (.int 1))) aNil)) E b = .ok (lP rs2.length (scP rs1 rs2 (i * rs2.length + j : Nat))) b := by
    simp only [eLstZ, aCons, g1, g2, bind_ok_, aNil, zipTT, hz]
  have g4 : eTup (aCons (eV 3) (aCons (eV 4) aNil)) E b = .ok (pE rs2.length (i * rs2.length + j : Nat)) b := by
    rw [hpk, pE, pk_div (by omega) (by omega), pk_mod (by omega) (by omega)]
    rfl
  have hnew : ((i * rs2.length + j : Nat) : Int) ∉ nums (i * rs2.length + j) := fun h => by
    have := (mem_nums.mp h).2
    omega
  have hp := putT_new rs2.length (ns := nums (i * rs2.length + j)) (g := fun k => lP rs2.length (scP rs1 rs2 k)) (e := lP rs2.length (scP rs1 rs2 (i * rs2.length + j : Nat))) hnew
  have hlen : ((nums (i * rs2.length + j)).map (kyP rs2.length)).length ≤ 100000 := by
    rw [List.length_map, len_nums]
    have : i * rs2.length ≤ 6 * 6 := Nat.mul_le_mul (by omega) n2
    omega
  have hs : nums (i * rs2.length + j + 1) = nums (i * rs2.length + j) ++ [((i * rs2.length + j : Nat) : Int)] := by
    unfold nums
    rw [List.range_succ, List.map_append]
    rfl
  have e2 : E[2]? = some (some (.ow (adjT rs2.length (nums (i * rs2.length + j)) (scP rs1 rs2)))) := rfl
  show bPr E b = _
  simp only [bPr, sDputT, e2, g3, g4, st_ok_, keyT_p rs2.length, if_pos hlen, hp]
  have hD : D.dtp ((nums (i * rs2.length + j) ++ [((i * rs2.length + j : Nat) : Int)]).map (kyP rs2.length)) ((nums (i * rs2.length + j)).map (fun k => lP rs2.length (scP rs1 rs2 k)) ++ [lP rs2.length (scP rs1 rs2 (i * rs2.length + j : Nat))]) = adjT rs2.length (nums (i * rs2.length + j + 1)) (scP rs1 rs2) := by
    unfold adjT
    rw [hs, List.map_append, List.map_append]
    rfl
  rw [hD]
  rfl
theorem pairsL_ok (b : Bag) : F__law_pairs_v2 [toolD x rs1, toolD x rs2] b = .ok (adjT rs2.length (nums (rs1.length * rs2.length)) (scP rs1 rs2)) b := by
  have n1 := h1.n1
  have n2 := h2.n1
  have hn1 : (rs1.length : Int) ≤ 1000000 := by omega
  have hn2 : (rs2.length : Int) ≤ 1000000 := by omega
  have hin : ∀ (i : Nat), i < rs1.length → ∀ (o4 : Option SD), ∃ o4' : Option SD, loopD (gN 4) bPr (rangeOf (rs2.length : Int)) (prE x rs1 rs2 (i * rs2.length) (some (.sh (.int i))) o4) b = .nx (prE x rs1 rs2 ((i + 1) * rs2.length) (some (.sh (.int i))) o4') b := fun i hi o4 => by
    obtain ⟨ρ', b', f1, o4', f2, f3⟩ := loop_ind (g := gN 4) (B := bPr)
      (fun j ρ b' => ∃ o4 : Option SD, ρ = prE x rs1 rs2 (i * rs2.length + j) (some (.sh (.int i))) o4 ∧ b' = b)
      (rangeOf (rs2.length : Int)) 0 (fun j d hd ρ b' ⟨o4, g1, g2⟩ => by
        subst g1 g2
        obtain ⟨rfl, hj⟩ := range_get hd
        rw [Nat.zero_add]
        exact ⟨_, _, b', rfl, pr_step h1 h2 hi hj b', some (.sh (.int j)), rfl, rfl⟩) (prE x rs1 rs2 (i * rs2.length) (some (.sh (.int i))) o4) b ⟨o4, rfl, rfl⟩
    subst f2 f3
    refine ⟨o4', ?_⟩
    rw [range_len, Nat.zero_add] at f1
    rw [Nat.succ_mul]
    exact f1
  obtain ⟨ρ', b', f1, o3', o4', f2, f3⟩ := loop_ind (g := gN 3) (B := (sFor (aRng (aCons (eB lenF (aCons (eIx (eV 1) (eC (.int 1))) aNil)) aNil)) (gN 4) bPr))
    (fun i ρ b' => ∃ o3 o4 : Option SD, ρ = prE x rs1 rs2 (i * rs2.length) o3 o4 ∧ b' = b)
    (rangeOf (rs1.length : Int)) 0 (fun i d hd ρ b' ⟨o3, o4, g1, g2⟩ => by
      subst g1 g2
      obtain ⟨rfl, hi⟩ := range_get hd
      rw [Nat.zero_add]
      obtain ⟨o4', e⟩ := hin i hi o4
      refine ⟨(prE x rs1 rs2 (i * rs2.length) (some (.sh (.int i))) o4, b'), _, b', rfl, ?_, some (.sh (.int i)), o4', rfl, rfl⟩
      have hr : aRng (aCons (eB lenF (aCons (eIx (eV 1) (eC (.int 1))) aNil)) aNil) (prE x rs1 rs2 (i * rs2.length) (some (.sh (.int i))) o4) b' = .ok (rangeOf (rs2.length : Int)) b' := by
        have hl : rs2.length ≤ 100000 := by omega
        unfold prE toolD rowsD
        simp [aRng, hn2, hl]
      simp only [sFor, hr, st_ok_]
      exact e) (prE x rs1 rs2 0 none none) b ⟨none, none, by rw [Nat.zero_mul], rfl⟩
  subst f2 f3
  rw [range_len, Nat.zero_add] at f1
  have e : F__law_pairs_v2 = runD 5 2 (sSeq (sOwn eDnewT 2) (sSeq (sFor (aRng (aCons (eB lenF (aCons (eIx (eV 0) (eC (.int 1))) aNil)) aNil)) (gN 3) (sFor (aRng (aCons (eB lenF (aCons (eIx (eV 1) (eC (.int 1))) aNil)) aNil)) (gN 4) bPr)) (sFreeze 2 (sRet (eV 2))))) := rfl
  have hst : startE 5 [toolD x rs1, toolD x rs2] = [some (.sh (toolD x rs1)), some (.sh (toolD x rs2)), none, none, none] := rfl
  have r0 : sOwn eDnewT 2 [some (.sh (toolD x rs1)), some (.sh (toolD x rs2)), none, none, none] b' = .nx (prE x rs1 rs2 0 none none) b' := rfl
  have r1 : sFor (aRng (aCons (eB lenF (aCons (eIx (eV 0) (eC (.int 1))) aNil)) aNil)) (gN 3) (sFor (aRng (aCons (eB lenF (aCons (eIx (eV 1) (eC (.int 1))) aNil)) aNil)) (gN 4) bPr) (prE x rs1 rs2 0 none none) b' = .nx (prE x rs1 rs2 (rs1.length * rs2.length) o3' o4') b' := by
    have hr : aRng (aCons (eB lenF (aCons (eIx (eV 0) (eC (.int 1))) aNil)) aNil) (prE x rs1 rs2 0 none none) b' = .ok (rangeOf (rs1.length : Int)) b' := by
      have hl : rs1.length ≤ 100000 := by omega
      unfold prE toolD rowsD
      simp [aRng, hn1, hl]
    simp only [sFor, hr, st_ok_]
    exact f1
  rw [e]
  simp only [runD, List.length_cons, List.length_nil, if_true, hst]
  rw [seq_step r0, seq_step r1]
  rfl
end
end DL

set_option maxHeartbeats 1000000
namespace DL
open PySem PySem.Spec PyProof.Rows L2
theorem lc_mapQ {α : Type} {g : GF} {F : EF} {e f : α → D} : ∀ (xs : List α) (ρ : Env) (b : Bag), (∀ a ∈ xs, ∃ ρ', g (e a) ρ b = some (ρ', b) ∧ F ρ' b = .ok (f a) b) → lcD g bYes F (xs.map e) ρ b = .ok (xs.map f) b
  | [], ρ, b, _ => rfl
  | a :: xs, ρ, b, h => by
    obtain ⟨ρ', h0, h1⟩ := h a List.mem_cons_self
    have h3 := lc_mapQ xs ρ b fun d hd => h d (List.mem_cons_of_mem _ hd)
    simp [lcD, h0, h1, h3]
section
variable {x : Str} {rs1 rs2 : List Row} (h1 : RowsOk x.length rs1) (h2 : RowsOk x.length rs2)
include h1 h2
theorem code_in {k : Int} (k0 : 0 ≤ k) (k1 : k < (rs1.length * rs2.length : Nat)) : (0 ≤ k / (rs2.length : Int) ∧ k / (rs2.length : Int) < rs1.length) ∧ (0 ≤ k % (rs2.length : Int) ∧ k % (rs2.length : Int) < rs2.length) ∧ k = pk rs2.length (k / (rs2.length : Int)) (k % (rs2.length : Int)) := by
  obtain ⟨i, j, i0, i1, j0, j1, e⟩ := is_pk k0 k1
  have e1 : k / (rs2.length : Int) = i := by rw [e]; exact pk_div j0 j1
  have e2 : k % (rs2.length : Int) = j := by rw [e]; exact pk_mod j0 j1
  rw [e1, e2]
  exact ⟨⟨i0, i1⟩, ⟨j0, j1⟩, e⟩
abbrev topA (rs1 rs2 : List Row) (l : List Int) : Int := top0 (l.map fun k => colour rs1 (k / (rs2.length : Int)))
abbrev topB (rs2 : List Row) (l : List Int) : Int := top0 (l.map fun k => colour rs2 (k % (rs2.length : Int)))
theorem tops_ok {l : List Int} (h0 : l ≠ []) (hl : l.length ≤ 1000) (hk : ∀ k ∈ l, 0 ≤ k ∧ k < (rs1.length * rs2.length : Nat)) (b : Bag) : F__law_tops [toolD x rs1, toolD x rs2, tP rs2.length l] b = .ok (.tup [.int (topA rs1 rs2 l), .int (topB rs2 l)]) b := by
  let E : Env := [some (.sh (toolD x rs1)), some (.sh (toolD x rs2)), some (.sh (tP rs2.length l)), none, none]
  let E' (k : Int) : Env := [some (.sh (toolD x rs1)), some (.sh (toolD x rs2)), some (.sh (tP rs2.length l)), some (.sh (.int (k / (rs2.length : Int)))), some (.sh (.int (k % (rs2.length : Int))))]
  have ca := lc_mapQ (g := gT 2 (gsC (gN 3) (gsC (gN 4) gsN))) (F := eIx (eIx (eIx (eV 0) (eC (.int 1))) (eV 3)) (eC (.int 0))) (e := pE rs2.length) (f := fun k => .int (colour rs1 (k / (rs2.length : Int)))) l E b (fun k hkl => by
    obtain ⟨k0, k1⟩ := hk k hkl
    obtain ⟨⟨i0, i1⟩, _, _⟩ := code_in h1 h2 k0 k1
    obtain ⟨a1, a2⟩ := rowAt_ok h1 i0 i1
    refine ⟨E' k, rfl, ?_⟩
    have e1 : eIx (eV 0) (eC (.int 1)) (E' k) b = .ok (rowsD rs1) b := rfl
    have e3 : eV 3 (E' k) b = .ok (.int (k / (rs2.length : Int))) b := rfl
    have e4 : ixF b (rowsD rs1) (.int (k / (rs2.length : Int))) = some (rowD (rowAt rs1 (k / (rs2.length : Int)))) := a1
    rw [colour_at]
    exact eIx_of (eIx_of e1 e3 e4) rfl rfl)
  have cb := lc_mapQ (g := gT 2 (gsC (gN 3) (gsC (gN 4) gsN))) (F := eIx (eIx (eIx (eV 1) (eC (.int 1))) (eV 4)) (eC (.int 0))) (e := pE rs2.length) (f := fun k => .int (colour rs2 (k % (rs2.length : Int)))) l E b (fun k hkl => by
    obtain ⟨k0, k1⟩ := hk k hkl
    obtain ⟨_, ⟨j0, j1⟩, _⟩ := code_in h1 h2 k0 k1
    obtain ⟨a1, a2⟩ := rowAt_ok h2 j0 j1
    refine ⟨E' k, rfl, ?_⟩
    have e1 : eIx (eV 1) (eC (.int 1)) (E' k) b = .ok (rowsD rs2) b := rfl
    have e3 : eV 4 (E' k) b = .ok (.int (k % (rs2.length : Int))) b := rfl
    have e4 : ixF b (rowsD rs2) (.int (k % (rs2.length : Int))) = some (rowD (rowAt rs2 (k % (rs2.length : Int)))) := a1
    rw [colour_at]
    exact eIx_of (eIx_of e1 e3 e4) rfl rfl)
  have ha : aAny (eV 2) E b = .ok (l.map (pE rs2.length)) b := rfl
  have hll : (l.map (pE rs2.length)).length ≤ 100000 := by rw [List.length_map]; omega
  have hu : wipeE (unown E) [3, 4] = E := rfl
  have m1 := maxLF_ok (is := l.map fun k => colour rs1 (k / (rs2.length : Int))) (by simpa using h0)
  have m2 := maxLF_ok (is := l.map fun k => colour rs2 (k % (rs2.length : Int))) (by simpa using h0)
  rw [List.map_map] at m1 m2
  have c1 : eB maxLF (aCons (eLc (aAny (eV 2)) [3, 4] (gT 2 (gsC (gN 3) (gsC (gN 4) gsN))) bYes (eIx (eIx (eIx (eV 0) (eC (.int 1))) (eV 3)) (eC (.int 0)))) aNil) E b = .ok (.int (topA rs1 rs2 l)) b := by
    have m1 : maxLF [.lst (l.map fun k => D.int (colour rs1 (k / (rs2.length : Int))))] = _ := m1
    simp only [eB, aCons, eLc, ha, bind_ok_, if_pos hll, hu, ca, aNil, m1, pureO_some_]
  have c2 : eB maxLF (aCons (eLc (aAny (eV 2)) [3, 4] (gT 2 (gsC (gN 3) (gsC (gN 4) gsN))) bYes (eIx (eIx (eIx (eV 1) (eC (.int 1))) (eV 4)) (eC (.int 0)))) aNil) E b = .ok (.int (topB rs2 l)) b := by
    have m2 : maxLF [.lst (l.map fun k => D.int (colour rs2 (k % (rs2.length : Int))))] = _ := m2
    simp only [eB, aCons, eLc, ha, bind_ok_, if_pos hll, hu, cb, aNil, m2, pureO_some_]
  have e : F__law_tops = runD 5 3 (sRet (eTup (aCons (eB maxLF (aCons (eLc (aAny (eV 2)) [3, 4] (gT 2 (gsC (gN 3) (gsC (gN 4) gsN))) bYes (eIx (eIx (eIx (eV 0) (eC (.int 1))) (eV 3)) (eC (.int 0)))) aNil)) (aCons (eB maxLF (aCons (eLc (aAny (eV 2)) [3, 4] (gT 2 (gsC (gN 3) (gsC (gN 4) gsN))) bYes (eIx (eIx (eIx (eV 1) (eC (.int 1))) (eV 4)) (eC (.int 0)))) aNil)) aNil)))) := rfl
  have hst : startE 5 [toolD x rs1, toolD x rs2, tP rs2.length l] = E := rfl
  rw [e]
  have hc : ∀ (F G : EF) (d g : D), F E b = .ok d b → G E b = .ok g b → (sRet (eTup (aCons F (aCons G aNil)))) E b = .rt (.tup [d, g]) b := fun F G d g e1 e2 => by
    simp only [sRet, eTup, aCons, e1, e2, bind_ok_, aNil]
    rfl
  simp only [runD, List.length_cons, List.length_nil, if_true, hst, hc _ _ _ _ c1 c2]
  rfl
variable (hx : x ∈ sgs)
include hx
theorem scP_in {a : Int} (a0 : 0 ≤ a) (a1 : a < (rs1.length * rs2.length : Nat)) : ∀ c ∈ scP rs1 rs2 a, 0 ≤ c ∧ c < (rs1.length * rs2.length : Nat) := by
  obtain ⟨l1, l2⟩ := sg_len hx
  have G := gr_P h1 h2 (by omega : x.length ≤ 1000)
  exact G.go a a0 a1
end
end DL

set_option maxHeartbeats 1000000
namespace DL
open PySem PySem.Spec PyProof.Rows L2
theorem eqF_two (a c e f : Int) : eqF (.lst [.int a, .int c]) (.lst [.int e, .int f]) = some (.bl (decide (a = e ∧ c = f))) := by
  have h1 := sh_ints [a, c]
  have h2 := sh_ints [e, f]
  have p1 : (D.lst [.int a, .int c]).pd = some (.list ([a, c].map PyData.int)) := rfl
  have p2 : (D.lst [.int e, .int f]).pd = some (.list ([e, f].map PyData.int)) := rfl
  have hv : PyData.eqv (.list ([a, c].map PyData.int)) (.list ([e, f].map PyData.int)) = ((a == e) && (c == f)) := by
    simp [PyData.eqv, PyData.eqvAll]
  unfold eqF
  rw [p1, p2]
  simp only [h1, h2, and_self, if_true, hv]
  by_cases ha : a = e <;> by_cases hc : c = f <;> simp [ha, hc]
theorem pth_allP {sc : Int → List Int} {ks : List Int} (cl : ∀ k ∈ ks, ∀ j ∈ sc k, j ∈ ks) {a g : Int} (h : Pth sc (fun _ => True) a g) (ha : a ∈ ks) : Pth sc (· ∈ ks) a g := by
  induction h with
  | one h1 _ => exact .one h1 (cl _ ha _ h1)
  | step h1 _ _ ih => exact .step h1 (cl _ ha _ h1) (ih (cl _ ha _ h1))
end DL

set_option maxHeartbeats 1000000
namespace DL
open PySem PySem.Spec PyProof.Rows L2
def bWalkV : SF := (sSeq (sAsg (eIx (eIx (eIx (eIx (eV 0) (eC (.int 1))) (eV 1)) (eC (.int 1))) (eM sidxF (eIx (eV 0) (eC (.int 0))) (aCons (eV 4) aNil))) (gN 1)) (sPush 3 (eV 1)))
theorem walkV_loop {x : Str} {rs : List Row} (hx : x ∈ sgs) (hr : RowsOk x.length rs) (p2 : Option SD) (b : Bag) : ∀ (cs : List Nat) (s : Int) (found : List D) (o4 : Option D), (∀ c ∈ cs, c ∈ x.cps.toList) → 0 ≤ s → s < rs.length → found.length + cs.length ≤ 100000 →
    ∃ (s' : Int) (o4' : Option D), loopD (gN 4) bWalkV (cs.map fun c => .str (one c)) [some (.sh (toolD x rs)), some (.sh (.int s)), p2, some (.ow (.lst found)), o4.map SD.sh] b =
      .nx [some (.sh (toolD x rs)), some (.sh (.int s')), p2, some (.ow (.lst (found ++ (walkL x rs s cs).map D.int))), o4'.map SD.sh] b
  | [], s, found, o4, _, _, _, _ => ⟨s, o4, by simp [loopD, walkL]⟩
  | c :: cs, s, found, o4, h, h0, h1, hl => by
    have hc := h c List.mem_cons_self
    obtain ⟨r, g1, g2, g3, g4⟩ := goal_ok hr h0 h1 (occ_ok hx hc).2
    rw [List.length_cons] at hl
    obtain ⟨s', o4', h5⟩ := walkV_loop hx hr p2 b cs (goal rs s (idx x c)) (found ++ [.int (goal rs s (idx x c))]) (some (.str (one c))) (fun c hc => h c (List.mem_cons_of_mem _ hc)) g3 g4 (by rw [List.length_append]; simp; omega)
    refine ⟨s', o4', ?_⟩
    have hf : found.length ≤ 100000 := by omega
    have hs := sidx_ok hx hc
    unfold toolD at h5 ⊢
    unfold rowsD rowD at *
    rw [List.map_cons]
    unfold loopD
    simp [bWalkV, eM, g1, g2, hs, hf, walkL] at h5 ⊢
    exact h5
theorem lawwalkV_ok {x w : Str} {rs : List Row} (hx : x ∈ sgs) (hr : RowsOk x.length rs) {s : Int} (h0 : 0 ≤ s) (h1 : s < rs.length) (hw : Wd x w) (hl : w.length ≤ 100000) (b : Bag) :
    F__law_walk_v2 [toolD x rs, .int s, .str w] b = .ok (.lst ((walkL x rs s w.cps.toList).map D.int)) b := by
  obtain ⟨s', o4', e1⟩ := walkV_loop hx hr (some (.sh (.str w))) b w.cps.toList s [] none hw h0 h1 (len_ok hl)
  unfold F__law_walk_v2 G__law_walk_v2
  unfold bWalkV at e1
  cases o4' <;> simp [sFor, signs_eq] at e1 ⊢ <;> simp [e1]
theorem lawendV_ok {x w : Str} {rs : List Row} (hx : x ∈ sgs) (hr : RowsOk x.length rs) {s : Int} (h0 : 0 ≤ s) (h1 : s < rs.length) (hw : Wd x w) (hl : w.length ≤ 90000) (b : Bag) :
    F__law_end_v2 [toolD x rs, .int s, .str w] b = .ok (.int (walkE x rs s w.cps.toList)) b := by
  have e1 := lawwalkV_ok hx hr h0 h1 hw (by omega) b
  have e2 := atI_neg1 (walk_last x rs w.cps.toList s)
  have hlen : w.cps.toList.length = w.length := by simp [Str.length]
  have e3 : 1 + (walkL x rs s w.cps.toList).length ≤ 100000 := by rw [walk_len]; omega
  have e4 : (walkL x rs s w.cps.toList).length + 1 ≤ 100000 := by omega
  unfold F__law_end_v2 G__law_end_v2
  rw [List.map_cons] at e2
  unfold toolD at e1 ⊢
  simp [e1, e2, e3, e4]
end DL

set_option maxHeartbeats 1000000
namespace DL
open PySem PySem.Spec PyProof.Rows L2
instance (x w : Str) : Decidable (Wd x w) := inferInstanceAs (Decidable (∀ c ∈ w.cps.toList, c ∈ x.cps.toList))
end DL

set_option maxHeartbeats 1000000
namespace DL
open PySem PySem.Spec PyProof.Rows L2
theorem RowsT.rows {k : Nat} {rs : List Row} (h : RowsT k 6 rs) : RowsOk k rs := ⟨h.n0, h.n1, fun r hr => by
  obtain ⟨a, b, c, d⟩ := h.ok r hr
  exact ⟨a, b, c, d⟩⟩
theorem RowsT.set {k : Nat} {T : Int} {rs : List Row} (h : RowsT k T rs) (j : Nat) {r : Row} (h0 : 0 ≤ r.1) (h1 : r.1 ≤ T) (h2 : r.2.length = k) (h3 : ∀ g ∈ r.2, 0 ≤ g ∧ g < rs.length) : RowsT k T (rs.set j r) := by
  refine ⟨by rw [List.length_set]; exact h.n0, by rw [List.length_set]; exact h.n1, fun q hq => ?_⟩
  rw [List.length_set]
  rcases List.mem_or_eq_of_mem_set hq with hq | rfl
  · exact h.ok q hq
  · exact ⟨h0, h1, h2, h3⟩
end DL

set_option maxHeartbeats 1000000

set_option maxHeartbeats 1000000
namespace DL
open PySem PySem.Spec PyProof.Rows L2
theorem tool_stepP {x : Str} {n : Nat} {top : Int} (hx : x ∈ sgs) (hn : 1 ≤ n) (hn6 : n ≤ 6) (ht : 0 ≤ top) (ht6 : top ≤ 6) (o2 : Option D) (rows : List D) (hrows : rows.length ≤ 100) (o6 : Option D) (o7 : Option D) (b : Bag) :
    ∃ r b' w7, bTool [some (.sh .bag), some (.sh (.str x)), o2.map SD.sh, some (.sh (.int top)), some (.sh (.int n)), some (.ow (.lst rows)), o6.map SD.sh, o7.map SD.sh, none] b =
      .nx [some (.sh .bag), some (.sh (.str x)), o2.map SD.sh, some (.sh (.int top)), some (.sh (.int n)), some (.ow (.lst (rows ++ [rowD r]))), o6.map SD.sh, (some w7).map SD.sh, none] b' ∧ RowOk x.length n r ∧ r.1 ≤ top := by
  obtain ⟨gs, b1, hg, hgl, hgo⟩ := pgoals_ok (x := x) hn hn6 [some (.sh .bag), some (.sh (.str x)), o2.map SD.sh, some (.sh (.int top)), some (.sh (.int n)), none, o6.map SD.sh, o7.map SD.sh, none] b rfl rfl
  obtain ⟨col, b2, hc, c0, c1⟩ := pdraw_ok b1 (m := top + 1) (by omega) (by omega)
  obtain ⟨l1, l2⟩ := sg_len hx
  have hsl : (signsOf x).length ≤ 100000 := by
    have : (signsOf x).length = x.length := by simp [signsOf, Str.length]
    omega
  have hr1000 : rows.length ≤ 100000 := by omega
  refine ⟨(col, gs), b2, .tup (gs.map D.int), ?_, ⟨c0, by show col ≤ 6; omega, hgl, hgo⟩, by show col ≤ top; omega⟩
  unfold bTool rowD
  cases o7 <;> cases o2 <;> cases o6 <;> simp [hsl] at hg ⊢ <;> simp [hg, hc, tupleF, hr1000]
theorem tool_okP (b : Bag) {x : Str} (hx : x ∈ sgs) {most : Nat} (hm : 1 ≤ most) (hm6 : most ≤ 6) {top : Int} (t0 : 0 ≤ top) (t6 : top ≤ 6) : ∃ rs b', F__law_tool [.bag, .str x, .int most, .int top] b = .ok (toolD x rs) b' ∧ RowsOk x.length rs ∧ (∀ r ∈ rs, r.1 ≤ top) ∧ rs.length ≤ most := by
  obtain ⟨m, b1, hmm, m0, m1⟩ := pdraw_ok b (m := most) (by omega) (by omega)
  obtain ⟨n, hn⟩ : ∃ n : Nat, 1 + m = (n : Int) := ⟨(1 + m).toNat, by omega⟩
  have hn1 : 1 ≤ n := by omega
  have hn6 : n ≤ 6 := by omega
  obtain ⟨ρ', b', e1, rs, o6, o7, e2, e3, e4⟩ := loop_ind (g := gN 6) (B := bTool)
    (fun i ρ b => ∃ (rs : List Row) (o6 o7 : Option D), ρ = [some (.sh .bag), some (.sh (.str x)), some (.sh (.int most)), some (.sh (.int top)), some (.sh (.int n)), some (.ow (.lst (rs.map rowD))), o6.map SD.sh, o7.map SD.sh, none] ∧ rs.length = i ∧ ∀ r ∈ rs, RowOk x.length n r ∧ r.1 ≤ top)
    (rangeOf (n : Int)) 0 (fun i d hd ρ b ⟨rs, o6, o7, h1, h2, h3⟩ => by
      subst h1
      obtain ⟨rfl, hi⟩ := range_get hd
      obtain ⟨r, b', w7, h4, h5⟩ := tool_stepP (n := n) hx hn1 hn6 t0 t6 (some (.int most)) (rs.map rowD) (by rw [List.length_map]; omega) (some (.int i)) o7 b
      refine ⟨_, _, b', rfl, h4, rs ++ [r], some (.int i), some w7, ?_, ?_, ?_⟩
      · rw [List.map_append]; rfl
      · rw [List.length_append, h2]; rfl
      · intro q hq
        rcases List.mem_append.mp hq with hq | hq
        · exact h3 q hq
        · have : q = r := by simpa using hq
          subst this
          exact h5) [some (.sh .bag), some (.sh (.str x)), some (.sh (.int most)), some (.sh (.int top)), some (.sh (.int n)), some (.ow (.lst [])), none, none, none] b1 ⟨[], none, none, rfl, rfl, fun _ h => by cases h⟩
  rw [range_len, Nat.zero_add] at e3
  refine ⟨rs, b', ?_, ⟨by omega, by omega, fun r hr => by rw [e3]; exact (e4 r hr).1⟩, fun r hr => (e4 r hr).2, by omega⟩
  subst e2
  unfold F__law_tool G__law_tool
  unfold bTool at e1
  have hn9 : (n : Int) ≤ 1000000 := by omega
  cases o6 <;> simp [hmm, hn, sFor, aRng, e1, tupleF, rowsD, hn9]
end DL

set_option maxHeartbeats 1000000
namespace DL
open PySem PySem.Spec PyProof.Rows L2
theorem acons_ok {F : EF} {G : AF} {ρ : Env} {b : Bag} {d : D} {ds : List D} (u : F ρ b = .ok d b) (v : G ρ b = .ok ds b) : aCons F G ρ b = .ok (d :: ds) b := by
  simp only [aCons, u, v, bind_ok_]
theorem call1 {Fn : DFn} {F : EF} {ρ : Env} {b b' : Bag} {d z : D} (u : F ρ b = .ok d b) (h : Fn [d] b = .ok z b') : eCall Fn (aCons F aNil) ρ b = .ok z b' := by
  simp only [eCall, aCons, u, bind_ok_, aNil, h]
theorem call2 {Fn : DFn} {F G : EF} {ρ : Env} {b b' : Bag} {d g z : D} (u : F ρ b = .ok d b) (v : G ρ b = .ok g b) (h : Fn [d, g] b = .ok z b') : eCall Fn (aCons F (aCons G aNil)) ρ b = .ok z b' := by
  simp only [eCall, aCons, u, v, bind_ok_, aNil, h]
theorem call3 {Fn : DFn} {F G K : EF} {ρ : Env} {b b' : Bag} {d g k z : D} (u : F ρ b = .ok d b) (v : G ρ b = .ok g b) (w : K ρ b = .ok k b) (h : Fn [d, g, k] b = .ok z b') : eCall Fn (aCons F (aCons G (aCons K aNil))) ρ b = .ok z b' := by
  simp only [eCall, aCons, u, v, w, bind_ok_, aNil, h]
theorem callK2 {Fn : DFn} {F G : EF} {ρ : Env} {b b' : Bag} {d g z : D} (u : F ρ b = .ok d b) (v : G ρ b = .ok g b) (h : Fn [g, d] b = .ok z b') : eCallK 2 Fn (pick [1, 0]) (aCons F (aCons G aNil)) ρ b = .ok z b' := by
  have hG : aCons F (aCons G aNil) ρ b = .ok [d, g] b := by simp only [aCons, u, v, bind_ok_, aNil]
  have hp : pick [1, 0] [d, g] = [g, d] := rfl
  have hl : [d, g].length = 2 := rfl
  simp only [eCallK, hG, bind_ok_, hl, if_true, hp, h]
theorem lst2 {F G : EF} {ρ : Env} {b : Bag} {d g : D} (u : F ρ b = .ok d b) (v : G ρ b = .ok g b) : eLst (aCons F (aCons G aNil)) ρ b = .ok (.lst [d, g]) b := by
  simp only [eLst, aCons, u, v, bind_ok_, aNil]
  rfl
theorem asg_ok {F : EF} {ρ ρ' : Env} {b b' : Bag} {d : D} {i : Nat} (h : F ρ b = .ok d b') (e : ρ.set i (some (.sh d)) = ρ') : sAsg F (gN i) ρ b = .nx ρ' b' := by
  subst e
  simp only [sAsg, h, st_ok_]
  rfl
theorem if_eq {F G : EF} {S : SF} {ρ : Env} {b : Bag} {z : Str} (hk : PyData.strOk z = true) (u : F ρ b = .ok (.str z) b) (v : G ρ b = .ok (.str z) b) : sIf (bB (e2 neF F G)) S sNil ρ b = .nx ρ b := by
  have hq := neF_str hk
  simp only [sIf, bB, e2, u, v, bind_ok_, hq, pureO_some_, st_ok_]
  rfl
theorem rep1 {f : List D → Option D} {F : EF} {ρ : Env} {b : Bag} {d : D} {z : D} (u : F ρ b = .ok d b) (h : f [d] = some z) : eB f (aCons F aNil) ρ b = .ok z b := by
  simp only [eB, aCons, u, bind_ok_, aNil, h, pureO_some_]

theorem tst {F : EF} {ρ : Env} {b : Bag} {c : Bool} (u : F ρ b = .ok (.bl c) b) : bB F ρ b = .ok c b := by
  simp only [bB, u, bind_ok_]
def EE (rs1 rs2 : List Row) (l : List Int) : Prop := topA rs1 rs2 l % 2 = 0 ∧ topB rs2 l % 2 = 0
instance (rs1 rs2 : List Row) (l : List Int) : Decidable (EE rs1 rs2 l) := by unfold EE; infer_instance
def bEs : SF := (sIf (bAnd (bB (e2 eqF (eLc (aAny (eCall (F__law_tops) (aCons (eV 0) (aCons (eV 1) (aCons (eV 5) aNil))))) [6] (gN 6) bYes (e2 modF (eB intF (aCons (eV 6) aNil)) (eC (.int 2)))) (eLst (aCons (eC (.int 0)) (aCons (eC (.int 0)) aNil))))) (bB (eInGOw true 3 (eIx (eV 5) (eC (.int 0)))))) (sPush 3 (eIx (eV 5) (eC (.int 0)))) sNil)
abbrev eS (x : Str) (rs1 rs2 : List Row) (st : List Int) (o4 o5 : Option D) : Env := [some (.sh (toolD x rs1)), some (.sh (toolD x rs2)), some (.sh (adjT rs2.length (nums (rs1.length * rs2.length)) (scP rs1 rs2))), some (.ow (lP rs2.length st)), o4.map SD.sh, o5.map SD.sh, none]
section
variable {x : Str} {rs1 rs2 : List Row} (h1 : RowsOk x.length rs1) (h2 : RowsOk x.length rs2)
include h1 h2
theorem es_step {h : Int} {t : List Int} (hl : (h :: t).length ≤ 1000) (hk : ∀ k ∈ h :: t, 0 ≤ k ∧ k < (rs1.length * rs2.length : Nat)) (st : List Int) (hst : st.length ≤ 1000) (o4 : Option D) (b : Bag) :
    bEs (eS x rs1 rs2 st o4 (some (tP rs2.length (h :: t)))) b = .nx (eS x rs1 rs2 (if EE rs1 rs2 (h :: t) ∧ h ∉ st then st ++ [h] else st) o4 (some (tP rs2.length (h :: t)))) b := by
  have ht := tops_ok h1 h2 (l := h :: t) (by simp) hl hk b
  let l := h :: t
  let E := eS x rs1 rs2 st o4 (some (tP rs2.length (h :: t)))
  have ga : aAny (eCall (F__law_tops) (aCons (eV 0) (aCons (eV 1) (aCons (eV 5) aNil)))) E b = .ok [.int (topA rs1 rs2 l), .int (topB rs2 l)] b := by
    have hc := call3 (F := eV 0) (G := eV 1) (K := eV 5) (ρ := E) (b := b) rfl rfl rfl ht
    have ho : allOf (.tup [.int (topA rs1 rs2 l), .int (topB rs2 l)]) = some [.int (topA rs1 rs2 l), .int (topB rs2 l)] := rfl
    unfold aAny
    rw [hc, bind_ok_]
    rfl
  have gl : eLc (aAny (eCall (F__law_tops) (aCons (eV 0) (aCons (eV 1) (aCons (eV 5) aNil))))) [6] (gN 6) bYes (e2 modF (eB intF (aCons (eV 6) aNil)) (eC (.int 2))) E b = .ok (.lst [.int (topA rs1 rs2 l % 2), .int (topB rs2 l % 2)]) b := by
    have hc := lc_mapQ (g := gN 6) (F := e2 modF (eB intF (aCons (eV 6) aNil)) (eC (.int 2))) (e := D.int) (f := fun k => .int (k % 2)) [topA rs1 rs2 l, topB rs2 l] (wipeE (unown E) [6]) b (fun k _ => ⟨_, rfl, by cases o4 <;> simp [E, unown, wipeE]⟩)
    have hc : lcD (gN 6) bYes (e2 modF (eB intF (aCons (eV 6) aNil)) (eC (.int 2))) [.int (topA rs1 rs2 l), .int (topB rs2 l)] (wipeE (unown E) [6]) b = .ok [.int (topA rs1 rs2 l % 2), .int (topB rs2 l % 2)] b := hc
    have hl2 : [D.int (topA rs1 rs2 l), D.int (topB rs2 l)].length ≤ 100000 := by show 2 ≤ 100000; decide
    simp only [eLc, ga, bind_ok_, if_pos hl2, hc]
  have g0 : eLst (aCons (eC (.int 0)) (aCons (eC (.int 0)) aNil)) E b = .ok (.lst [.int 0, .int 0]) b := lst2 rfl rfl
  have hq := eqF_two (topA rs1 rs2 l % 2) (topB rs2 l % 2) 0 0
  have hb : bB (e2 eqF (eLc (aAny (eCall (F__law_tops) (aCons (eV 0) (aCons (eV 1) (aCons (eV 5) aNil))))) [6] (gN 6) bYes (e2 modF (eB intF (aCons (eV 6) aNil)) (eC (.int 2)))) (eLst (aCons (eC (.int 0)) (aCons (eC (.int 0)) aNil)))) E b = .ok (decide (EE rs1 rs2 l)) b := by
    have h : ∀ F G : EF, F E b = .ok (.lst [.int (topA rs1 rs2 l % 2), .int (topB rs2 l % 2)]) b → G E b = .ok (.lst [.int 0, .int 0]) b → bB (e2 eqF F G) E b = .ok (decide (topA rs1 rs2 l % 2 = 0 ∧ topB rs2 l % 2 = 0)) b := fun F G u v => by
      simp only [bB, e2, u, v, bind_ok_, hq, pureO_some_]
    exact h _ _ gl g0
  have e5 : ixF b (tP rs2.length (h :: t)) (.int 0) = some (pE rs2.length h) := atI_nat (i := 0) rfl
  have g5 : eIx (eV 5) (eC (.int 0)) E b = .ok (pE rs2.length h) b := eIx_of rfl rfl e5
  have gi : bB (eInGOw true 3 (eIx (eV 5) (eC (.int 0)))) E b = .ok (!decide (h ∈ st)) b := by
    have hin := inG_l rs2.length true h st
    have e3 : E[3]? = some (some (.ow (lP rs2.length st))) := rfl
    simp only [bB, eInGOw, e3, g5, bind_ok_]
    rw [show (D.lst (st.map (pE rs2.length))) = lP rs2.length st from rfl, hin]
    rfl
  have gp : sPush 3 (eIx (eV 5) (eC (.int 0))) E b = .nx (eS x rs1 rs2 (st ++ [h]) o4 (some (tP rs2.length (h :: t)))) b := by
    have e3 : E[3]? = some (some (.ow (.lst (st.map (pE rs2.length))))) := rfl
    have hlen : (st.map (pE rs2.length)).length ≤ 100000 := by rw [List.length_map]; omega
    simp only [sPush, e3, g5, st_ok_, if_pos hlen]
    have : (st ++ [h]).map (pE rs2.length) = st.map (pE rs2.length) ++ [pE rs2.length h] := by rw [List.map_append]; rfl
    unfold eS
    rw [← this]
    rfl
  show bEs E b = _
  have key : ∀ (P Q : BF) (S : SF), P E b = .ok (decide (EE rs1 rs2 l)) b → Q E b = .ok (!decide (h ∈ st)) b → sIf (bAnd P Q) S sNil E b = if EE rs1 rs2 l ∧ h ∉ st then S E b else .nx E b := fun P Q S u v => by
    by_cases c1 : EE rs1 rs2 l
    · rw [decide_eq_true c1] at u
      by_cases c2 : h ∈ st
      · rw [decide_eq_true c2] at v
        rw [if_neg (fun z => z.2 c2)]
        simp [sIf, bAnd, u, v]
      · rw [decide_eq_false c2] at v
        rw [if_pos ⟨c1, c2⟩]
        simp [sIf, bAnd, u, v]
    · rw [decide_eq_false c1] at u
      rw [if_neg (fun z => c1 z.1)]
      simp [sIf, bAnd, u]
  have := key _ _ (sPush 3 (eIx (eV 5) (eC (.int 0)))) hb gi
  unfold bEs
  rw [this]
  by_cases c : EE rs1 rs2 (h :: t) ∧ h ∉ st
  · rw [if_pos c, if_pos c, gp]
  · rw [if_neg c, if_neg c]
end
end DL

set_option maxHeartbeats 1000000
namespace DL
open PySem PySem.Spec PyProof.Rows L2
section
variable {x : Str} {rs1 rs2 : List Row} (h1 : RowsOk x.length rs1) (h2 : RowsOk x.length rs2) (hm : rs1.length * rs2.length ≤ 10)
include h1 h2 hm
theorem es_loop (o4 : Option D) (b : Bag) : ∀ (Ls : List (List Int)), (∀ l ∈ Ls, l ≠ [] ∧ l.length ≤ 10 ∧ ∀ k ∈ l, k ∈ nums (rs1.length * rs2.length)) → ∀ (st : List Int), st.Nodup → (∀ s ∈ st, s ∈ nums (rs1.length * rs2.length)) → ∀ (o5 : Option D), ∃ (st' : List Int) (o5' : Option D),
    loopD (gN 5) bEs (Ls.map (tP rs2.length)) (eS x rs1 rs2 st o4 o5) b = .nx (eS x rs1 rs2 st' o4 o5') b ∧ st'.Nodup ∧ (∀ s ∈ st', s ∈ nums (rs1.length * rs2.length)) ∧ (∀ s ∈ st', s ∈ st ∨ ∃ l ∈ Ls, EE rs1 rs2 l ∧ s ∈ l) ∧ (∀ s ∈ st, s ∈ st') ∧ ∀ l ∈ Ls, EE rs1 rs2 l → ∃ s ∈ st', s ∈ l
  | [], _, st, hd, hs, o5 => ⟨st, o5, rfl, hd, hs, fun s h => .inl h, fun s h => h, fun l h => by cases h⟩
  | l :: Ls, hL, st, hd, hs, o5 => by
    obtain ⟨l0, l1, l2⟩ := hL l List.mem_cons_self
    obtain ⟨h, t, rfl⟩ : ∃ h t, l = h :: t := by
      cases l with
      | nil => exact absurd rfl l0
      | cons h t => exact ⟨h, t, rfl⟩
    have hsl : st.length ≤ 10 := by
      have := nd_sub hd hs
      rw [len_nums] at this
      omega
    have step := es_step h1 h2 (h := h) (t := t) (by omega) (fun k hk => mem_nums.mp (l2 k hk)) st (by omega) o4 b
    obtain ⟨st1, e1, d1, s1, s2, s3, s4⟩ : ∃ st1, (if EE rs1 rs2 (h :: t) ∧ h ∉ st then st ++ [h] else st) = st1 ∧ st1.Nodup ∧ (∀ s ∈ st1, s ∈ nums (rs1.length * rs2.length)) ∧ (∀ s ∈ st1, s ∈ st ∨ (EE rs1 rs2 (h :: t) ∧ s ∈ h :: t)) ∧ (∀ s ∈ st, s ∈ st1) ∧ (EE rs1 rs2 (h :: t) → h ∈ st1) := by
      by_cases c : EE rs1 rs2 (h :: t) ∧ h ∉ st
      · refine ⟨_, rfl, ?_⟩
        rw [if_pos c]
        refine ⟨?_, fun s hs' => ?_, fun s hs' => ?_, fun s hs' => List.mem_append_left _ hs', fun _ => by simp⟩
        · rw [List.nodup_append]
          exact ⟨hd, List.nodup_cons.mpr ⟨by simp, List.nodup_nil⟩, fun a ha y hy e => c.2 (by
            have : y = h := by simpa using hy
            rw [← this, ← e]; exact ha)⟩
        · rcases List.mem_append.mp hs' with h' | h'
          · exact hs s h'
          · have : s = h := by simpa using h'
            rw [this]; exact l2 h List.mem_cons_self
        · rcases List.mem_append.mp hs' with h' | h'
          · exact .inl h'
          · have : s = h := by simpa using h'
            rw [this]; exact .inr ⟨c.1, List.mem_cons_self⟩
      · refine ⟨_, rfl, ?_⟩
        rw [if_neg c]
        exact ⟨hd, hs, fun s h' => .inl h', fun s h' => h', fun he => Classical.byContradiction fun hn => c ⟨he, hn⟩⟩
    rw [e1] at step
    obtain ⟨st', o5', g1, g2, g3, g4, g5, g6⟩ := es_loop o4 b Ls (fun l h => hL l (List.mem_cons_of_mem _ h)) st1 d1 s1 (some (tP rs2.length (h :: t)))
    refine ⟨st', o5', ?_, g2, g3, fun s hs' => ?_, fun s hs' => g5 s (s3 s hs'), fun l hl he => ?_⟩
    · rw [List.map_cons]
      unfold loopD
      rw [show gN 5 (tP rs2.length (h :: t)) (eS x rs1 rs2 st o4 o5) b = some (eS x rs1 rs2 st o4 (some (tP rs2.length (h :: t))), b) from rfl]
      dsimp only
      rw [step]
      exact g1
    · rcases g4 s hs' with h' | ⟨l, hl, he, hm'⟩
      · rcases s2 s h' with h' | ⟨he, hm'⟩
        · exact .inl h'
        · exact .inr ⟨_, List.mem_cons_self, he, hm'⟩
      · exact .inr ⟨l, List.mem_cons_of_mem _ hl, he, hm'⟩
    · rcases List.mem_cons.mp hl with rfl | hl
      · exact ⟨h, g5 h (s4 he), List.mem_cons_self⟩
      · exact g6 l hl he
variable (hx : x ∈ sgs)
include hx
theorem codes_in : (∀ k ∈ nums (rs1.length * rs2.length), ∀ j ∈ scP rs1 rs2 k, j ∈ nums (rs1.length * rs2.length)) ∧ ∀ k ∈ nums (rs1.length * rs2.length), (scP rs1 rs2 k).length ≤ 1000 := by
  obtain ⟨l1, l2⟩ := sg_len hx
  refine ⟨fun k hk j hj => mem_nums.mpr (scP_in h1 h2 hx (mem_nums.mp hk).1 (mem_nums.mp hk).2 j hj), fun k hk => ?_⟩
  rw [scP_len h1 h2 (by omega) k (mem_nums.mp hk).1 (mem_nums.mp hk).2]
  omega
/-- a told loop that is even in both, and back -/
theorem ee_loop {l : List Int} (l0 : l ≠ []) (lk : ∀ k ∈ l, k ∈ nums (rs1.length * rs2.length)) (lS : SC (scP rs1 rs2) (· ∈ l)) : EE rs1 rs2 l ↔ GLoop (scP rs1 rs2) (asOf (asE rs1 rs2)) (· ∈ l) := by
  obtain ⟨l1, l2⟩ := sg_len hx
  have tA : TopIs (colL (col1 rs1 rs2)) (· ∈ l) (topA rs1 rs2 l) := by
    have h := top_is (col := colL (col1 rs1 rs2)) l0
    have e : l.map (colL (col1 rs1 rs2)) = l.map fun k => colour rs1 (k / (rs2.length : Int)) := List.map_congr_left fun k hk => by
      obtain ⟨⟨i0, i1⟩, ⟨j0, j1⟩, e⟩ := code_in h1 h2 (mem_nums.mp (lk k hk)).1 (mem_nums.mp (lk k hk)).2
      have := col1_at h1 h2 (by omega : x.length ≤ 1000) i0 i1 j0 j1
      rw [← e] at this
      exact this
    rw [e] at h
    exact h
  have tB : TopIs (colL (col2 rs1 rs2)) (· ∈ l) (topB rs2 l) := by
    have h := top_is (col := colL (col2 rs1 rs2)) l0
    have e : l.map (colL (col2 rs1 rs2)) = l.map fun k => colour rs2 (k % (rs2.length : Int)) := List.map_congr_left fun k hk => by
      obtain ⟨⟨i0, i1⟩, ⟨j0, j1⟩, e⟩ := code_in h1 h2 (mem_nums.mp (lk k hk)).1 (mem_nums.mp (lk k hk)).2
      have := col2_at h1 h2 (by omega : x.length ≤ 1000) i0 i1 j0 j1
      rw [← e] at this
      exact this
    rw [e] at h
    exact h
  constructor
  · intro he
    refine ⟨List.exists_mem_of_ne_nil l l0, lS, fun p hp => ?_⟩
    have hp : p = (colL (col1 rs1 rs2), 0) ∨ p = (colL (col2 rs1 rs2), 0) := by simpa [asOf, asE] using hp
    rcases hp with rfl | rfl
    · exact ⟨_, tA, he.1⟩
    · exact ⟨_, tB, he.2⟩
  · rintro ⟨_, _, s2⟩
    obtain ⟨T1, u1, u2⟩ := s2 (colL (col1 rs1 rs2), 0) (by simp [asOf, asE])
    obtain ⟨T2, v1, v2⟩ := s2 (colL (col2 rs1 rs2), 0) (by simp [asOf, asE])
    exact ⟨by rw [← u1.uniq tA]; exact u2, by rw [← v1.uniq tB]; exact v2⟩
theorem starts_ok (b : Bag) : ∃ st : List Int, F__law_even_starts [toolD x rs1, toolD x rs2] b = .ok (lP rs2.length st) b ∧ st.length ≤ 10 ∧ (∀ s ∈ st, ∃ S : Int → Prop, GLoop (scP rs1 rs2) (asOf (asE rs1 rs2)) S ∧ (∀ a, S a → a ∈ nums (rs1.length * rs2.length)) ∧ S s) ∧
    ∀ S : Int → Prop, GLoop (scP rs1 rs2) (asOf (asE rs1 rs2)) S → (∀ a, S a → a ∈ nums (rs1.length * rs2.length)) → ∃ s ∈ st, S s := by
  obtain ⟨cl, hsl⟩ := codes_in h1 h2 hm hx
  have hp := pairsL_ok h1 h2 b
  let ks := nums (rs1.length * rs2.length)
  obtain ⟨ρ', b', f1, st, o4, o5, f2, f3, f4, f5, f6, f7⟩ := loop_ind (g := gN 4) (B := (sFor (aAny (eCall (F__law_loops_v3) (aCons (eV 2) (aCons (eV 4) aNil)))) (gN 5) bEs))
    (fun i ρ b' => ∃ (st : List Int) (o4 o5 : Option D), ρ = eS x rs1 rs2 st o4 o5 ∧ b' = b ∧ st.Nodup ∧ (∀ s ∈ st, s ∈ ks) ∧ (∀ s ∈ st, ∃ S : Int → Prop, GLoop (scP rs1 rs2) (asOf (asE rs1 rs2)) S ∧ (∀ a, S a → a ∈ ks) ∧ S s) ∧ ∀ p ∈ ks.take i, ∀ S : Int → Prop, GLoop (scP rs1 rs2) (asOf (asE rs1 rs2)) S → (∀ a, S a → a ∈ ks) → S p → ∃ s ∈ st, S s)
    (ks.map (pE rs2.length)) 0 (fun i d hd ρ b' ⟨st, o4, o5, g1, g2, g3, g4, g5, g6⟩ => by
      subst g1 g2
      rw [List.getElem?_map, Option.map_eq_some_iff] at hd
      obtain ⟨p, hpi, rfl⟩ := hd
      have hpk : p ∈ ks := List.mem_of_getElem? hpi
      obtain ⟨Ls, q1, q2, q3, q4⟩ := lawloopsP_ok rs2.length (nd_nums (rs1.length * rs2.length)) cl hsl (by rw [len_nums]; exact hm) hpk b'
      have hLk : ∀ l ∈ Ls, ∀ k ∈ l, k ∈ ks := fun l hl k hk => by
        rcases (q3 l hl).2.2.2.1 k hk with rfl | h
        · exact hpk
        · exact h.last
      obtain ⟨st', o5', w1, w2, w3, w4, w5, w6⟩ := es_loop h1 h2 hm (some (pE rs2.length p)) b' Ls (fun l hl => ⟨(q3 l hl).2.1, (q3 l hl).2.2.1, hLk l hl⟩) st g3 g4 o5
      refine ⟨(eS x rs1 rs2 st (some (pE rs2.length p)) o5, b'), eS x rs1 rs2 st' (some (pE rs2.length p)) o5', b', rfl, ?_, st', _, _, rfl, rfl, w2, w3, fun s hs => ?_, fun q hq S hS hin hSq => ?_⟩
      · have hc := call2 (F := eV 2) (G := eV 4) (ρ := eS x rs1 rs2 st (some (pE rs2.length p)) o5) (b := b') rfl rfl q1
        have ha : aAny (eCall (F__law_loops_v3) (aCons (eV 2) (aCons (eV 4) aNil))) (eS x rs1 rs2 st (some (pE rs2.length p)) o5) b' = .ok (Ls.map (tP rs2.length)) b' := by
          unfold aAny
          rw [hc, bind_ok_]
          rfl
        simp only [sFor, ha, st_ok_]
        exact w1
      · rcases w4 s hs with h | ⟨l, hl, he, hm'⟩
        · exact g5 s h
        · exact ⟨(· ∈ l), (ee_loop h1 h2 hm hx (q3 l hl).2.1 (hLk l hl) (q3 l hl).2.2.2.2).mp he, hLk l hl, hm'⟩
      · rw [Nat.zero_add, List.take_succ, hpi] at hq
        rcases List.mem_append.mp hq with hq | hq
        · obtain ⟨s, s1, s2⟩ := g6 q (by rw [Nat.zero_add]; exact hq) S hS hin hSq
          exact ⟨s, w5 s s1, s2⟩
        · have : q = p := by simpa using hq
          subst this
          obtain ⟨l, hl, hlS⟩ := q4 S ⟨q, hSq⟩ hS.2.1 fun a ha => .inr ((hS.2.1 q a hSq ha).mono fun c hc => hin c hc)
          have he := (ee_loop h1 h2 hm hx (q3 l hl).2.1 (hLk l hl) (q3 l hl).2.2.2.2).mpr (hS.congr fun a => (hlS a).symm)
          obtain ⟨s, s1, s2⟩ := w6 l hl he
          exact ⟨s, s1, (hlS s).mp s2⟩) (eS x rs1 rs2 [] none none) b ⟨[], none, none, rfl, rfl, List.nodup_nil, (fun s h => by cases h), (fun s h => by cases h), fun p h => by simp at h⟩
  subst f2 f3
  rw [List.length_map, Nat.zero_add, List.take_length] at f7
  have hlen : st.length ≤ 10 := by
    have := nd_sub f4 f5
    rw [len_nums] at this
    omega
  refine ⟨st, ?_, hlen, f6, fun S hS hin => ?_⟩
  · have e : F__law_even_starts = runD 7 2 (sSeq (sOw2 2 3 (eCall (F__law_pairs_v2) (aCons (eV 0) (aCons (eV 1) aNil))) (eLst aNil)) (sSeq (sFor (aAny (eLstT (eV 2))) (gN 4) (sFor (aAny (eCall (F__law_loops_v3) (aCons (eV 2) (aCons (eV 4) aNil)))) (gN 5) bEs)) (sFreeze 3 (sRet (eV 3))))) := rfl
    have hst : startE 7 [toolD x rs1, toolD x rs2] = [some (.sh (toolD x rs1)), some (.sh (toolD x rs2)), none, none, none, none, none] := rfl
    have r0 : sOw2 2 3 (eCall (F__law_pairs_v2) (aCons (eV 0) (aCons (eV 1) aNil))) (eLst aNil) [some (.sh (toolD x rs1)), some (.sh (toolD x rs2)), none, none, none, none, none] b' = .nx (eS x rs1 rs2 [] none none) b' := by
      have hc := call2 (F := eV 0) (G := eV 1) (ρ := [some (.sh (toolD x rs1)), some (.sh (toolD x rs2)), none, none, none, none, none]) (b := b') rfl rfl hp
      have hl : eLst aNil [some (.sh (toolD x rs1)), some (.sh (toolD x rs2)), none, none, none, none, none] b' = .ok (.lst []) b' := rfl
      simp only [sOw2, hc, st_ok_, hl]
      rfl
    have ha : aAny (eLstT (eV 2)) (eS x rs1 rs2 [] none none) b' = .ok (ks.map (pE rs2.length)) b' := by
      have h0 : eLstT (eV 2) (eS x rs1 rs2 [] none none) b' = .ok (.lst ((ks.map (kyP rs2.length)).map unKs)) b' := rfl
      have e1 : (ks.map (kyP rs2.length)).map unKs = ks.map (pE rs2.length) := by
        rw [List.map_map]
        rfl
      rw [e1] at h0
      unfold aAny
      rw [h0, bind_ok_]
      rfl
    have r1 : sFor (aAny (eLstT (eV 2))) (gN 4) (sFor (aAny (eCall (F__law_loops_v3) (aCons (eV 2) (aCons (eV 4) aNil)))) (gN 5) bEs) (eS x rs1 rs2 [] none none) b' = .nx (eS x rs1 rs2 st o4 o5) b' := by
      simp only [sFor, ha, st_ok_]
      exact f1
    rw [e]
    simp only [runD, List.length_cons, List.length_nil, if_true, hst]
    rw [seq_step r0, seq_step r1]
    rfl
  · obtain ⟨p, hpS⟩ := hS.1
    exact f7 p (hin p hpS) S hS hin hpS
/-- whether some run from a pair lies in both wishes -/
theorem fine_ok {st : List Int} (hst : st.length ≤ 10) {p : Int} (hpk : p ∈ nums (rs1.length * rs2.length)) (b : Bag) : ∃ f : List Int, (∀ k, k ∈ f ↔ (k = p ∨ Pth (scP rs1 rs2) (· ∈ nums (rs1.length * rs2.length)) p k)) ∧ F__law_is_fine [adjT rs2.length (nums (rs1.length * rs2.length)) (scP rs1 rs2), lP rs2.length st, pE rs2.length p] b = .ok (.bl (!(f.filter fun k => decide (k ∈ st)).isEmpty)) b := by
  obtain ⟨cl, hsl⟩ := codes_in h1 h2 hm hx
  obtain ⟨f, f1, f2, f3, f4⟩ := pc_ok rs2.length (nd_nums (rs1.length * rs2.length)) cl hsl (by rw [len_nums]; omega) hpk b
  refine ⟨f, f3, ?_⟩
  have hfl : f.length ≤ 10 := by
    have := nd_sub f2 f4
    rw [len_nums] at this
    omega
  let E : Env := [some (.sh (adjT rs2.length (nums (rs1.length * rs2.length)) (scP rs1 rs2))), some (.sh (lP rs2.length st)), some (.sh (pE rs2.length p)), none]
  have hc := lc_filtL (i := 3) (b := b) (ρ := E) (T := (bB (e2 (inG false) (eV 3) (eV 1)))) (F := eV 3) (pE rs2.length) (pE rs2.length) (fun k => decide (k ∈ st)) f (fun k hk => by
    have i1 : inG false (pE rs2.length k) (lP rs2.length st) = some (.bl (decide (k ∈ st))) := inG_l rs2.length false k st
    have u3 : eV 3 (E.set 3 (some (.sh (pE rs2.length k)))) b = .ok (pE rs2.length k) b := rfl
    have u1 : eV 1 (E.set 3 (some (.sh (pE rs2.length k)))) b = .ok (lP rs2.length st) b := rfl
    simp only [bB, e2, u3, u1, bind_ok_, i1, pureO_some_]) (fun k _ _ => rfl)
  have ha : aAny (eCall (F__law_reached_v3) (aCons (eV 0) (aCons (eV 2) aNil))) E b = .ok (f.map (pE rs2.length)) b := by
    have hcl := call2 (F := eV 0) (G := eV 2) (ρ := E) (b := b) rfl rfl f1
    unfold aAny
    rw [hcl, bind_ok_]
    rfl
  have hl2 : (f.map (pE rs2.length)).length ≤ 100000 := by rw [List.length_map]; omega
  have hu : wipeE (unown E) [3] = E := rfl
  have hl : eLc (aAny (eCall (F__law_reached_v3) (aCons (eV 0) (aCons (eV 2) aNil)))) [3] (gN 3) (bB (e2 (inG false) (eV 3) (eV 1))) (eV 3) E b = .ok (lP rs2.length (f.filter fun k => decide (k ∈ st))) b := by
    simp only [eLc, ha, bind_ok_, if_pos hl2, hu, hc]
  have hq := neF_lp rs2.length (f.filter fun k => decide (k ∈ st))
  have e : F__law_is_fine = runD 4 3 (sRet (e2 neF (eLc (aAny (eCall (F__law_reached_v3) (aCons (eV 0) (aCons (eV 2) aNil)))) [3] (gN 3) (bB (e2 (inG false) (eV 3) (eV 1))) (eV 3)) (eLst aNil))) := rfl
  have hst' : startE 4 [adjT rs2.length (nums (rs1.length * rs2.length)) (scP rs1 rs2), lP rs2.length st, pE rs2.length p] = E := rfl
  have hr : e2 neF (eLc (aAny (eCall (F__law_reached_v3) (aCons (eV 0) (aCons (eV 2) aNil)))) [3] (gN 3) (bB (e2 (inG false) (eV 3) (eV 1))) (eV 3)) (eLst aNil) E b = .ok (.bl (!(f.filter fun k => decide (k ∈ st)).isEmpty)) b := by
    have h : ∀ F G : EF, F E b = .ok (lP rs2.length (f.filter fun k => decide (k ∈ st))) b → G E b = .ok (.lst []) b → e2 neF F G E b = .ok (.bl (!(f.filter fun k => decide (k ∈ st)).isEmpty)) b := fun F G u v => by
      simp only [e2, u, v, bind_ok_, hq, pureO_some_]
    exact h _ _ hl rfl
  rw [e]
  simp only [runD, List.length_cons, List.length_nil, if_true, hst', sRet, hr, st_ok_]
  rfl
end
end DL

set_option maxHeartbeats 1000000
namespace DL
open PySem PySem.Spec PyProof.Rows L2
def levW : Nat → List (List Nat)
  | 0 => [[]]
  | k + 1 => (levW k).flatMap fun w => [97, 98].map fun c => w ++ [c]
def allW : List (List Nat) := levW 0 ++ levW 1 ++ levW 2 ++ levW 3 ++ levW 4 ++ levW 5 ++ levW 6
def wS (l : List Nat) : Str := ⟨l.toArray⟩
theorem ab_codes : ("ab" : Str).cps.toList = [97, 98] := by decide +kernel
theorem lev_all : ∀ (k : Nat) (w : List Nat), w.length = k → (∀ c ∈ w, c = 97 ∨ c = 98) → w ∈ levW k
  | 0, w, h, _ => by
    rw [List.length_eq_zero_iff.mp h]
    exact List.mem_singleton.mpr rfl
  | k + 1, w, h, hc => by
    have hne : w ≠ [] := fun e => by rw [e] at h; simp at h
    have e : w = w.dropLast ++ [w.getLast hne] := (List.dropLast_concat_getLast hne).symm
    have ih := lev_all k w.dropLast (by rw [List.length_dropLast]; omega) fun c hc' => hc c ((List.dropLast_sublist w).subset hc')
    rw [e]
    refine List.mem_flatMap.mpr ⟨_, ih, List.mem_map.mpr ⟨w.getLast hne, ?_, rfl⟩⟩
    rcases hc _ (List.getLast_mem hne) with h' | h' <;> rw [h'] <;> simp
theorem all_in {w : List Nat} (h : w.length ≤ 6) (hc : ∀ c ∈ w, c = 97 ∨ c = 98) : w ∈ allW := by
  have hw := lev_all w.length w rfl hc
  have : w.length = 0 ∨ w.length = 1 ∨ w.length = 2 ∨ w.length = 3 ∨ w.length = 4 ∨ w.length = 5 ∨ w.length = 6 := by omega
  unfold allW
  simp only [List.mem_append]
  rcases this with e | e | e | e | e | e | e <;> rw [e] at hw <;> simp [hw]
instance (a b : List Nat) : Decidable (slt a b) := by unfold slt; infer_instance
theorem allW_pw : allW.Pairwise slt := by decide +kernel
theorem allW_ok : ∀ w ∈ allW, w.length ≤ 6 ∧ ∀ c ∈ w, c = 97 ∨ c = 98 := by decide +kernel
theorem lawwords_ok (b : Bag) : F__law_words [.str "ab", .int 6] b = .ok (.lst (allW.map fun l => .str (wS l))) b := by kernel_rfl
end DL

set_option maxHeartbeats 1000000
namespace DL
open PySem PySem.Spec PyProof.Rows L2
section
variable {x : Str} {rs1 rs2 : List Row} (h1 : RowsOk x.length rs1) (h2 : RowsOk x.length rs2) (hm : rs1.length * rs2.length ≤ 10) (hx : x ∈ sgs)
include h1 h2 hm hx
open Classical in
theorem fineF_ok {st : List Int} (hst : st.length ≤ 10) (s1 : ∀ s ∈ st, ∃ S : Int → Prop, GLoop (scP rs1 rs2) (asOf (asE rs1 rs2)) S ∧ (∀ a, S a → a ∈ nums (rs1.length * rs2.length)) ∧ S s)
    (s2 : ∀ S : Int → Prop, GLoop (scP rs1 rs2) (asOf (asE rs1 rs2)) S → (∀ a, S a → a ∈ nums (rs1.length * rs2.length)) → ∃ s ∈ st, S s) {p : Int} (hpk : p ∈ nums (rs1.length * rs2.length)) (b : Bag) :
    F__law_is_fine [adjT rs2.length (nums (rs1.length * rs2.length)) (scP rs1 rs2), lP rs2.length st, pE rs2.length p] b = .ok (.bl (decide (FreeP rs1 rs2 p))) b := by
  obtain ⟨cl, _⟩ := codes_in h1 h2 hm hx
  obtain ⟨f, f1, f2⟩ := fine_ok h1 h2 hm hx hst hpk b
  rw [f2]
  congr 2
  rw [Bool.eq_iff_iff, decide_eq_true_iff, Bool.not_eq_true']
  constructor
  · intro h
    cases hf : f.filter fun k => decide (k ∈ st) with
    | nil => rw [hf] at h; simp at h
    | cons e t =>
      have he : e ∈ f.filter fun k => decide (k ∈ st) := by rw [hf]; exact List.mem_cons_self
      obtain ⟨e1, e2⟩ := List.mem_filter.mp he
      obtain ⟨S, a1, a2, a3⟩ := s1 e (of_decide_eq_true e2)
      rcases (f1 e).mp e1 with rfl | h'
      · exact .inl ⟨S, a1, a2, a3⟩
      · exact .inr ⟨S, e, a1, a2, a3, h'.mono fun _ _ => trivial⟩
  · intro h
    have key : ∃ e, (e = p ∨ Pth (scP rs1 rs2) (· ∈ nums (rs1.length * rs2.length)) p e) ∧ e ∈ st := by
      rcases h with ⟨S, a1, a2, a3⟩ | ⟨S, g, a1, a2, a3, a4⟩
      · obtain ⟨s, b1, b2⟩ := s2 S a1 a2
        exact ⟨s, .inr ((a1.2.1 p s a3 b2).mono fun c hc => a2 c hc), b1⟩
      · obtain ⟨s, b1, b2⟩ := s2 S a1 a2
        exact ⟨s, .inr ((pth_allP cl a4 hpk).trans ((a1.2.1 g s a3 b2).mono fun c hc => a2 c hc)), b1⟩
    obtain ⟨e, e1, e2⟩ := key
    have he : e ∈ f.filter fun k => decide (k ∈ st) := List.mem_filter.mpr ⟨(f1 e).mpr e1, decide_eq_true e2⟩
    cases hf : f.filter fun k => decide (k ∈ st) with
    | nil => rw [hf] at he; cases he
    | cons _ _ => rfl
end
def rsA : List Row := [(0, [0, 0])]
theorem rsA_ok : RowsOk 2 rsA := ⟨by decide, by decide, fun r hr => by
  have : r = (0, [0, 0]) := by simpa [rsA] using hr
  subst this
  exact ⟨by decide, by decide, rfl, fun g hg => by
    have : g = 0 := by simpa using hg
    subst this
    exact ⟨by decide, by decide⟩⟩⟩
theorem col_A (s : Int) : colour rsA s = 0 := by
  unfold colour rsA
  cases h : s.toNat with
  | zero => rfl
  | succ n => rfl
theorem ev_A {x : Str} (u v : List Nat) : EvW x rsA u v := ⟨0, ⟨⟨0, fun i _ => Int.le_of_eq (col_A _)⟩, fun I => ⟨I + 1, Nat.lt_succ_self _, col_A _⟩⟩, rfl⟩
section
variable {x : Str} (hx : x ∈ sgs) (h2l : x.length = 2) {rs1 rs2 : List Row} (h1 : RowsOk x.length rs1) (h2 : RowsOk x.length rs2)
include hx h2l h1 h2
theorem jam_free {w : List Nat} (hw : WdN x w) : JamW x rs1 rs2 w ↔ FreeP rs1 rsA (pk rsA.length (wE x (scM rs1) 0 w) (wE x (scM rsA) 0 w)) ∧ ¬ FreeP rs1 rs2 (pk rs2.length (wE x (scM rs1) 0 w) (wE x (scM rs2) 0 w)) := by
  have hA : RowsOk x.length rsA := by rw [h2l]; exact rsA_ok
  rw [free_iff hx h1 hA hw, free_iff hx h1 h2 hw]
  unfold JamW
  constructor
  · rintro ⟨_, ⟨p, v, a, b, c, d⟩, h⟩
    exact ⟨⟨p, v, a, b, c, d, ev_A _ _⟩, h⟩
  · rintro ⟨⟨p, v, a, b, c, d, _⟩, h⟩
    exact ⟨hw, ⟨p, v, a, b, c, d⟩, h⟩
/-- jam tells the least word -/
theorem jam_least (M : Addr) (b : Bag) : (F_jam M [machD M x rs1, machD M x rs2] b = .ok .non b ∧ ∀ w, ¬ JamW x rs1 rs2 w) ∨
    ∃ v : Str, F_jam M [machD M x rs1, machD M x rs2] b = .ok (.str v) b ∧ JamW x rs1 rs2 v.cps.toList ∧ v.length ≤ rs1.length * rs2.length ∧ ∀ w, JamW x rs1 rs2 w → sle v.cps.toList w := by
  have n1 := h1.n1
  have n2 := h2.n1
  have n10 := h1.n0
  have n20 := h2.n0
  have hmul : rs1.length * rs2.length ≤ 6 * 6 := Nat.mul_le_mul n1 n2
  have hpos : 0 < rs1.length * rs2.length := Nat.mul_pos (by omega) (by omega)
  obtain ⟨l1, l2⟩ := sg_len hx
  have G : GrX x (rs1.length * rs2.length) (scP rs1 rs2) := ⟨hpos, fun k k0 k1 => scP_len h1 h2 (by omega) k k0 k1, fun k k0 k1 => scP_in h1 h2 hx k0 k1⟩
  have hj := jam_eq M hx h1 h2 b
  have conv : ∀ w, WdN x w → (wE x (scP rs1 rs2) 0 w ∈ stuckL rs1 rs2 ↔ JamW x rs1 rs2 w) := fun w hw => by
    rw [end_P hx h1 h2 hw]
    exact stuck_iff hx h1 h2 hw
  rcases dueG_least hx G (by omega) (gs := stuckL rs1 rs2) with ⟨e, h⟩ | ⟨v, e, hv, hin, hl⟩
  · rw [e] at hj
    exact .inl ⟨hj, fun w hw => h w hw.1 ((conv w hw.1).mpr hw)⟩
  · have hlen := dueG_len hx G (by omega) e
    rw [e] at hj
    exact .inr ⟨v, hj, (conv _ hv).mp hin, hlen, fun w hw => hl w hw.1 ((conv w hw.1).mpr hw)⟩
end
def bDu : SF := (sSeq (sAsg (eTup (aCons (eCall (F__law_end_v2) (aCons (eV 0) (aCons (eC (.int 0)) (aCons (eV 7) aNil)))) (aCons (eCall (F__law_end_v2) (aCons (eV 1) (aCons (eC (.int 0)) (aCons (eV 7) aNil)))) aNil))) (gN 8)) (sIf (bAnd (bB (eCall (F__law_is_fine) (aCons (eV 3) (aCons (eV 4) (aCons (eTup (aCons (eIx (eV 8) (eC (.int 0))) (aCons (eC (.int 0)) aNil))) aNil))))) (bNot (bB (eCall (F__law_is_fine) (aCons (eV 5) (aCons (eV 6) (aCons (eV 8) aNil))))))) (sRet (eV 7)) sNil))
theorem tup2 {F G : EF} {ρ : Env} {b : Bag} {d g : D} (u : F ρ b = .ok d b) (v : G ρ b = .ok g b) : eTup (aCons F (aCons G aNil)) ρ b = .ok (.tup [d, g]) b := by
  simp only [eTup, aCons, u, v, bind_ok_, aNil]
  rfl
theorem if_andN {P Q : BF} {S : SF} {ρ : Env} {b : Bag} {p q : Bool} (u : P ρ b = .ok p b) (v : Q ρ b = .ok q b) : sIf (bAnd P (bNot Q)) S sNil ρ b = if p = true ∧ q = false then S ρ b else .nx ρ b := by
  cases p <;> cases q <;> simp [sIf, bAnd, bNot, u, v]
theorem wS_len (l : List Nat) : (wS l).length = l.length := by simp [wS, Str.length]
theorem loop_first {g : GF} {B : SF} {α : Type} (en : α → D) (J : α → Prop) (I : Env → Prop) (b : Bag) (out : α → D) : ∀ (Ws : List α), (∀ w ∈ Ws, ∀ ρ, I ρ → ∃ z, g (en w) ρ b = some (z, b) ∧ ((J w ∧ B z b = .rt (out w) b) ∨ (¬ J w ∧ ∃ ρ', B z b = .nx ρ' b ∧ I ρ'))) → ∀ ρ, I ρ →
    ((∀ w ∈ Ws, ¬ J w) ∧ ∃ ρ', loopD g B (Ws.map en) ρ b = .nx ρ' b ∧ I ρ') ∨ ∃ pre w suf, Ws = pre ++ w :: suf ∧ J w ∧ (∀ w' ∈ pre, ¬ J w') ∧ loopD g B (Ws.map en) ρ b = .rt (out w) b
  | [], _, ρ, hI => .inl ⟨fun w h => (by cases h), ρ, rfl, hI⟩
  | w :: Ws, h, ρ, hI => by
    obtain ⟨z, h1, h2⟩ := h w List.mem_cons_self ρ hI
    rcases h2 with ⟨h2, h3⟩ | ⟨h2, ρ', h3, h4⟩
    · refine .inr ⟨[], w, Ws, rfl, h2, fun _ h => (by cases h), ?_⟩
      rw [List.map_cons]
      unfold loopD
      rw [h1]
      dsimp only
      rw [h3]
    · have e : loopD g B ((w :: Ws).map en) ρ b = loopD g B (Ws.map en) ρ' b := by
        rw [List.map_cons, loopD, h1]
        dsimp only
        rw [h3]
      rcases loop_first en J I b out Ws (fun w hw => h w (List.mem_cons_of_mem _ hw)) ρ' h4 with ⟨q1, ρ2, q2, q3⟩ | ⟨pre, v, suf, q1, q2, q3, q4⟩
      · refine .inl ⟨fun v hv => ?_, ρ2, e.trans q2, q3⟩
        rcases List.mem_cons.mp hv with rfl | hv
        · exact h2
        · exact q1 v hv
      · refine .inr ⟨w :: pre, v, suf, by rw [q1]; rfl, q2, fun v' hv' => ?_, e.trans q4⟩
        rcases List.mem_cons.mp hv' with rfl | hv'
        · exact h2
        · exact q3 v' hv'
section
variable {rs1 rs2 : List Row} (h1 : RowsOk ("ab" : Str).length rs1) (h2 : RowsOk ("ab" : Str).length rs2) (hm : rs1.length * rs2.length ≤ 6)
include h1 h2 hm
open Classical in
theorem lawdue_jam (b : Bag) : (F__law_due_v2 [toolD "ab" rs1, toolD "ab" rs2] b = .ok .non b ∧ ∀ w ∈ allW, ¬ JamW "ab" rs1 rs2 w) ∨
    ∃ pre w suf, allW = pre ++ w :: suf ∧ JamW "ab" rs1 rs2 w ∧ (∀ w' ∈ pre, ¬ JamW "ab" rs1 rs2 w') ∧ F__law_due_v2 [toolD "ab" rs1, toolD "ab" rs2] b = .ok (.str (wS w)) b := by
  have hx : ("ab" : Str) ∈ sgs := by decide
  have hl2 : ("ab" : Str).length = 2 := by decide
  have hA : RowsOk ("ab" : Str).length rsA := by rw [hl2]; exact rsA_ok
  have n1 := h1.n1
  have n10 := h1.n0
  have n20 := h2.n0
  have hmA : rs1.length * rsA.length ≤ 10 := by
    have : rsA.length = 1 := rfl
    rw [this]
    omega
  have po := pairsL_ok h1 hA b
  have pb := pairsL_ok h1 h2 b
  obtain ⟨so, o1, o2, o3, o4⟩ := starts_ok h1 hA hmA hx b
  obtain ⟨sb, b1, b2, b3, b4⟩ := starts_ok h1 h2 (by omega) hx b
  have hwords := lawwords_ok b
  let TA := toolD "ab" rsA
  let aO := adjT rsA.length (nums (rs1.length * rsA.length)) (scP rs1 rsA)
  let aB := adjT rs2.length (nums (rs1.length * rs2.length)) (scP rs1 rs2)
  let E (o7 o8 : Option D) : Env := [some (.sh (toolD "ab" rs1)), some (.sh (toolD "ab" rs2)), some (.sh TA), some (.sh aO), some (.sh (lP rsA.length so)), some (.sh aB), some (.sh (lP rs2.length sb)), o7.map SD.sh, o8.map SD.sh]
  have step : ∀ w ∈ allW, ∀ o8 : Option D, ∃ o8' : Option D, (JamW "ab" rs1 rs2 w ∧ bDu (E (some (.str (wS w))) o8) b = .rt (.str (wS w)) b) ∨ (¬ JamW "ab" rs1 rs2 w ∧ bDu (E (some (.str (wS w))) o8) b = .nx (E (some (.str (wS w))) o8') b) := fun w hw o8 => by
    obtain ⟨wl, wc⟩ := allW_ok w hw
    have hW : WdN "ab" w := fun c hc => by
      rw [ab_codes]
      rcases wc c hc with h | h <;> rw [h] <;> simp
    have hWs : Wd "ab" (wS w) := hW
    have hwl : (wS w).length ≤ 90000 := by rw [wS_len]; omega
    have e1 := lawendV_ok hx h1 (s := 0) (by decide) (by omega) hWs hwl b
    have e2 := lawendV_ok hx h2 (s := 0) (by decide) (by omega) hWs hwl b
    have e1 : F__law_end_v2 [toolD "ab" rs1, .int 0, .str (wS w)] b = .ok (.int (wE "ab" (scM rs1) 0 w)) b := by rw [wE_M]; exact e1
    have e2 : F__law_end_v2 [toolD "ab" rs2, .int 0, .str (wS w)] b = .ok (.int (wE "ab" (scM rs2) 0 w)) b := by rw [wE_M]; exact e2
    obtain ⟨a0, a1⟩ := walk_lo hx h1 w 0 hW (by decide) (by omega)
    obtain ⟨c0, c1⟩ := walk_lo hx h2 w 0 hW (by decide) (by omega)
    obtain ⟨d0, d1⟩ := walk_lo hx hA w 0 hW (by decide) (by decide)
    have hd : wE "ab" (scM rsA) 0 w = 0 := by
      have : rsA.length = 1 := rfl
      rw [this] at d1
      omega
    let A := wE "ab" (scM rs1) 0 w
    let C := wE "ab" (scM rs2) 0 w
    have hpO : pE rsA.length (pk rsA.length A 0) = .tup [.int A, .int 0] := by
      unfold pE
      rw [pk_div (by decide) (by decide), pk_mod (by decide) (by decide)]
    have hpB : pE rs2.length (pk rs2.length A C) = .tup [.int A, .int C] := by
      unfold pE
      rw [pk_div c0 c1, pk_mod c0 c1]
    have f1 := fineF_ok h1 hA hmA hx o2 o3 o4 (p := pk rsA.length A 0) (mem_nums.mpr (pk_lt a0 a1 (by decide) (by decide))) b
    have f2 := fineF_ok h1 h2 (by omega) hx b2 b3 b4 (p := pk rs2.length A C) (mem_nums.mpr (pk_lt a0 a1 c0 c1)) b
    rw [hpO] at f1
    rw [hpB] at f2
    have hJ := jam_free hx hl2 h1 h2 hW
    rw [hd] at hJ
    let E' := E (some (.str (wS w))) (some (.tup [.int A, .int C]))
    have r0 : (sAsg (eTup (aCons (eCall (F__law_end_v2) (aCons (eV 0) (aCons (eC (.int 0)) (aCons (eV 7) aNil)))) (aCons (eCall (F__law_end_v2) (aCons (eV 1) (aCons (eC (.int 0)) (aCons (eV 7) aNil)))) aNil))) (gN 8)) (E (some (.str (wS w))) o8) b = .nx E' b :=
      asg_ok (tup2 (call3 (F := eV 0) (G := eC (.int 0)) (K := eV 7) rfl rfl rfl e1) (call3 (F := eV 1) (G := eC (.int 0)) (K := eV 7) rfl rfl rfl e2)) rfl
    have g1 : bB (eCall (F__law_is_fine) (aCons (eV 3) (aCons (eV 4) (aCons (eTup (aCons (eIx (eV 8) (eC (.int 0))) (aCons (eC (.int 0)) aNil))) aNil)))) E' b = .ok (decide (FreeP rs1 rsA (pk rsA.length A 0))) b :=
      tst (call3 (F := eV 3) (G := eV 4) (K := eTup (aCons (eIx (eV 8) (eC (.int 0))) (aCons (eC (.int 0)) aNil))) rfl rfl rfl f1)
    have g2 : bB (eCall (F__law_is_fine) (aCons (eV 5) (aCons (eV 6) (aCons (eV 8) aNil)))) E' b = .ok (decide (FreeP rs1 rs2 (pk rs2.length A C))) b :=
      tst (call3 (F := eV 5) (G := eV 6) (K := eV 8) rfl rfl rfl f2)
    have g3 := if_andN (S := sRet (eV 7)) g1 g2
    refine ⟨some (.tup [.int A, .int C]), ?_⟩
    by_cases hj : JamW "ab" rs1 rs2 w
    · refine .inl ⟨hj, ?_⟩
      obtain ⟨j1, j2⟩ := hJ.mp hj
      rw [if_pos ⟨decide_eq_true j1, decide_eq_false j2⟩] at g3
      unfold bDu
      rw [seq_step r0, g3]
      rfl
    · refine .inr ⟨hj, ?_⟩
      rw [if_neg (fun z => hj (hJ.mpr ⟨of_decide_eq_true z.1, of_decide_eq_false z.2⟩))] at g3
      unfold bDu
      rw [seq_step r0, g3]
  have hloop := loop_first (g := gN 7) (B := bDu) (fun l => D.str (wS l)) (JamW "ab" rs1 rs2) (fun ρ => ∃ o7 o8 : Option D, ρ = E o7 o8) b (fun l => D.str (wS l)) allW (fun w hw ρ ⟨o7, o8, hρ⟩ => by
    subst hρ
    obtain ⟨o8', h⟩ := step w hw o8
    refine ⟨E (some (.str (wS w))) o8, rfl, ?_⟩
    rcases h with h | ⟨h, h'⟩
    · exact .inl h
    · exact .inr ⟨h, _, h', some (.str (wS w)), o8', rfl⟩) (E none none) ⟨none, none, rfl⟩
  have e : F__law_due_v2 = runD 9 2 (sSeq (sAsg (eLst (aCons (eC (.str "ab")) (aCons (eTup (aCons (eTup (aCons (eC (.int 0)) (aCons (eTup (aCons (eC (.int 0)) (aCons (eC (.int 0)) aNil))) aNil))) aNil)) aNil))) (gN 2)) (sSeq (sPar2 3 4 (aCons (eCall (F__law_pairs_v2) (aCons (eV 0) (aCons (eV 2) aNil))) (aCons (eCall (F__law_even_starts) (aCons (eV 0) (aCons (eV 2) aNil))) aNil))) (sSeq (sPar2 5 6 (aCons (eCall (F__law_pairs_v2) (aCons (eV 0) (aCons (eV 1) aNil))) (aCons (eCall (F__law_even_starts) (aCons (eV 0) (aCons (eV 1) aNil))) aNil))) (sSeq (sFor (aAny (eCall (F__law_words) (aCons (eC (.str "ab")) (aCons (eC (.int 6)) aNil)))) (gN 7) bDu) (sRet (eC .non)))))) := rfl
  let S0 : Env := [some (.sh (toolD "ab" rs1)), some (.sh (toolD "ab" rs2)), none, none, none, none, none, none, none]
  let S1 : Env := [some (.sh (toolD "ab" rs1)), some (.sh (toolD "ab" rs2)), some (.sh TA), none, none, none, none, none, none]
  let S2 : Env := [some (.sh (toolD "ab" rs1)), some (.sh (toolD "ab" rs2)), some (.sh TA), some (.sh aO), some (.sh (lP rsA.length so)), none, none, none, none]
  have hst : startE 9 [toolD "ab" rs1, toolD "ab" rs2] = S0 := rfl
  have q0 : (sAsg (eLst (aCons (eC (.str "ab")) (aCons (eTup (aCons (eTup (aCons (eC (.int 0)) (aCons (eTup (aCons (eC (.int 0)) (aCons (eC (.int 0)) aNil))) aNil))) aNil)) aNil))) (gN 2)) S0 b = .nx S1 b := rfl
  have q1 : sPar2 3 4 (aCons (eCall (F__law_pairs_v2) (aCons (eV 0) (aCons (eV 2) aNil))) (aCons (eCall (F__law_even_starts) (aCons (eV 0) (aCons (eV 2) aNil))) aNil)) S1 b = .nx S2 b := by
    have hc := acons_ok (call2 (F := eV 0) (G := eV 2) (ρ := S1) (b := b) rfl rfl po) (acons_ok (call2 (F := eV 0) (G := eV 2) (ρ := S1) (b := b) rfl rfl o1) (show aNil S1 b = .ok [] b from rfl))
    unfold sPar2
    simp only [hc, st_ok_]
    rfl
  have q2 : sPar2 5 6 (aCons (eCall (F__law_pairs_v2) (aCons (eV 0) (aCons (eV 1) aNil))) (aCons (eCall (F__law_even_starts) (aCons (eV 0) (aCons (eV 1) aNil))) aNil)) S2 b = .nx (E none none) b := by
    have hc := acons_ok (call2 (F := eV 0) (G := eV 1) (ρ := S2) (b := b) rfl rfl pb) (acons_ok (call2 (F := eV 0) (G := eV 1) (ρ := S2) (b := b) rfl rfl b1) (show aNil S2 b = .ok [] b from rfl))
    unfold sPar2
    simp only [hc, st_ok_]
    rfl
  have ha : aAny (eCall (F__law_words) (aCons (eC (.str "ab")) (aCons (eC (.int 6)) aNil))) (E none none) b = .ok (allW.map fun l => .str (wS l)) b := by
    have hc := call2 (F := eC (.str "ab")) (G := eC (.int 6)) (ρ := E none none) (b := b) rfl rfl hwords
    have ho : allOf (.lst (allW.map fun l => D.str (wS l))) = some (allW.map fun l => .str (wS l)) := rfl
    unfold aAny
    rw [hc, bind_ok_, ho]
    rfl
  rcases hloop with ⟨n, ρ', hl, o7, o8, _⟩ | ⟨pre, w, suf, w1, w2, w3, hl⟩
  · refine .inl ⟨?_, n⟩
    rw [e]
    simp only [runD, List.length_cons, List.length_nil, if_true, hst]
    rw [seq_step q0, seq_step q1, seq_step q2]
    have q3 : sFor (aAny (eCall (F__law_words) (aCons (eC (.str "ab")) (aCons (eC (.int 6)) aNil)))) (gN 7) bDu (E none none) b = .nx ρ' b := by
      simp only [sFor, ha, st_ok_]
      exact hl
    rw [seq_step q3]
    rfl
  · refine .inr ⟨pre, w, suf, w1, w2, w3, ?_⟩
    rw [e]
    simp only [runD, List.length_cons, List.length_nil, if_true, hst]
    rw [seq_step q0, seq_step q1, seq_step q2]
    have q3 : sFor (aAny (eCall (F__law_words) (aCons (eC (.str "ab")) (aCons (eC (.int 6)) aNil)))) (gN 7) bDu (E none none) b = .rt (.str (wS w)) b := by
      simp only [sFor, ha, st_ok_]
      exact hl
    simp only [sSeq, q3]
    rfl
end
end DL

set_option maxHeartbeats 1000000
namespace DL
open PySem PySem.Spec PyProof.Rows L2
def qc_0 (M : Addr) : SF := (sAsg (eCall (F__law_tool) (aCons (eV 0) (aCons (eC (.str "ab")) (aCons (eCall (F__law_pick) (aCons (eV 0) (aCons (eLst (aCons (eC (.int 2)) (aCons (eC (.int 3)) aNil))) aNil))) (aCons (eC (.int 3)) aNil))))) (gN 1))
def qc_1 (M : Addr) : SF := (sAsg (eCall (F__law_tool) (aCons (eV 0) (aCons (eC (.str "ab")) (aCons (eC (.int 2)) (aCons (eC (.int 3)) aNil))))) (gN 2))
def qc_2b_0 (M : Addr) : SF := (sPar2 5 6 (aCons (eCall (F__law_made M) (aCons (eV 3) aNil)) (aCons (eCall (F__law_made M) (aCons (eV 4) aNil)) aNil)))
def qc_2b_1 (M : Addr) : SF := (sAsg (eCall (F__law_due_v2) (aCons (eV 3) (aCons (eV 4) aNil))) (gN 7))
def qc_2b_2 (M : Addr) : SF := (sIf (bB (e2 neF (eB reprF (aCons (eLst (aCons (eCall (F_jam M) (aCons (eV 5) (aCons (eV 6) aNil))) (aCons (eCallK 2 (F_jam M) (pick [1, 0]) (aCons (eV 6) (aCons (eV 5) aNil))) aNil))) aNil)) (eB reprF (aCons (eLst (aCons (eV 7) (aCons (eV 7) aNil))) aNil)))) (sRet (eC (.bl false))) sNil)
def qc_2b_3 (M : Addr) : SF := (sIf (bB (e2 neF (eB reprF (aCons (eLst (aCons (eCall (F_in_step M) (aCons (eV 5) (aCons (eV 6) aNil))) (aCons (eCallK 2 (F_in_step M) (pick [1, 0]) (aCons (eV 6) (aCons (eV 5) aNil))) aNil))) aNil)) (eB reprF (aCons (eLst (aCons (e2 isN2 (eV 7) (eC .non)) (aCons (e2 isN2 (eV 7) (eC .non)) aNil))) aNil)))) (sRet (eC (.bl false))) sNil)
def qc_2b (M : Addr) : SF := (sSeq (qc_2b_0 M) (sSeq (qc_2b_1 M) (sSeq (qc_2b_2 M) (qc_2b_3 M))))
def qc_2 (M : Addr) : SF := (sFor (aAny (eLst (aCons (eTup (aCons (eV 1) (aCons (eV 2) aNil))) (aCons (eTup (aCons (eV 2) (aCons (eV 1) aNil))) (aCons (eTup (aCons (eV 2) (aCons (eV 2) aNil))) aNil))))) (gT 2 (gsC (gN 3) (gsC (gN 4) gsN))) (qc_2b M))
def qc_3 (M : Addr) : SF := (sRet (eC (.bl true)))
def qc (M : Addr) : SF := (sSeq (qc_0 M) (sSeq (qc_1 M) (sSeq (qc_2 M) (qc_3 M))))

theorem rep_blsQ (bs : List Bool) (h : bs.length ≤ 10) : ∃ z, reprF [.lst (bs.map D.bl)] = some (.str z) ∧ PyData.strOk z = true := by
  refine repr_of (k := 1) (n := 10 * 7 + 3) (shB_lst (k := 0) (n := 5) (m := 10) (fun d hd => ?_) (by rw [List.length_map]; exact h)) (by decide) (by decide)
  obtain ⟨c, _, rfl⟩ := List.mem_map.mp hd
  exact shB_bl c
abbrev e31 (M : Addr) (d1 d2 : D) (A B : List Row) (o5 o6 o7 : Option D) : Env := [some (.sh .bag), some (.sh d1), some (.sh d2), some (.sh (toolD "ab" A)), some (.sh (toolD "ab" B)), o5.map SD.sh, o6.map SD.sh, o7.map SD.sh]
theorem wS_of (v : Str) : v = wS v.cps.toList := by
  unfold wS
  cases v
  simp
section
variable {A B : List Row} (h1 : RowsOk ("ab" : Str).length A) (h2 : RowsOk ("ab" : Str).length B) (hm : A.length * B.length ≤ 6)
include h1 h2 hm
/-- what jam tells is what the law finds -/
theorem jam_due (M : Addr) (b : Bag) : ∃ d : D, F__law_due_v2 [toolD "ab" A, toolD "ab" B] b = .ok d b ∧ F_jam M [machD M "ab" A, machD M "ab" B] b = .ok d b ∧ (d = .non ∨ ∃ v : Str, d = .str v ∧ Wd "ab" v ∧ v.length ≤ 6) := by
  have hx : ("ab" : Str) ∈ sgs := by decide
  have hl2 : ("ab" : Str).length = 2 := by decide
  have hin : ∀ v : List Nat, WdN "ab" v → v.length ≤ 6 → v ∈ allW := fun v hv hl => all_in hl fun c hc => by
    have := hv c hc
    rw [ab_codes] at this
    simpa using this
  rcases lawdue_jam h1 h2 hm b with ⟨e, hn⟩ | ⟨pre, w, suf, ew, hw, hp, e⟩
  · rcases jam_least hx hl2 h1 h2 M b with ⟨j, _⟩ | ⟨v, j, hv, hl, _⟩
    · exact ⟨.non, e, j, .inl rfl⟩
    · have hvl : v.cps.toList.length ≤ 6 := by rw [str_len]; omega
      exact absurd hv (hn _ (hin _ hv.1 hvl))
  · rcases jam_least hx hl2 h1 h2 M b with ⟨j, jn⟩ | ⟨v, j, hv, hl, hle⟩
    · exact absurd hw (jn w)
    · have hvl : v.cps.toList.length ≤ 6 := by rw [str_len]; omega
      have hva := hin _ hv.1 hvl
      have hvw : v.cps.toList = w := by
        rw [ew] at hva
        rcases List.mem_append.mp hva with h | h
        · exact absurd hv (hp _ h)
        · rcases List.mem_cons.mp h with h | h
          · exact h
          · have hpw := allW_pw
            rw [ew] at hpw
            have hs := (List.pairwise_cons.mp (List.pairwise_append.mp hpw).2.1).1 _ h
            exact sle_anti (hle w hw) (.inl hs)
      have hvs : v = wS w := by rw [wS_of v, hvw]
      rw [hvs] at j
      exact ⟨_, e, j, .inr ⟨_, rfl, hw.1, by rw [wS_len, ← hvw]; exact hvl⟩⟩
theorem body31 (M : Addr) (d1 d2 : D) (o5 o6 o7 : Option D) (b : Bag) : ∃ o5' o6' o7' : Option D, qc_2b M (e31 M d1 d2 A B o5 o6 o7) b = .nx (e31 M d1 d2 A B o5' o6' o7') b := by
  have hx : ("ab" : Str) ∈ sgs := by decide
  have k1 := made_ok M b hx h1
  have k2 := made_ok M b hx h2
  obtain ⟨d, u1, u2, hd⟩ := jam_due h1 h2 hm M b
  obtain ⟨c, hc, hs⟩ : ∃ c : Bool, isN2 d .non = some (.bl c) ∧ F_in_step M [machD M "ab" A, machD M "ab" B] b = .ok (.bl c) b := by
    unfold machD at u2 ⊢
    rcases hd with rfl | ⟨v, rfl, _⟩
    · refine ⟨true, rfl, ?_⟩
      unfold F_in_step G_in_step
      simp [u2]
    · refine ⟨false, rfl, ?_⟩
      unfold F_in_step G_in_step
      simp [u2]
  obtain ⟨z, hz, hk⟩ : ∃ z, reprF [.lst [d, d]] = some (.str z) ∧ PyData.strOk z = true := by
    refine repr_of (k := 1) (n := 2 * 22 + 3) (shB_lst (k := 0) (n := 20) (m := 2) (fun g hg => ?_) (by simp)) (by decide) (by decide)
    have : g = d := by simpa using hg
    subst this
    rcases hd with rfl | ⟨v, rfl, hv, hvl⟩
    · exact shB_non.mono (by decide) (by decide)
    · exact (shB_str hx hv).mono (by decide) (by omega)
  obtain ⟨y, hy, hky⟩ := rep_blsQ [c, c] (by simp)
  let E1 := e31 M d1 d2 A B (some (machD M "ab" A)) (some (machD M "ab" B)) o7
  let E2 := e31 M d1 d2 A B (some (machD M "ab" A)) (some (machD M "ab" B)) (some d)
  have r0 : qc_2b_0 M (e31 M d1 d2 A B o5 o6 o7) b = .nx E1 b := by
    have w1 := call1 (F := eV 3) (ρ := e31 M d1 d2 A B o5 o6 o7) (b := b) rfl k1
    have w2 := call1 (F := eV 4) (ρ := e31 M d1 d2 A B o5 o6 o7) (b := b) rfl k2
    have hc := acons_ok w1 (acons_ok w2 (show aNil _ b = .ok [] b from rfl))
    unfold qc_2b_0 sPar2
    simp only [hc, st_ok_]
    rfl
  have r1 : qc_2b_1 M E1 b = .nx E2 b := asg_ok (call2 (F := eV 3) (G := eV 4) rfl rfl u1) rfl
  have v5 : eV 5 E2 b = .ok (machD M "ab" A) b := rfl
  have v6 : eV 6 E2 b = .ok (machD M "ab" B) b := rfl
  have v7 : eV 7 E2 b = .ok d b := rfl
  have r2 : qc_2b_2 M E2 b = .nx E2 b := if_eq hk (rep1 (lst2 (call2 v5 v6 u2) (callK2 v6 v5 u2)) hz) (rep1 (lst2 v7 v7) hz)
  have r3 : qc_2b_3 M E2 b = .nx E2 b := by
    have c0 : e2 isN2 (eV 7) (eC .non) E2 b = .ok (.bl c) b := by
      simp only [e2, v7, eC, bind_ok_, hc, pureO_some_]
    exact if_eq hky (rep1 (lst2 (call2 v5 v6 hs) (callK2 v6 v5 hs)) hy) (rep1 (lst2 c0 c0) hy)
  refine ⟨some (machD M "ab" A), some (machD M "ab" B), some d, ?_⟩
  unfold qc_2b
  rw [seq_step r0, seq_step r1, seq_step r2]
  exact r3
end
theorem right31_ok (M : Addr) (b : Bag) : ∃ b', F__law_right M [.bag] b = .ok (.bl true) b' := by
  have hx : ("ab" : Str) ∈ sgs := by decide
  obtain ⟨pd, hpd, b1, e1⟩ := pick_ok b [D.int 2, D.int 3] (by simp) (by simp)
  obtain ⟨rs, b2, e2, h1, hl1⟩ : ∃ rs b2, F__law_tool [.bag, .str "ab", pd, .int 3] b1 = .ok (toolD "ab" rs) b2 ∧ RowsOk ("ab" : Str).length rs ∧ rs.length ≤ 3 := by
    simp only [List.mem_cons, List.not_mem_nil, or_false] at hpd
    rcases hpd with rfl | rfl
    · obtain ⟨rs, b2, e, h, _, hl⟩ := tool_okP b1 hx (most := 2) (by decide) (by decide) (top := 3) (by decide) (by decide)
      exact ⟨rs, b2, e, h, by omega⟩
    · obtain ⟨rs, b2, e, h, _, hl⟩ := tool_okP b1 hx (most := 3) (by decide) (by decide) (top := 3) (by decide) (by decide)
      exact ⟨rs, b2, e, h, hl⟩
  obtain ⟨ms, b3, e3, h2, _, hl2⟩ := tool_okP b2 hx (most := 2) (by decide) (by decide) (top := 3) (by decide) (by decide)
  have e3 : F__law_tool [.bag, .str "ab", .int 2, .int 3] b2 = .ok (toolD "ab" ms) b3 := e3
  have m1 : rs.length * ms.length ≤ 6 := Nat.le_trans (Nat.mul_le_mul hl1 hl2) (by decide)
  have m2 : ms.length * rs.length ≤ 6 := by rw [Nat.mul_comm]; exact m1
  have m3 : ms.length * ms.length ≤ 6 := Nat.le_trans (Nat.mul_le_mul hl2 hl2) (by decide)
  have r0 : qc_0 M [some (.sh .bag), none, none, none, none, none, none, none] b = .nx [some (.sh .bag), some (.sh (toolD "ab" rs)), none, none, none, none, none, none] b2 := by
    unfold qc_0
    simp [e1, e2]
  have r1 : qc_1 M [some (.sh .bag), some (.sh (toolD "ab" rs)), none, none, none, none, none, none] b2 = .nx [some (.sh .bag), some (.sh (toolD "ab" rs)), some (.sh (toolD "ab" ms)), none, none, none, none, none] b3 := by
    unfold qc_1
    simp [e3]
  let T1 := toolD "ab" rs
  let T2 := toolD "ab" ms
  let E : Env := [some (.sh .bag), some (.sh T1), some (.sh T2), none, none, none, none, none]
  obtain ⟨a5, a6, a7, s1⟩ := body31 h1 h2 m1 M T1 T2 none none none b3
  obtain ⟨c5, c6, c7, s2⟩ := body31 h2 h1 m2 M T1 T2 a5 a6 a7 b3
  obtain ⟨k5, k6, k7, s3⟩ := body31 h2 h2 m3 M T1 T2 c5 c6 c7 b3
  have r2 : qc_2 M E b3 = .nx (e31 M T1 T2 ms ms k5 k6 k7) b3 := by
    have ha : aAny (eLst (aCons (eTup (aCons (eV 1) (aCons (eV 2) aNil))) (aCons (eTup (aCons (eV 2) (aCons (eV 1) aNil))) (aCons (eTup (aCons (eV 2) (aCons (eV 2) aNil))) aNil)))) E b3 = .ok [.tup [T1, T2], .tup [T2, T1], .tup [T2, T2]] b3 := rfl
    unfold qc_2
    simp only [sFor, ha, st_ok_]
    unfold loopD
    rw [show gT 2 (gsC (gN 3) (gsC (gN 4) gsN)) (.tup [T1, T2]) E b3 = some (e31 M T1 T2 rs ms none none none, b3) from rfl]
    dsimp only
    rw [s1]
    dsimp only
    unfold loopD
    rw [show gT 2 (gsC (gN 3) (gsC (gN 4) gsN)) (.tup [T2, T1]) (e31 M T1 T2 rs ms a5 a6 a7) b3 = some (e31 M T1 T2 ms rs a5 a6 a7, b3) from rfl]
    dsimp only
    rw [s2]
    dsimp only
    unfold loopD
    rw [show gT 2 (gsC (gN 3) (gsC (gN 4) gsN)) (.tup [T2, T2]) (e31 M T1 T2 ms rs c5 c6 c7) b3 = some (e31 M T1 T2 ms ms c5 c6 c7, b3) from rfl]
    dsimp only
    rw [s3]
    rfl
  refine ⟨b3, ?_⟩
  have e : F__law_right M = runD 8 1 (qc M) := rfl
  have hst' : startE 8 [D.bag] = [some (.sh .bag), none, none, none, none, none, none, none] := rfl
  rw [e]
  simp only [runD, List.length_cons, List.length_nil, if_true, hst']
  unfold qc
  rw [seq_step r0, seq_step r1, seq_step r2]
  rfl
theorem m_law (M : Addr) (ns : List Int) (h : ns.length ≤ 63) : ∃ b', F_law M [.fl (ns.map D.int)] ⟨0, 0, 0⟩ = .ok (.bl true) b' :=
  law_for (F__law_right M) 3 (by decide) (by decide) (fun x y => right31_ok M _) ns h
end DL

set_option maxHeartbeats 0
open PySem PySem.W PySem.Calls PyProof.Rows
theorem PySem.Challenge.cw_guardhopes_k31_whole_jams_by_loops_holds : PySem.Challenge.rw_guardhopes_k31_whole_jams_by_loops.Holds := by
  w_on; o_law
  refine HandSHeadRun.head_any (r := OpenLaw.row PySem.Challenge.rw_guardhopes_k31_whole_jams_by_loops) (q := view DL.R.prog [65]) (H := DL.hk) (ob := DL.ob) (M := 6000) (loose := DL.loose) (d := HandSHeadRun.topDef DL.R.prog 65) (kwd := []) DL.ob_eq
    (by kernel_rfl) (fun s => by kernel_rfl) DL.run (by kernel_rfl) (by kernel_rfl) (by kernel_rfl) (by rfl) (by first | assumption | decide +kernel) (by decide +kernel) ⟨rfl, rfl, rfl, rfl, rfl, by decide +kernel⟩ ?hw ?hc
  case hw => w_witness2
  case hc =>
    refine DL.walkG (l := PySem.Challenge.rw_guardhopes_k31_whole_jams_by_loops) (n := 63) (k := 10) (x := "_law_script") rfl (by decide) (by kernel_rfl) ⟨rfl, by decide, by decide⟩ ?F
    intro w mg fa h Y G hmg0
    obtain ⟨K, KX, c⟩ := Y
    have hmg : mg ("law" : PySem.Str) = some (.ref fa) := by
      have e : (HandSHeadRun.topDef DL.R.prog 65).name = ("law" : PySem.Str) := by kernel_rfl
      rw [← e]
      exact hmg0
    obtain ⟨fd, hb, hF⟩ := DL.ok_all KX G c
    have e : fa = He.ga K "law" := by
      have g := He.glo_ok KX G (x := "law") (DL.glo_law c)
      rw [hmg] at g
      cases g
      rfl
    subst e
    exact ⟨K, fd, DL.F_law (He.ga K "Machine"), KX, hb, fun ns hn => DL.m_law _ ns hn, fun base _ _ => hF _ w base⟩
