import PyProof.Rows.All
import Wide.All
import OpenK.AllK
import Wide.FinOn
import HandS.Base
import HandS.Call
import HandS.List
import HandS.Comp
import HandS.Exc
import HandS.Words
import HandS.Iter
import HandS.ExcOwn
import HandS.TupAny
import HandS.Text
import HandS.WordsExc
import HandS.TupMul
import HandS.Star
import HandS.IsInst
import HandS.Property
import HandS.StrMore
import HandS.Replace
import HandS.Style
import HandS.Defaults
import HandS.ClsMeth
import KE.GoesNew
import HandS.MakeKw
import KE.KStateDown
import HandS.Ends
import HandS.Head0
import HandS.Head1
import HandS.Head2
import HandS.HeadEnd
import HandS.HeadHook1
import HandS.HeadHook2
import HandS.Conv
import HandS.More
import HandS.Zip
import HandS.DictComp
import HandS.Deep
import HandS.OwnEq
import HandS.SortRule
import PyProof.Rows.SortKeyStr
import PyProof.Rows.TupIter
import PyProof.Seq
import HandS.ListItems
import KE.KDictList
import PyProof.InstNe
import PyProof.StrWalks
import PyProof.EnumMake
import HandS.FStr
import HandS.MapJoin
import HandS.RaiseMore
import PyProof.Rows.Range3
import PyProof.CallStr
import HandS.Small
import HandS.DictSub
import HandS.Codes
import PySem.Challenge.RW_guardhopes_k02_machines_made
section
set_option Elab.async false
set_option linter.all false
set_option maxRecDepth 100000
set_option maxHeartbeats 4000000
namespace DL
open PySem PySem.Spec PyProof.Rows L2

inductive D where
  | non | bl (b : Bool) | int (i : Int) | str (x : Str)
  | tup (ds : List D) | lst (ds : List D) | fl (ds : List D)
  | ins (C : Addr) (ns : List Str) (ds : List D)
  | obj (v : V)
  | bag
  | dct (ks : List Key) (ds : List D)
  | dtp (ks : List (List Key)) (ds : List D)

structure Bag where
  x : Int
  y : Int
  z : Int

inductive Out (α : Type) where
  | ok (a : α) (b : Bag)
  | ex (c : Addr) (ns : List Str) (ds : List D)
  | stuck
namespace Out
def bind {α β : Type} (o : Out α) (k : α → Bag → Out β) : Out β := match o with
  | .ok a b => k a b
  | .ex c ns ds => .ex c ns ds
  | .stuck => .stuck
def pureO {α : Type} (o : Option α) (b : Bag) : Out α := match o with
  | some a => .ok a b
  | none => .stuck
end Out

mutual
inductive DR (K : PySem.W.Frag) (ba : Option Addr) (S : Hp) : V → D → Prop
  | non : DR K ba S .non .non
  | bl (b : Bool) : DR K ba S (.bl b) (.bl b)
  | int (i : Int) : DR K ba S (.int i) (.int i)
  | str (x : Str) : DR K ba S (.str x) (.str x)
  | tup {a : Addr} {xs : List V} {ds : List D} : S a = some (.tup xs) → DRs K ba S xs ds → DR K ba S (.ref a) (.tup ds)
  | lst {a : Addr} {xs : List V} {ds : List D} : S a = some (.lst xs) → DRs K ba S xs ds → DR K ba S (.ref a) (.lst ds)
  | fl {a : Addr} {xs : List V} {ds : List D} : SqL K S a xs → DRs K ba S xs ds → DR K ba S (.ref a) (.fl ds)
  | ins {a C dx : Addr} {fs : List (Str × V)} {ns : List Str} {ds : List D} : S a = some (.ins C dx fs) → fs.map (·.1) = ns → DRs K ba S (fs.map (·.2)) ds → DR K ba S (.ref a) (.ins C ns ds)
  | obj (v : V) : DR K ba S v (.obj v)
  | bag {a : Addr} : ba = some a → DR K ba S (.ref a) .bag
  | dct {a : Addr} {o : Obj} {kvs : List (Key × V)} {ks : List Key} {ds : List D} : S a = some (.frz o (.dK kvs)) → kvs.map (·.1) = ks → DRs K ba S (kvs.map (·.2)) ds → DR K ba S (.ref a) (.dct ks ds)
  | dtp {a : Addr} {o : Obj} {kvs : List (List Key × V)} {ks : List (List Key)} {ds : List D} : S a = some (.frz o (.dT kvs)) → kvs.map (·.1) = ks → DRs K ba S (kvs.map (·.2)) ds → DR K ba S (.ref a) (.dtp ks ds)
inductive DRs (K : PySem.W.Frag) (ba : Option Addr) (S : Hp) : List V → List D → Prop
  | nil : DRs K ba S [] []
  | cons {v : V} {vs : List V} {d : D} {ds : List D} : DR K ba S v d → DRs K ba S vs ds → DRs K ba S (v :: vs) (d :: ds)
end

theorem seqT {K : PySem.W.Frag} {H H' : Hp} {a : Addr} {xs : List V} (e : Same H H') (h : H a = some (.tup xs)) : SqT K H' a xs := .inl (.inl (e _ _ h))
section
variable {K : PySem.W.Frag} {ba : Option Addr} {S S' : Hp}
mutual
theorem DR.mono (e : Same S S') : ∀ (d : D) (v : V), DR K ba S v d → DR K ba S' v d
  | .non, _, h => by cases h; exact .non
  | .bl _, _, h => by cases h; exact .bl _
  | .int _, _, h => by cases h; exact .int _
  | .str _, _, h => by cases h; exact .str _
  | .tup ds, _, h => by
    cases h with
    | tup h1 h2 => exact .tup (e _ _ h1) (DRs.mono e ds _ h2)
  | .lst ds, _, h => by
    cases h with
    | lst h1 h2 => exact .lst (e _ _ h1) (DRs.mono e ds _ h2)
  | .fl ds, _, h => by
    cases h with
    | fl h1 h2 => exact .fl (e.seq h1) (DRs.mono e ds _ h2)
  | .ins C ns ds, _, h => by
    cases h with
    | ins h1 h2 h3 => exact .ins (e _ _ h1) h2 (DRs.mono e ds _ h3)
  | .obj _, _, h => by cases h; exact .obj _
  | .bag, _, h => by
    cases h with
    | bag h1 => exact .bag h1
  | .dct ks ds, _, h => by
    cases h with
    | dct h1 h2 h3 => exact .dct (e _ _ h1) h2 (DRs.mono e ds _ h3)
  | .dtp ks ds, _, h => by
    cases h with
    | dtp h1 h2 h3 => exact .dtp (e _ _ h1) h2 (DRs.mono e ds _ h3)
theorem DRs.mono (e : Same S S') : ∀ (ds : List D) (vs : List V), DRs K ba S vs ds → DRs K ba S' vs ds
  | [], _, h => by cases h; exact .nil
  | d :: ds, _, h => by
    cases h with
    | cons h1 h2 => exact .cons (DR.mono e d _ h1) (DRs.mono e ds _ h2)
end
theorem DR.up {v : V} {d : D} (h : DR K ba S v d) (e : Same S S') : DR K ba S' v d := DR.mono e d v h
theorem DRs.up {vs : List V} {ds : List D} (h : DRs K ba S vs ds) (e : Same S S') : DRs K ba S' vs ds := DRs.mono e ds vs h
theorem DRs.length : ∀ {vs : List V} {ds : List D}, DRs K ba S vs ds → vs.length = ds.length
  | _, [], h => by cases h; rfl
  | _, d :: ds, h => by
    cases h with
    | cons _ h2 => simp [DRs.length h2]
theorem DRs.get : ∀ {vs : List V} {ds : List D} {i : Nat} {d : D}, DRs K ba S vs ds → ds[i]? = some d → ∃ v, vs[i]? = some v ∧ DR K ba S v d
  | _, [], i, d, h, e => by simp at e
  | _, d' :: ds, 0, d, h, e => by
    cases h with
    | cons h1 _ => simp at e; subst e; exact ⟨_, rfl, h1⟩
  | _, d' :: ds, i + 1, d, h, e => by
    cases h with
    | cons _ h2 =>
      obtain ⟨v, e1, r⟩ := DRs.get (i := i) h2 (by simpa using e)
      exact ⟨v, by simpa using e1, r⟩
end

/-- an object that is written, told -/
inductive ODR (K : PySem.W.Frag) (ba : Option Addr) (S : Hp) : HO → D → Prop
  | lst {xs : List V} {ds : List D} : DRs K ba S xs ds → ODR K ba S (.lst xs) (.lst ds)
  | ins {C dx : Addr} {fs : List (Str × V)} {ns : List Str} {ds : List D} : fs.map (·.1) = ns → DRs K ba S (fs.map (·.2)) ds → ODR K ba S (.ins C dx fs) (.ins C ns ds)
  | dct {kvs : List (Key × V)} {ks : List Key} {ds : List D} : kvs.map (·.1) = ks → DRs K ba S (kvs.map (·.2)) ds → ODR K ba S (.dK kvs) (.dct ks ds)
  | dtp {kvs : List (List Key × V)} {ks : List (List Key)} {ds : List D} : kvs.map (·.1) = ks → DRs K ba S (kvs.map (·.2)) ds → ODR K ba S (.dT kvs) (.dtp ks ds)
theorem ODR.up {K : PySem.W.Frag} {ba : Option Addr} {S S' : Hp} {u : HO} {d : D} (h : ODR K ba S u d) (e : Same S S') : ODR K ba S' u d := by
  cases h with
  | lst r => exact .lst (r.up e)
  | ins h r => exact .ins h (r.up e)
  | dct h r => exact .dct h (r.up e)
  | dtp h r => exact .dtp h (r.up e)
/-- how an object of ours stands once it is shared: dicts are locked -/
def lockU (o : Obj) : HO → HO
  | .dK kvs => .frz o (.dK kvs)
  | .dT kvs => .frz o (.dT kvs)
  | u => u
/-- a thing of ours is shared as it is, or it must be locked -/
theorem ODR.how {K : PySem.W.Frag} {ba : Option Addr} {S : Hp} {u : HO} {d : D} (h : ODR K ba S u d) : (∀ o, lockU o u = u) ∨ (Mut (some u) ∧ ∀ o, lockU o u = .frz o u) := by
  cases h with
  | lst r => exact .inl fun _ => rfl
  | ins h r => exact .inl fun _ => rfl
  | dct h r => exact .inr ⟨trivial, fun _ => rfl⟩
  | dtp h r => exact .inr ⟨trivial, fun _ => rfl⟩
inductive SD where
  | sh (d : D)
  | ow (d : D)
abbrev Env := List (Option SD)

/-- at a def's entry: the heap, what is shared, the bag's address -/
structure Cq where
  H0 : Hp
  S0 : Hp
  ba : Option Addr

def BagOk (ba : Option Addr) (b : Bag) (S H : Hp) : Prop := ∀ a, ba = some a → H a = some (.lst [.int b.x, .int b.y, .int b.z]) ∧ S a = none

structure Core (C : Cq) (S : Hp) (b : Bag) (H : Hp) : Prop where
  sub : Same S H
  fr : ∀ a o, C.H0 a = some o → C.ba ≠ some a → H a = some o
  bag : BagOk C.ba b S H
  new : ∀ a o, S a = some o → C.S0 a = some o ∨ C.H0 a = none ∨ ∃ xs, o = .tup xs

inductive Slots (K : PySem.W.Frag) (ba : Option Addr) (S H : Hp) : L2.St → Env → List Addr → Prop
  | nil : Slots K ba S H [] [] []
  | no {x : Option V} {σ : L2.St} {ρ : Env} {O : List Addr} : Slots K ba S H σ ρ O → Slots K ba S H (x :: σ) (none :: ρ) O
  | sh {v : V} {d : D} {σ : L2.St} {ρ : Env} {O : List Addr} : DR K ba S v d → Slots K ba S H σ ρ O → Slots K ba S H (some v :: σ) (some (.sh d) :: ρ) O
  | ow {p : Addr} {u : HO} {d : D} {σ : L2.St} {ρ : Env} {O : List Addr} : H p = some u → ODR K ba S u d → Slots K ba S H σ ρ O → Slots K ba S H (some (.ref p) :: σ) (some (.ow d) :: ρ) (p :: O)

structure Own (C : Cq) (S : Hp) (O : List Addr) : Prop where
  nd : O.Nodup
  al : ∀ p ∈ O, S p = none ∧ C.H0 p = none ∧ C.ba ≠ some p

structure OkS (K : PySem.W.Frag) (C : Cq) (S : Hp) (ρ : Env) (b : Bag) (σ : L2.St) (H : Hp) : Prop where
  core : Core C S b H
  sl : ∃ O, Slots K C.ba S H σ ρ O ∧ Own C S O

section
variable {K : PySem.W.Frag} {ba : Option Addr} {S S' H H' : Hp} {σ : L2.St} {ρ : Env} {O : List Addr}
theorem Slots.len (s : Slots K ba S H σ ρ O) : σ.length = ρ.length := by
  induction s with
  | nil => rfl
  | no _ ih => simp [ih]
  | sh _ _ ih => simp [ih]
  | ow _ _ _ ih => simp [ih]
theorem Slots.mono (s : Slots K ba S H σ ρ O) (e : Same S S') (k : ∀ p ∈ O, ∀ u, H p = some u → H' p = some u) : Slots K ba S' H' σ ρ O := by
  induction s with
  | nil => exact .nil
  | no _ ih => exact .no (ih k)
  | sh r _ ih => exact .sh (r.up e) (ih k)
  | ow h1 h2 _ ih => exact .ow (k _ (List.mem_cons_self) _ h1) (h2.up e) (ih fun p hp => k p (List.mem_cons_of_mem _ hp))
theorem Slots.there (s : Slots K ba S H σ ρ O) : ∀ p ∈ O, ∃ u, H p = some u := by
  induction s with
  | nil => intro p hp; cases hp
  | no _ ih => exact ih
  | sh _ _ ih => exact ih
  | ow h1 _ _ ih =>
    intro p hp
    rcases List.mem_cons.mp hp with e | hp
    · subst e; exact ⟨_, h1⟩
    · exact ih p hp
theorem Slots.getSh : ∀ {σ : L2.St} {ρ : Env} {O : List Addr} {i : Nat} {d : D}, Slots K ba S H σ ρ O → ρ[i]? = some (some (.sh d)) → ∃ v, σ[i]? = some (some v) ∧ DR K ba S v d
  | _, _, _, _, _, .nil, e => by simp at e
  | _, _, _, 0, _, .no _, e => by simp at e
  | _, _, _, 0, _, .sh r _, e => by
    simp at e
    subst e
    exact ⟨_, rfl, r⟩
  | _, _, _, 0, _, .ow _ _ _, e => by simp at e
  | _, _, _, i + 1, _, .no s, e => by
    obtain ⟨v, a, r⟩ := Slots.getSh (i := i) s (by simpa using e)
    exact ⟨v, by simpa using a, r⟩
  | _, _, _, i + 1, _, .sh _ s, e => by
    obtain ⟨v, a, r⟩ := Slots.getSh (i := i) s (by simpa using e)
    exact ⟨v, by simpa using a, r⟩
  | _, _, _, i + 1, _, .ow _ _ s, e => by
    obtain ⟨v, a, r⟩ := Slots.getSh (i := i) s (by simpa using e)
    exact ⟨v, by simpa using a, r⟩
theorem Own.sub {C : Cq} {S : Hp} {O O' : List Addr} (w : Own C S O) (l : O'.Sublist O) : Own C S O' := ⟨w.nd.sublist l, fun p hp => w.al p (l.subset hp)⟩
end
end DL

set_option maxHeartbeats 4000000
namespace DL
open PySem PySem.Spec PyProof.Rows L2
section
variable {K : PySem.W.Frag} {C : Cq} {S S' H H' : Hp} {σ : L2.St} {ρ : Env} {b b' : Bag} {p : Addr} {u : HO}
theorem Core.h0 (o : Core C S b H) (hp : H p = none) : C.H0 p = none := by
  cases e : C.H0 p with
  | none => rfl
  | some x =>
    by_cases hb : C.ba = some p
    · rw [(o.bag p hb).1] at hp; cases hp
    · rw [o.fr p x e hb] at hp; cases hp
theorem Core.nba (o : Core C S b H) (hp : H p = none) : C.ba ≠ some p := fun hb => by
  rw [(o.bag p hb).1] at hp; cases hp
theorem Core.sn (o : Core C S b H) (hp : H p = none) : S p = none := o.sub.free hp
theorem Core.allocH (o : Core C S b H) (hp : H p = none) : Core C S b (upd H p u) := by
  refine ⟨fun a x e => ?_, fun a x e hb => ?_, fun a e => ?_, o.new⟩
  · have h := o.sub a x e
    rw [upd_ne (ne_of_none h hp)]; exact h
  · have h := o.fr a x e hb
    rw [upd_ne (ne_of_none h hp)]; exact h
  · obtain ⟨h1, h2⟩ := o.bag a e
    exact ⟨by rw [upd_ne (ne_of_none h1 hp)]; exact h1, h2⟩
theorem OkS.get {i : Nat} {d : D} (o : OkS K C S ρ b σ H) (e : ρ[i]? = some (some (.sh d))) : ∃ v, σ[i]? = some (some v) ∧ DR K C.ba S v d := by
  obtain ⟨O, s, _⟩ := o.sl
  exact s.getSh e
/-- a fresh list of ours, not shared yet -/
structure OkF (K : PySem.W.Frag) (C : Cq) (S : Hp) (ρ : Env) (b : Bag) (σ : L2.St) (H : Hp) (p : Addr) (u : HO) : Prop where
  core : Core C S b H
  at_ : H p = some u
  sn : S p = none
  h0 : C.H0 p = none
  nba : C.ba ≠ some p
  sl : ∃ O, Slots K C.ba S H σ ρ O ∧ Own C S O ∧ p ∉ O
theorem OkS.fresh (o : OkS K C S ρ b σ H) (hp : H p = none) : OkF K C S ρ b σ (upd H p u) p u := by
  obtain ⟨c, O, s, w⟩ := o
  have ne : ∀ q ∈ O, q ≠ p := fun q hq => by
    obtain ⟨vs, h⟩ := s.there q hq
    exact ne_of_none h hp
  exact ⟨c.allocH hp, upd_same, c.sn hp, c.h0 hp, c.nba hp, O, s.mono (Same.refl _) (fun q hq vs h => by rw [upd_ne (ne q hq)]; exact h), w, fun z => ne p z rfl⟩
theorem OkF.ok (o : OkF K C S ρ b σ H p u) : OkS K C S ρ b σ H := by
  obtain ⟨c, h1, h2, h3, h4, O, s, w, n⟩ := o
  exact ⟨c, O, s, w⟩
end

def XR (K : PySem.W.Frag) (ba : Option Addr) (S : Hp) (dx : Option Addr) (ns : List Str) (ds : List D) : Prop := match ns with
  | [] => dx = none
  | _ :: _ => ∃ a fs, dx = some a ∧ S a = some (.xd fs) ∧ fs.map (·.1) = ns ∧ DRs K ba S (fs.map (·.2)) ds
/-- an outcome, told: R of what comes, the bag, what is shared, the heap -/
def OutG (K : PySem.W.Frag) (C : Cq) (W : WX) (S : Hp) (ρ : Env) (σ : L2.St) {α : Type} (R : α → Bag → Hp → Hp → Prop) : Out α → Prop
  | .ok a b => ∀ S' H', Same S S' → OkS K C S' ρ b σ H' → R a b S' H'
  | .ex c ns ds => ∀ (dx : Option Addr) (S' H' : Hp) (b : Bag), Same S S' → OkS K C S' ρ b σ H' → XR K C.ba S' dx ns ds → W (.ref c) dx σ H'
  | .stuck => False
section
variable {K : PySem.W.Frag} {C : Cq} {W : WX} {S S1 : Hp} {ρ : Env} {σ : L2.St} {α β : Type}
theorem OutG.up {R : α → Bag → Hp → Hp → Prop} {o : Out α} (h : OutG K C W S ρ σ R o) (e : Same S S1) : OutG K C W S1 ρ σ R o := by
  cases o with
  | ok a b => exact fun S' H' e' => h S' H' (e.trans e')
  | ex c ns ds => exact fun dx S' H' b e' => h dx S' H' b (e.trans e')
  | stuck => exact h
theorem OutG.bind {R : β → Bag → Hp → Hp → Prop} {o : Out α} {k : α → Bag → Out β} (h : OutG K C W S ρ σ R (o.bind k)) : OutG K C W S ρ σ (fun a b S' _ => OutG K C W S' ρ σ R (k a b)) o := by
  cases o with
  | ok a b => exact fun S' H' e _ => OutG.up h e
  | ex c ns ds => exact h
  | stuck => exact h
theorem OutG.pureO {R : α → Bag → Hp → Hp → Prop} {o : Option α} {b : Bag} (h : OutG K C W S ρ σ R (Out.pureO o b)) : ∃ a, o = some a ∧ ∀ S' H', Same S S' → OkS K C S' ρ b σ H' → R a b S' H' := by
  cases o with
  | some a => exact ⟨a, rfl, h⟩
  | none => exact h.elim
end

abbrev EF := Env → Bag → Out D
abbrev AF := Env → Bag → Out (List D)

section
variable {X : Cx} {C : Cq} {W : WX} {e a b c : Expr} {pos : Pos} {F Fa Fb Fc : EF}
def Op2 (K : PySem.W.Frag) (C : Cq) (r : R2) (f : D → D → Option D) : Prop := ∀ (S : Hp) (ρ : Env) (b : Bag) (σ : L2.St) (H : Hp) (v w : V) (d e z : D) (Q : VK), OkS K C S ρ b σ H → DR K C.ba S v d → DR K C.ba S w e → f d e = some z →
  (∀ u S' H', Same S S' → OkS K C S' ρ b σ H' → DR K C.ba S' u z → Q u H') → r v w H Q
variable {Ga Gb : BF} {rest : List Expr}
end
end DL

set_option maxHeartbeats 4000000
namespace DL
open PySem PySem.Spec PyProof.Rows L2
inductive SO where
  | nx (ρ : Env) (b : Bag)
  | rt (d : D) (b : Bag)
  | ro (d : D) (b : Bag)
  | bk (ρ : Env) (b : Bag)
  | ct (ρ : Env) (b : Bag)
  | ex (ρ : Env) (c : Addr) (ns : List Str) (ds : List D)
  | stuck
def SOk (K : PySem.W.Frag) (C : Cq) (W : WX) (S : Hp) (E : Ends) : SO → Prop
  | .nx ρ b => ∀ S' σ H, Same S S' → OkS K C S' ρ b σ H → E.nx σ H
  | .rt d b => ∀ S' H v, Same S S' → Core C S' b H → DR K C.ba S' v d → E.rt v H
  | .ro d b => ∀ S' H p u, Same S S' → Core C S' b H → H p = some u → S' p = none → C.H0 p = none → C.ba ≠ some p → ODR K C.ba S' u d → E.rt (.ref p) H
  | .bk ρ b => ∀ S' σ H, Same S S' → OkS K C S' ρ b σ H → E.bk σ H
  | .ct ρ b => ∀ S' σ H, Same S S' → OkS K C S' ρ b σ H → E.ct σ H
  | .ex ρ c ns ds => ∀ (dx : Option Addr) S' σ H b, Same S S' → OkS K C S' ρ b σ H → XR K C.ba S' dx ns ds → W (.ref c) dx σ H
  | .stuck => False
/-- what an expression gives to a statement -/
def Out.st {α : Type} (o : Out α) (ρ : Env) (k : α → Bag → SO) : SO := match o with
  | .ok a b => k a b
  | .ex c ns ds => .ex ρ c ns ds
  | .stuck => .stuck
def SO.seq (o : SO) (k : Env → Bag → SO) : SO := match o with
  | .nx ρ b => k ρ b
  | .rt d b => .rt d b
  | .ro ds b => .ro ds b
  | .bk ρ b => .bk ρ b
  | .ct ρ b => .ct ρ b
  | .ex ρ c ns ds => .ex ρ c ns ds
  | .stuck => .stuck
section
variable {K : PySem.W.Frag} {C : Cq} {W : WX} {S S1 : Hp} {ρ : Env} {σ : L2.St} {E : Ends} {α : Type}
theorem SOk.up {o : SO} (h : SOk K C W S E o) (e : Same S S1) : SOk K C W S1 E o := by
  cases o with
  | nx ρ b => exact fun S' σ H e' => h S' σ H (e.trans e')
  | rt d b => exact fun S' H v e' => h S' H v (e.trans e')
  | ro ds b => exact fun S' H p vs e' => h S' H p vs (e.trans e')
  | bk ρ b => exact fun S' σ H e' => h S' σ H (e.trans e')
  | ct ρ b => exact fun S' σ H e' => h S' σ H (e.trans e')
  | ex ρ c ns ds => exact fun dx S' σ H b e' => h dx S' σ H b (e.trans e')
  | stuck => exact h
theorem SOk.st {o : Out α} {k : α → Bag → SO} (h : SOk K C W S E (o.st ρ k)) : OutG K C W S ρ σ (fun a b S' _ => SOk K C W S' E (k a b)) o := by
  cases o with
  | ok a b => exact fun S' H' e _ => SOk.up h e
  | ex c ns ds => exact fun dx S' H' b e o x => h dx S' σ H' b e o x
  | stuck => exact h
theorem SOk.seq {o : SO} {k : Env → Bag → SO} (h : SOk K C W S E (o.seq k)) : SOk K C W S { E with nx := fun σ H => ∃ S' ρ b, OkS K C S' ρ b σ H ∧ SOk K C W S' E (k ρ b) } o := by
  cases o with
  | nx ρ b => exact fun S' σ H e ok => ⟨S', ρ, b, ok, SOk.up h e⟩
  | rt d b => exact h
  | ro ds b => exact h
  | bk ρ b => exact h
  | ct ρ b => exact h
  | ex ρ c ns ds => exact h
  | stuck => exact h
end
end DL

set_option maxHeartbeats 400000
namespace DL
open PySem PySem.Spec PyProof.Rows L2
def ItD (K : PySem.W.Frag) (ba : Option Addr) (J : It) (ds : List D) (S : Hp) : Prop := ∀ (C : Cq), C.ba = ba → ∀ (i : Nat) (S' : Hp) (ρ : Env) (b : Bag) (σ : L2.St) (H : Hp), Same S S' → OkS K C S' ρ b σ H →
  (∀ d, ds[i]? = some d → J.go i H ∧ ∀ x H', J.yld i H x H' → ∃ S2, Same S' S2 ∧ OkS K C S2 ρ b σ H' ∧ DR K ba S2 x d ∧ (∀ p u, H p = some u → H' p = some u)) ∧ (ds.length = i → J.stop i H)
theorem ItD.up {K : PySem.W.Frag} {ba : Option Addr} {J : It} {ds : List D} {S S1 : Hp} (h : ItD K ba J ds S) (e : Same S S1) : ItD K ba J ds S1 := fun C hC i S' ρ b σ H e' => h C hC i S' ρ b σ H (e.trans e')
end DL

set_option maxHeartbeats 1000000
namespace DL
open PySem PySem.Spec PyProof.Rows L2
variable {Gd Gd' : Around → Prop}
structure FnG (P : Program) (w : World) (K : PySem.W.Frag) (mg : Str → Option Value) (base : Heap) (Gd : Around → Prop) (k : Nat) (f : Addr) (fd : FuncData) (ps : List Str) (sp : Sp) : Prop where
  many : ∀ vs H Q E, sp vs H Q E → vs.length = ps.length
  go : ∀ (A : Around) (fr : List PySem.Env) (s : Shared) (H : Hp) (ar : Args) (us : List Value) (vs : List V) (Q : VK) (E : XK), Room k A → Gd A → Env0 P w K mg base A fr s H → BindsTo s fd ar (ps.zip us) → Vals vs us → sp vs H Q E →
    codeAny (model P w) A (.call (.ref f) ar) (CR (L2.CX P w) fr P w H s Q E) s
section
variable {P : Program} {w : World} {K : PySem.W.Frag} {mg : Str → Option Value} {base : Heap} {k : Nat} {f : Addr} {fd : FuncData} {ps N : List Str} {sp : Sp}
theorem FnG.up {j : Nat} (F : FnG P w K mg base Gd j f fd ps sp) (h : j ≤ k) : FnG P w K mg base Gd k f fd ps sp := ⟨F.many, fun A fr s H ar us vs Q E r => F.go A fr s H ar us vs Q E (r.mono h)⟩
theorem FnG.body {x qual : Str} {st : Stmt} (F : Fun K x qual st f fd) (Sc : FnScope N ps (defScope st)) (many : ∀ vs H Q E, sp vs H Q E → vs.length = ps.length)
    (hb : ∀ (cdv : Value) (A : Around) (fr : List PySem.Env) (s : Shared) (H : Hp) (vs : List V) (Q : VK) (E : XK), Room k (A.deeper (envOfC qual (defScope st) s.heap.objs.size f cdv)) → Gd A → sp vs H Q E →
      ∃ t, PSs (cxOf (L2.CX P w) P w K mg base N qual (defScope st) f cdv A fr s H E) (defBody st) t ∧ t { nx := fun _ H' => Q .non H', rt := Q } (L2.start N vs) H) : FnG P w K mg base Gd (k + 1) f fd ps sp := by
  obtain ⟨oc, od, kV, doc, pm, an, cdv, ct, osl, rfl, lk, hc⟩ := F.ex
  refine ⟨many, fun A fr s H ar us vs Q E room hg e bt rv hs => ?_⟩
  have old : ∀ b o, base.get? b = some o → s.heap.get? b = some o := fun b o q => (e.bs b o q).1
  have kin := e.mod.kin.keeps old
  refine codeAny_call_function room.depth (kin f _ lk) rfl Sc.co Sc.gen rfl (PySem.W.codeRec_of kin hc) (bt _ _ _ _ (wpAny_newFunctionEnv_cells Sc.kind (fun y hy => ?_) fun env he s1 x => ?_))
  · have hm := (List.of_mem_zip (show (y.1, y.2) ∈ ps.zip us from hy)).1
    rcases Sc.par y.1 hm with q | q
    · exact Or.inl q
    · exact Or.inr ⟨q, PySem.W.cellsFrom_some _ _ _ (Or.inl q)⟩
  · subst he
    obtain ⟨t, ht, hq⟩ := hb cdv A fr s H vs Q E (room.deeper _) hg hs
    have start := inv_start (CX := L2.CX P w) (f := f) (qual := qual) (cd := cdv) (E := E) Sc room.hd e (many vs H Q E hs) rv x
    refine ⟨(e.mod.nolimit.keeps old).keeps x.toInCall.keep, codeAny_func (wpAny_mono (ht.run [] s1 _ H _ start hq) (fun fl s' z => ?_) fun _ _ z => z)⟩
    cases fl with
    | brk => obtain ⟨_, _, _, z⟩ := z; exact z.elim
    | cont => obtain ⟨_, _, _, z⟩ := z; exact z.elim
    | next => obtain ⟨_, H', J, z⟩ := z; exact ⟨V.non, H', J.os, J.bare, J.base, J.hok, rfl, z⟩
    | ret u => obtain ⟨v, _, H', J, r, z⟩ := z; exact ⟨v, H', J.os, J.bare, J.base, J.hok, r, z⟩
end
section
variable {X : Cx} {k : Nat} {f : Addr} {fd : FuncData} {ps : List Str} {sp : Sp} {pins : List (Addr × Obj)} {σ : L2.St} {H : Hp} {s : Shared} {Q : VK} {W : WX}
/-- what a code of ours ends with, seen from the caller -/
theorem end_of (tk : Takes X W) (I : Inv X pins σ H s) {r : Result} {s' : Shared} (h : CR (L2.CX X.prog X.w) X.stack X.prog X.w H s Q (fun c d H' => W c d σ H') r s') :
    (∃ u, r = .ok (.ret u) ∧ EP X pins σ Q u s') ∨ ∃ e, r = .error e ∧ X.xe e s' := by
  cases r with
  | error e => exact Or.inr ⟨e, rfl, tk e s' (XE.of_call I (fun _ _ _ z => z) h)⟩
  | ok fl =>
    cases fl with
    | ret u => exact Or.inl ⟨u, rfl, I.after h⟩
    | brk => exact False.elim h
    | cont => exact False.elim h
    | next => exact False.elim h
/-- the callee's run; bt says how what is passed comes to its parameters -/
theorem FnG.at_ (F : FnG X.prog X.w X.K X.mg X.base Gd k f fd ps sp) (room : Room k X.A) (hg : Gd X.A) (tk : Takes X W) (I : Inv X pins σ H s) {us : List Value} {kw : List (Str × Value)} {ws : List Value} {zs : List V} (bt : BindsTo s fd ⟨us, kw⟩ (ps.zip ws)) (r : Vals zs ws)
    (h : sp zs H Q (fun c d H' => W c d σ H')) : wpAny (model X.prog X.w) X.A (call (.ref f) us kw) (EP X pins σ Q) X.xe s := by
  refine wpAny_call (codeAny_mono (F.go X.A X.stack s H ⟨us, kw⟩ ws zs Q _ room hg I.env0 bt r h) fun r s' z => ?_)
  rcases end_of tk I z with ⟨u, rfl, q⟩ | ⟨e, rfl, q⟩
  · exact q
  · exact q
end
end DL

set_option maxHeartbeats 1000000
namespace DL
open PySem PySem.Spec PyProof.Rows L2
mutual
def D.pd : D → Option PyData
  | .non => some .none
  | .bl b => some (.bool b)
  | .int i => some (.int i)
  | .str x => some (.str x)
  | .tup ds => (pds ds).map .tuple
  | .lst ds => (pds ds).map .list
  | .fl ds => (pds ds).map .list
  | .ins _ _ _ => none
  | .obj _ => none
  | .bag => none
  | .dct _ _ => none
  | .dtp _ _ => none
def pds : List D → Option (List PyData)
  | [] => some []
  | d :: ds => match d.pd with
    | some p => (pds ds).map (p :: ·)
    | none => none
end
section
variable {K : PySem.W.Frag} {ba : Option Addr} {S H : Hp}
mutual
theorem DR.dp (e : Same S H) : ∀ (d : D) (v : V) (p : PyData), DR K ba S v d → d.pd = some p → Dp K H v p
  | .non, _, _, h, q => by
    simp only [D.pd, Option.some.injEq] at q
    subst q; cases h; exact .non
  | .bl _, _, _, h, q => by
    simp only [D.pd, Option.some.injEq] at q
    subst q; cases h; exact .bl _
  | .int _, _, _, h, q => by
    simp only [D.pd, Option.some.injEq] at q
    subst q; cases h; exact .int _
  | .str _, _, _, h, q => by
    simp only [D.pd, Option.some.injEq] at q
    subst q; cases h; exact .str _
  | .tup ds, _, _, h, q => by
    simp only [D.pd, Option.map_eq_some_iff] at q
    obtain ⟨ps, hp, rfl⟩ := q
    cases h with
    | tup h1 h2 => exact .tup (seqT e h1) (DRs.dp e ds _ _ h2 hp)
  | .lst ds, _, _, h, q => by
    simp only [D.pd, Option.map_eq_some_iff] at q
    obtain ⟨ps, hp, rfl⟩ := q
    cases h with
    | lst h1 h2 => exact .lst (SqL.of (e _ _ h1)) (DRs.dp e ds _ _ h2 hp)
  | .fl ds, _, _, h, q => by
    simp only [D.pd, Option.map_eq_some_iff] at q
    obtain ⟨ps, hp, rfl⟩ := q
    cases h with
    | fl h1 h2 => exact .lst (e.seq h1) (DRs.dp e ds _ _ h2 hp)
  | .ins _ _ _, _, _, _, q => by simp [D.pd] at q
  | .obj _, _, _, _, q => by simp [D.pd] at q
  | .bag, _, _, _, q => by simp [D.pd] at q
  | .dct _ _, _, _, _, q => by simp [D.pd] at q
  | .dtp _ _, _, _, _, q => by simp [D.pd] at q
theorem DRs.dp (e : Same S H) : ∀ (ds : List D) (vs : List V) (ps : List PyData), DRs K ba S vs ds → pds ds = some ps → DpAll K H vs ps
  | [], _, _, h, q => by
    simp only [pds, Option.some.injEq] at q
    subst q; cases h; exact .nil
  | d :: ds, _, _, h, q => by
    cases h with
    | cons h1 h2 =>
      unfold pds at q
      cases hd : d.pd with
      | none => rw [hd] at q; simp at q
      | some p =>
        rw [hd] at q
        simp only [Option.map_eq_some_iff] at q
        obtain ⟨ps', hp, rfl⟩ := q
        exact .cons (DR.dp e d _ _ h1 hd) (DRs.dp e ds _ _ h2 hp)
end
end
section
variable {X : Cx} {C : Cq} {W : WX} {e a b : Expr} {pos : Pos} {F Fa Fb : EF} {G : AF}
theorem i2 {K : PySem.W.Frag} {f : D → D → Option D} {Cc : Int → Int → Prop} {g : Int → Int → V} {g' : Int → Int → D} (hf : ∀ d e z, f d e = some z → ∃ i j, d = .int i ∧ e = .int j ∧ Cc i j ∧ z = g' i j) (hg : ∀ S i j, DR K C.ba S (g i j) (g' i j)) : Op2 K C (rI Cc g) f := by
  intro S ρ b σ H v w d e z Q ok r1 r2 hz q
  obtain ⟨i, j, rfl, rfl, hc, rfl⟩ := hf _ _ _ hz
  cases r1; cases r2
  exact ⟨i, j, rfl, rfl, hc, q _ S H (Same.refl _) ok (hg S i j)⟩
@[simp] def e1 (f : D → Option D) (Fa : EF) : EF := fun ρ b => (Fa ρ b).bind fun x b1 => Out.pureO (f x) b1
end
end DL

set_option maxHeartbeats 1000000
namespace DL
open PySem PySem.Spec PyProof.Rows L2
section
variable {X : Cx} {C : Cq} {W : WX} {e a b : Expr} {pos : Pos} {F Fa Fb : EF} {G : AF}
@[simp] def Bag.ds (b : Bag) : List D := [.int b.x, .int b.y, .int b.z]
end
end DL

set_option maxHeartbeats 1000000

set_option maxHeartbeats 2000000

set_option maxHeartbeats 1000000

set_option maxHeartbeats 1000000

set_option maxHeartbeats 1000000
namespace DL
open PySem PySem.Spec PyProof.Rows L2
abbrev IO := Out (List Str × List D)
def IOk (K : PySem.W.Frag) (C : Cq) (W : WX) (A x : Addr) (S : Hp) (E : Ends) : IO → Prop
  | .ok z b => ∀ S' σ H dx fs, Same S S' → Core C S' b H → H x = some (.ins A dx fs) → S' x = none → fs.map (·.1) = z.1 → DRs K C.ba S' (fs.map (·.2)) z.2 → E.nx σ H
  | .ex c ns ds => ∀ (dx : Option Addr) S' σ H b, Same S S' → Core C S' b H → XR K C.ba S' dx ns ds → W (.ref c) dx σ H
  | .stuck => False
theorem IOk.up {K : PySem.W.Frag} {C : Cq} {W : WX} {A x : Addr} {S S1 : Hp} {E : Ends} {o : IO} (h : IOk K C W A x S E o) (e : Same S S1) : IOk K C W A x S1 E o := by
  cases o with
  | ok z b => exact fun S' σ H dx fs e' => h S' σ H dx fs (e.trans e')
  | ex c ns ds => exact fun dx S' σ H b e' => h dx S' σ H b (e.trans e')
  | stuck => exact h
end DL

set_option maxHeartbeats 1000000
namespace DL
open PySem PySem.Spec PyProof.Rows L2
section
variable {X : Cx} {C : Cq} {W : WX} {st : Stmt} {e a b c o tg l : Expr} {es : List Expr} {pos apos cpos : Pos} {F Fa Fb Fc : EF} {G : AF}
theorem OkF.allocH {K : PySem.W.Frag} {S H : Hp} {ρ : Env} {b : Bag} {σ : L2.St} {p q : Addr} {u t : HO} (o : OkF K C S ρ b σ H p u) (hq : H q = none) : OkF K C S ρ b σ (upd H q t) p u := by
  obtain ⟨c, h1, h2, h3, h4, O, s, w, n⟩ := o
  refine ⟨c.allocH hq, ?_, h2, h3, h4, O, s.mono (Same.refl _) (fun r hr v h => ?_), w, n⟩
  · rw [upd_ne (ne_of_none h1 hq)]; exact h1
  · rw [upd_ne (ne_of_none h hq)]; exact h
end
end DL

set_option maxHeartbeats 1000000
namespace DL
open PySem PySem.Spec PyProof.Rows L2
structure QD where
  at_ : PySem.W.Frag → Addr
  name : Str
  qual : Str
  st : Stmt
def fnV (K : PySem.W.Frag) (a : Addr) : He.FnW := match K.lookup a with
  | some ⟨_, _, .func fd, _⟩ => some (fd.name, fd.qualname, fd.params, fd.body, fd.scope, fd.globals, fd.closure, fd.builtins)
  | _ => none
def QD.val (d : QD) : He.FnW := some (d.name, d.qual, defArgs d.st, .stmts (defBody d.st), defScope d.st, mainGlobals, [], builtinsNs)
def noneV : Value → Bool
  | .none => true
  | _ => false
def QD.ok (K : PySem.W.Frag) (d : QD) : Bool := PySem.W.keepIn K (.ref (d.at_ K)) && (match K.lookup (d.at_ K) with
  | some ⟨_, _, .func fd, _⟩ => PySem.W.codeIn K fd.code d.qual && noneV fd.defaults
  | _ => false)
theorem QD.get {K : PySem.W.Frag} {d : QD} (e : fnV K (d.at_ K) = d.val) (c : d.ok K = true) : ∃ fd, Fun K d.name d.qual d.st (d.at_ K) fd := by
  unfold QD.ok at c
  rw [Bool.and_eq_true] at c
  obtain ⟨kp, c⟩ := c
  unfold fnV at e
  cases q : K.lookup (d.at_ K) with
  | none => rw [q] at c; cases c
  | some o =>
    obtain ⟨oc, od, dt, osl⟩ := o
    rw [q] at c e
    cases dt with
    | func fd =>
      obtain ⟨n1, n2, n3, n4, n5, n6, n7, n8, n9, n10, n11, n12, n13, n14, n15⟩ := fd
      have e : (some (n1, n2, n3, n4, n5, n6, n7, n15) : He.FnW) = d.val := e
      unfold QD.val at e
      simp only [Option.some.injEq, Prod.mk.injEq] at e
      obtain ⟨h1, h2, h3, h4, h5, h6, h7, h8⟩ := e
      subst h1 h2 h3 h4 h5 h6 h7 h8
      have c : (PySem.W.codeIn K n13 d.qual && noneV n8) = true := c
      rw [Bool.and_eq_true] at c
      obtain ⟨c1, c2⟩ := c
      cases n8 <;> first | cases c2 | skip
      exact ⟨_, ⟨oc, od, n9, n10, n11, n12, n13, n14, osl, rfl, q, c1⟩, kp⟩
    | _ => cases c
abbrev QA : Type := Bool × List He.FnW
def obK (fn : List QD) (ex : PySem.W.Frag → Bool) (K : PySem.W.Frag) : QA := (ex K && fn.all fun d => d.ok K, fn.map fun d => fnV K (d.at_ K))
def vaK (fn : List QD) : QA := (true, fn.map QD.val)
end DL

set_option maxHeartbeats 1000000

set_option maxHeartbeats 1000000

set_option maxHeartbeats 1000000

set_option maxHeartbeats 1000000

set_option maxHeartbeats 1000000

set_option maxHeartbeats 2000000

set_option maxHeartbeats 1000000

set_option maxHeartbeats 2000000

set_option maxHeartbeats 2000000

set_option maxHeartbeats 1000000

set_option maxHeartbeats 1000000

set_option maxHeartbeats 1000000

set_option maxHeartbeats 2000000

set_option maxHeartbeats 2000000

set_option maxHeartbeats 2000000

set_option maxHeartbeats 2000000

set_option maxHeartbeats 2000000

set_option maxHeartbeats 2000000

set_option maxHeartbeats 2000000

set_option maxHeartbeats 2000000

set_option maxHeartbeats 1000000

set_option maxHeartbeats 1000000
namespace DL
open PySem PySem.Spec PyProof.Rows L2
section
variable {K : PySem.W.Frag} {C : Cq} {ba : Option Addr} {S S' H H' : Hp} {b b' : Bag}
theorem Slots.split {σ' : L2.St} {ρ' : Env} : ∀ {σ : L2.St} {ρ : Env} {O : List Addr}, σ.length = ρ.length → Slots K ba S H (σ ++ σ') (ρ ++ ρ') O → ∃ O1 O2, O = O1 ++ O2 ∧ Slots K ba S H σ ρ O1 ∧ Slots K ba S H σ' ρ' O2
  | [], [], O, _, h => ⟨[], O, rfl, .nil, h⟩
  | [], _ :: _, _, hl, _ => by simp at hl
  | _ :: _, [], _, hl, _ => by simp at hl
  | x :: σ, y :: ρ, O, hl, h => by
    have hl2 : σ.length = ρ.length := by simpa using hl
    rw [List.cons_append, List.cons_append] at h
    cases h with
    | no s =>
      obtain ⟨O1, O2, e, h1, h2⟩ := Slots.split hl2 s
      exact ⟨O1, O2, e, .no h1, h2⟩
    | sh r s =>
      obtain ⟨O1, O2, e, h1, h2⟩ := Slots.split hl2 s
      exact ⟨O1, O2, e, .sh r h1, h2⟩
    | ow g1 g2 s =>
      obtain ⟨O1, O2, e, h1, h2⟩ := Slots.split hl2 s
      exact ⟨_ :: O1, O2, by rw [e]; rfl, .ow g1 g2 h1, h2⟩
end
section
variable {X : Cx} {C : Cq} {W : WX} {st : Stmt}
theorem OkS.len {K : PySem.W.Frag} {S H : Hp} {ρ : Env} {b : Bag} {σ : L2.St} (o : OkS K C S ρ b σ H) : σ.length = ρ.length := by
  obtain ⟨c, O, s, w⟩ := o
  exact s.len
end
end DL

set_option maxHeartbeats 1000000

set_option maxHeartbeats 1000000

set_option maxHeartbeats 1000000

set_option maxHeartbeats 2000000

set_option maxHeartbeats 2000000

set_option maxHeartbeats 1000000

set_option maxHeartbeats 1000000

set_option maxHeartbeats 2000000

set_option maxHeartbeats 2000000

set_option maxHeartbeats 4000000
namespace SrtO
open PySem PyProof.Rows Srt
section
variable {prog : Program} {w : World} {A : Around} {E : Value → Shared → Prop} {s : Shared}
def IsPairS (h : Heap) (v : Value) (x : PySem.Str) (y : Int) : Prop := ∃ a o t u n, v = .ref a ∧ h.get? a = some o ∧ o.cls = .type "tuple" ∧ o.data = .seq #[.str x t, .int y u] n
theorem IsPairS.keeps {h h' : Heap} {v : Value} {x : PySem.Str} {y : Int} (p : IsPairS h v x y) (k : ∀ b o, h.get? b = some o → o.cls = .type "tuple" → h'.get? b = some o) : IsPairS h' v x y := by
  obtain ⟨a, o, t, u, n, e, ho, hc, hd⟩ := p
  exact ⟨a, o, t, u, n, e, k _ _ ho hc, hc, hd⟩
def lexT (p q : PySem.Str × Int) : Bool := if p.1 = q.1 then decide (p.2 < q.2) else decide (p.1.cps.toList < q.1.cps.toList)
end
end SrtO

set_option maxHeartbeats 1000000
namespace DL
open PySem PySem.Spec PyProof.Rows L2
open SrtO (lexT Swo Stb Srtd)
/-- what stands behind the items -/
inductive ItT (K : PySem.W.Frag) (H : Hp) : List V → List (Str × Int) → Prop
  | nil : ItT K H [] []
  | cons {t : Addr} {p : Str × Int} {vs : List V} {l : List (Str × Int)} : SqT K H t [.str p.1, .int p.2] → ItT K H vs l → ItT K H (.ref t :: vs) (p :: l)
open Classical in
noncomputable def keyOf (K : PySem.W.Frag) (H : Hp) (v : V) : Str × Int := if h : ∃ (p : Str × Int) (t : Addr), v = .ref t ∧ SqT K H t [.str p.1, .int p.2] then h.choose else ("", 0)
theorem ItT.all {K : PySem.W.Frag} {H : Hp} : ∀ {vs : List V} {l : List (Str × Int)}, ItT K H vs l → (∀ v ∈ vs, ∃ (p : Str × Int) (t : Addr), v = .ref t ∧ SqT K H t [.str p.1, .int p.2])
  | _, _, .nil => fun v h => by cases h
  | _, _, .cons h r => fun v hv => by
    rcases List.mem_cons.mp hv with rfl | hv
    · exact ⟨_, _, rfl, h⟩
    · exact r.all v hv
theorem ItT.of {K : PySem.W.Frag} {H : Hp} : ∀ (ys : List V), (∀ v ∈ ys, ∃ t, v = .ref t ∧ SqT K H t [.str (keyOf K H v).1, .int (keyOf K H v).2]) → ItT K H ys (ys.map (keyOf K H))
  | [], _ => .nil
  | y :: ys, h => by
    have h1 := h y List.mem_cons_self
    have h2 := ItT.of ys fun v hv => h v (List.mem_cons_of_mem _ hv)
    obtain ⟨t, e, h1⟩ := h1
    rw [List.map_cons]
    generalize keyOf K H y = p at h1 ⊢
    subst e
    exact .cons h1 h2
end DL

set_option maxHeartbeats 1000000

set_option maxHeartbeats 2000000

set_option maxHeartbeats 2000000

set_option maxHeartbeats 2000000

set_option maxHeartbeats 2000000

set_option maxHeartbeats 2000000

set_option maxHeartbeats 1000000

set_option maxHeartbeats 1000000

set_option maxHeartbeats 1000000

set_option maxHeartbeats 2000000

set_option maxHeartbeats 2000000

set_option maxHeartbeats 2000000

set_option maxHeartbeats 2000000

set_option maxHeartbeats 2000000

set_option maxHeartbeats 1000000

set_option maxHeartbeats 2000000

set_option maxHeartbeats 1000000

set_option maxHeartbeats 2000000
namespace DL
open PySem PySem.Spec PyProof.Rows L2
def top (i : Nat) : Stmt := PySem.Challenge.pw_guardhopes_k02_machines_made.main.body.getD i (.Pass ⟨0, 0, 0, 0⟩)
section
variable {P : Program} {w : World} {K : PySem.W.Frag} {mg : Str → Option Value} {base : Heap} {M fa : Addr} {fd : FuncData}
abbrev s_is_letters : Stmt := (top 15)
abbrev s_is_number : Stmt := (top 14)
abbrev s_is_state : Stmt := (top 16)
abbrev s_first_wrong_state : Stmt := (top 17)
abbrev s_Machine_init : Stmt := (inClass (top 21) 0)
abbrev s_Machine_len_ : Stmt := (inClass (top 21) 4)
abbrev s_state_row : Stmt := (top 18)
abbrev s_Machine_str_ : Stmt := (inClass (top 21) 5)
abbrev s__law_take : Stmt := (top 24)
abbrev s__law_signs : Stmt := (top 25)
abbrev s__law_rows : Stmt := (top 26)
abbrev s__law_page : Stmt := (top 27)
abbrev s_told_letters : Stmt := (top 20)
abbrev s_told_state : Stmt := (top 19)
abbrev s_Machine_read : Stmt := (inClass (top 21) 1)
abbrev s__law_right : Stmt := (top 28)
abbrev s__law_quiet : Stmt := (top 29)
abbrev s__law_bag : Stmt := (top 23)
abbrev s_law : Stmt := (top 30)
end
end DL

set_option maxHeartbeats 1000000
namespace DL
open PySem PySem.Spec PyProof.Rows L2
def obL (as : List Addr) (fn : List QD) (ex : PySem.W.Frag → Bool) (g : Addr → Option Obj) : QA := obK fn ex (He.frG g as)
def hookL (as : List Addr) (fn : List QD) (ex : PySem.W.Frag → Bool) : PySem.W.Hook where
  α := QA
  obs := fun s => obL as fn ex s.heap.get?
  val := fun _ => vaK fn
  says := fun _ h => ∃ K : PySem.W.Frag, K.In h ∧ obK fn ex K = vaK fn
  of := fun _ _ e => ⟨_, He.frG_in, e⟩
  keeps := fun _ _ _ ⟨K, h, c⟩ k => ⟨K, PySem.W.Frag.In.keeps h k, c⟩
end DL

set_option maxHeartbeats 0
namespace DL
open PySem PySem.Spec PyProof.Rows L2
def getA (K : PySem.W.Frag) (A : Addr) (f : Str) : Addr := match PySem.W.recIn K (He.ma K A f) "property" with
  | some (.ref g :: _) => g
  | _ => 0
def isGet (K : PySem.W.Frag) (A : Addr) (f : Str) : Bool := He.eqO (PySem.W.findIn K (.ref A) f) (some (some (.ref (He.ma K A f)))) && (He.eqO (PySem.W.specialIn K (.ref (He.ma K A f)) "__get__") (some (some (.builtin "property.__get__"))) && (decide (PySem.W.takesIn K (.ref (He.ma K A f)) = some true) && (match PySem.W.recIn K (He.ma K A f) "property" with
  | some (.ref _ :: _) => true
  | _ => false)))
def isI (K : PySem.W.Frag) (A : Addr) : Bool := He.eqO (PySem.W.findIn K (.ref A) "__class__") (some (some (.builtin "object.__class__"))) && (He.eqO (PySem.W.specialIn K (.builtin "object.__class__") "__get__") (some (some (.builtin "getset_descriptor.__get__"))) && (decide (PySem.W.takesIn K (.builtin "object.__class__") = some true) && decide (PySem.W.mroIn K A (.type "object") = some true)))
def kinds : List String := ["NoneType", "bool", "int", "str", "tuple", "list"]
def isK (K : PySem.W.Frag) (A : Addr) : Bool := (["str", "int", "bool", "tuple"].all fun n => decide (PySem.W.kitOne K (.ref A) (.type n) = some false)) && (decide (PySem.W.kitOne K (.ref A) (.ref A) = some true) && kinds.all fun n => decide (PySem.W.kitOne K (.type n) (.ref A) = some false))
def cmG (K : PySem.W.Frag) (A : Addr) (m : Str) : Addr := match PySem.W.recIn K (He.ma K A m) "classmethod" with
  | some (.ref g :: _) => g
  | _ => 0
def isCM (K : PySem.W.Frag) (A : Addr) (m : Str) : Bool := PySem.W.readsIn K A (.type "type") && (He.eqO (PySem.W.specialIn K (.ref A) "__getattribute__") (some (some (.builtin "type.__getattribute__"))) && ((match PySem.W.findCls K (.ref A) (.type "type") m with
  | some (.get a b c d) => decide (a = .builtin "classmethod.__get__" ∧ b = .ref (He.ma K A m) ∧ c = .none ∧ d = .ref A)
  | _ => false) && ((match PySem.W.recIn K (He.ma K A m) "classmethod" with
  | some (.ref _ :: _) => true
  | _ => false) && PySem.W.fnIn K (cmG K A m))))
def noB (K : PySem.W.Frag) (A : Addr) : Bool := He.eqO (PySem.W.findIn K (.ref A) "__bool__") (some none)
def exL : List He.Fa := [.free "abs", .free "all", .free "bool", .free "divmod", .free "enumerate", .free "int", .free "isinstance", .free "len", .free "max", .free "min", .free "range", .free "repr", .free "str", .free "tuple", .free "zip", .int "MOST_COLOUR" 6, .int "MOST_LETTERS" 3, .int "MOST_STATES" 6, .str "ALPHABET" "abcdefghijklmnopqrstuvwxyz", .str "DIGITS" "0123456789", .glo "Machine", .glo "is_letters", .glo "is_number", .glo "is_state", .glo "first_wrong_state", .glo "state_row", .glo "_law_take", .glo "_law_signs", .glo "_law_rows", .glo "_law_page", .glo "told_letters", .glo "told_state", .glo "_law_right", .glo "_law_quiet", .glo "_law_bag", .glo "law", .meth "Machine" "__len__", .meth "Machine" "__str__", .cls "Machine", .noat "Machine" "_letters", .noat "Machine" "_states", .mkr "Machine"]
def exK (K : PySem.W.Frag) : Bool := (exL.all fun f => f.ok K) && (isGet K (He.ga K "Machine") "letters" && (isGet K (He.ga K "Machine") "states" && (isI K (He.ga K "Machine") && (isCM K (He.ga K "Machine") "read" && (noB K (He.ga K "Machine") && isK K (He.ga K "Machine"))))))
def fns : List QD := [⟨fun K => He.ga K "is_letters", "is_letters", "is_letters", s_is_letters⟩,
  ⟨fun K => He.ga K "is_number", "is_number", "is_number", s_is_number⟩,
  ⟨fun K => He.ga K "is_state", "is_state", "is_state", s_is_state⟩,
  ⟨fun K => He.ga K "first_wrong_state", "first_wrong_state", "first_wrong_state", s_first_wrong_state⟩,
  ⟨fun K => He.ma K (He.ga K "Machine") "__len__", "__len__", "Machine.__len__", s_Machine_len_⟩,
  ⟨fun K => He.ga K "state_row", "state_row", "state_row", s_state_row⟩,
  ⟨fun K => He.ma K (He.ga K "Machine") "__str__", "__str__", "Machine.__str__", s_Machine_str_⟩,
  ⟨fun K => He.ga K "_law_take", "_law_take", "_law_take", s__law_take⟩,
  ⟨fun K => He.ga K "_law_signs", "_law_signs", "_law_signs", s__law_signs⟩,
  ⟨fun K => He.ga K "_law_rows", "_law_rows", "_law_rows", s__law_rows⟩,
  ⟨fun K => He.ga K "_law_page", "_law_page", "_law_page", s__law_page⟩,
  ⟨fun K => He.ga K "told_letters", "told_letters", "told_letters", s_told_letters⟩,
  ⟨fun K => He.ga K "told_state", "told_state", "told_state", s_told_state⟩,
  ⟨fun K => cmG K (He.ga K "Machine") "read", "read", "Machine.read", s_Machine_read⟩,
  ⟨fun K => He.ga K "_law_right", "_law_right", "_law_right", s__law_right⟩,
  ⟨fun K => He.ga K "_law_quiet", "_law_quiet", "_law_quiet", s__law_quiet⟩,
  ⟨fun K => He.ga K "_law_bag", "_law_bag", "_law_bag", s__law_bag⟩,
  ⟨fun K => He.ga K "law", "law", "law", s_law⟩,
  ⟨fun K => He.ma K (He.ga K "Machine") "__init__", "__init__", "Machine.__init__", s_Machine_init⟩,
  ⟨fun K => getA K (He.ga K "Machine") "letters", "letters", "Machine.letters", (inClass (top 21) 2)⟩,
  ⟨fun K => getA K (He.ga K "Machine") "states", "states", "Machine.states", (inClass (top 21) 3)⟩]

def fad : List Addr := ([PySem.cStatics] : List Addr) ++ ([3, 6, 4, 21, 31, 51, 70, 89, 101, 114, 124, 129, 134, 141, 146, 151, 158, 225, 236, 243, 250, 255, 260, 267, 274, 279, 0, 20, 30, 50, 69, 88, 100, 113, 123, 128, 133, 140, 145, 150, 157, 224, 235, 242, 249, 254, 259, 266, 273, 278, 15, 16, 17, 18, 19, 29, 32, 48, 49, 67] : List Addr) ++ ([68, 86, 87, 99, 102, 112, 115, 118, 119, 120, 121, 122, 125, 126, 127, 130, 131, 132, 135, 136, 137, 138, 139, 142, 143, 144, 147, 148, 149, 152, 153, 154, 155, 156, 172, 179, 188, 196, 203, 208, 215, 222, 223, 226, 227, 230, 231, 232, 233, 234, 237, 238, 239, 240, 241, 244, 245, 246, 247, 248] : List Addr) ++ ([251, 252, 253, 256, 257, 258, 261, 262, 263, 264, 265, 268, 269, 270, 271, 272, 275, 276, 277, 47, 66, 85, 171, 177, 178, 187, 195, 202, 207, 214, 221, 42, 43, 44, 45, 46, 61, 62, 63, 64, 65, 80, 81, 82, 83, 84, 166, 167, 168, 169, 170, 176, 180, 186, 194, 197, 198, 199, 200, 201] : List Addr) ++ ([204, 205, 206, 209, 210, 211, 212, 213, 216, 217, 218, 219, 220, 173, 174, 175, 181, 182, 183, 184, 185, 189, 190, 191, 192, 193] : List Addr)
abbrev R : PySem.W.OpenRow := PySem.W.OpenLaw.row PySem.Challenge.rw_guardhopes_k02_machines_made
abbrev hk : PySem.W.Hook := hookL fad fns exK
def ob (s : PySem.W.SharedT) : QA := obL fad fns exK (HandSHeadRun.getT s)
def loose : List Str := (["_wall", "BadValue", "InvalidText", "InvalidLetters", "InvalidStates", "BadName", "NoAnswer", "MOST_LETTERS", "MOST_STATES", "MOST_COLOUR", "ALPHABET", "DIGITS", "is_number", "is_letters", "is_state", "first_wrong_state", "state_row", "told_state", "told_letters", "Machine", "_law_bag", "_law_take", "_law_signs", "_law_rows", "_law_page"] : List Str) ++ (["_law_right", "_law_quiet"] : List Str)
theorem run (w : World) : HandSHeadRun.RunEq R (PySem.W.view R.prog [30]) hk ob 6000 loose w := by
  intro os
  kernel_rfl
end DL

set_option maxHeartbeats 1000000

set_option maxHeartbeats 1000000

set_option maxHeartbeats 1000000
namespace DL
open PySem PySem.Spec PyProof.Rows L2
abbrev one (c : Nat) : Str := ⟨#[c]⟩
end DL

set_option maxHeartbeats 1000000

set_option maxHeartbeats 1000000

set_option maxHeartbeats 1000000

set_option maxHeartbeats 1000000

set_option maxHeartbeats 1000000

set_option maxHeartbeats 1000000

set_option maxHeartbeats 1000000

set_option maxHeartbeats 1000000
namespace DL
open PySem PySem.Spec PyProof.Rows L2
section
variable {sc : Int → List Int} {ok ok' : Int → Prop}
/-- one or more steps, all behind the first number by numbers that are ok -/
inductive Pth (sc : Int → List Int) (ok : Int → Prop) : Int → Int → Prop
  | one {a b : Int} : b ∈ sc a → ok b → Pth sc ok a b
  | step {a b c : Int} : b ∈ sc a → ok b → Pth sc ok b c → Pth sc ok a c
theorem Pth.trans {a b c : Int} (h : Pth sc ok a b) (h' : Pth sc ok b c) : Pth sc ok a c := by
  induction h with
  | one h1 h2 => exact .step h1 h2 h'
  | step h1 h2 _ ih => exact .step h1 h2 (ih h')
theorem Pth.mono {a b : Int} (h : Pth sc ok a b) (f : ∀ x, ok x → ok' x) : Pth sc ok' a b := by
  induction h with
  | one h1 h2 => exact .one h1 (f _ h2)
  | step h1 h2 _ ih => exact .step h1 (f _ h2) ih
theorem Pth.first {a b : Int} (h : Pth sc ok a b) : ∃ c, c ∈ sc a ∧ ok c ∧ (c = b ∨ Pth sc ok c b) := by
  cases h with
  | one h1 h2 => exact ⟨_, h1, h2, .inl rfl⟩
  | step h1 h2 h3 => exact ⟨_, h1, h2, .inr h3⟩
end
end DL

set_option maxHeartbeats 1000000
namespace DL
open PySem PySem.Spec PyProof.Rows L2
inductive Via (sc : Int → List Int) (mid : Int → Prop) : Int → Int → Prop
  | one {a b : Int} : b ∈ sc a → Via sc mid a b
  | step {a b c : Int} : b ∈ sc a → mid b → Via sc mid b c → Via sc mid a c
section
variable {sc : Int → List Int} {mid mid' : Int → Prop}
theorem Via.mono {a b : Int} (h : Via sc mid a b) (f : ∀ x, mid x → mid' x) : Via sc mid' a b := by
  induction h with
  | one h1 => exact .one h1
  | step h1 h2 _ ih => exact .step h1 (f _ h2) ih
theorem Via.trans {a m b : Int} (h : Via sc mid a m) (hm : mid m) (h' : Via sc mid m b) : Via sc mid a b := by
  induction h with
  | one h1 => exact .step h1 hm h'
  | step h1 h2 _ ih => exact .step h1 h2 (ih hm h')
theorem Via.split {m a b : Int} (h : Via sc (fun x => mid x ∨ x = m) a b) : Via sc mid a b ∨ (Via sc mid a m ∧ Via sc mid m b) := by
  induction h with
  | one h1 => exact .inl (.one h1)
  | step h1 h2 _ ih =>
    rcases h2 with h2 | rfl
    · rcases ih with ih | ⟨i1, i2⟩
      · exact .inl (.step h1 h2 ih)
      · exact .inr ⟨.step h1 h2 i1, i2⟩
    · rcases ih with ih | ⟨_, i2⟩
      · exact .inr ⟨.one h1, ih⟩
      · exact .inr ⟨.one h1, i2⟩
end
/-- numbers of a graph, each once -/
structure Ns (n : Nat) (ns : List Int) : Prop where
  nd : ns.Nodup
  lo : ∀ k ∈ ns, 0 ≤ k ∧ k < n
theorem Ns.len {n : Nat} {ns : List Int} (h : Ns n ns) : ns.length ≤ n := by
  have h1 : (ns.map Int.toNat).Nodup := by
    have nd := h.nd
    have lo := h.lo
    clear h
    induction ns with
    | nil => exact List.nodup_nil
    | cons k ns ih =>
      obtain ⟨a, b⟩ := List.nodup_cons.mp nd
      rw [List.map_cons]
      refine List.nodup_cons.mpr ⟨fun hm => ?_, ih b fun k hk => lo k (List.mem_cons_of_mem _ hk)⟩
      obtain ⟨j, hj, e⟩ := List.mem_map.mp hm
      have z1 := lo k List.mem_cons_self
      have z2 := lo j (List.mem_cons_of_mem _ hj)
      have : j = k := by omega
      subst this
      exact a hj
  have h2 : ∀ x ∈ ns.map Int.toNat, x < n := fun x hx => by
    obtain ⟨k, hk, rfl⟩ := List.mem_map.mp hx
    have := h.lo k hk
    omega
  have : ∀ (l : List Nat) (n : Nat), l.Nodup → (∀ x ∈ l, x < n) → l.length ≤ n := by
    intro l n
    induction n generalizing l with
    | zero =>
      intro _ h
      cases l with
      | nil => exact Nat.le_refl _
      | cons a l => exact absurd (h a List.mem_cons_self) (Nat.not_lt_zero _)
    | succ n ih =>
      intro nd h
      have i1 := ih (l.erase n) (nd.erase n) (fun x hx => by
        have h1 := h x (List.mem_of_mem_erase hx)
        have h2 : x ≠ n := fun e => by
          subst e
          exact (List.Nodup.mem_erase_iff nd).mp hx |>.1 rfl
        omega)
      have : l.length ≤ (l.erase n).length + 1 := by
        rw [List.length_erase]
        split <;> omega
      omega
  have := this _ _ h1 h2
  rwa [List.length_map] at this
end DL

set_option maxHeartbeats 1000000

set_option maxHeartbeats 1000000

set_option maxHeartbeats 1000000
namespace DL
open PySem PySem.Spec PyProof.Rows L2
def bth (β : Int → Nat) (a k : Int) : Bool := (β a).testBit k.toNat && (β k).testBit a.toNat
def cls (ns : List Int) (β : Int → Nat) (a : Int) : List Int := ns.filter (bth β a)
end DL

set_option maxHeartbeats 1000000

set_option maxHeartbeats 1000000

set_option maxHeartbeats 1000000

set_option maxHeartbeats 1000000

set_option maxHeartbeats 1000000

set_option maxHeartbeats 1000000

set_option maxHeartbeats 1000000

set_option maxHeartbeats 1000000

set_option maxHeartbeats 1000000

set_option maxHeartbeats 1000000

set_option maxHeartbeats 1000000
namespace DL
open PySem PySem.Spec PyProof.Rows L2
/-- numbers below n, not too many -/
structure NsW (n : Nat) (ns : List Int) : Prop where
  len : ns.length ≤ n
  lo : ∀ k ∈ ns, 0 ≤ k ∧ k < n
theorem Ns.w {n : Nat} {ns : List Int} (h : Ns n ns) : NsW n ns := ⟨h.len, h.lo⟩
end DL

set_option maxHeartbeats 1000000

set_option maxHeartbeats 1000000

set_option maxHeartbeats 1000000

set_option maxHeartbeats 1000000

set_option maxHeartbeats 1000000

set_option maxHeartbeats 1000000

set_option maxHeartbeats 1000000

set_option maxHeartbeats 1000000
namespace DL
open PySem PySem.Spec PyProof.Rows L2
structure ShP (p : PyData) (k n : Nat) : Prop where
  sh : p.showable = true
  nd : p.hasDict = false
  dp : p.depth ≤ k
  ln : p.shown.length ≤ n
  ok : PyData.strOk p.shown = true
def ShB (d : D) (k n : Nat) : Prop := ∃ p, d.pd = some p ∧ ShP p k n
theorem ShP.mono {p : PyData} {k n k' n' : Nat} (h : ShP p k n) (hk : k ≤ k') (hn : n ≤ n') : ShP p k' n' := ⟨h.sh, h.nd, Nat.le_trans h.dp hk, Nat.le_trans h.ln hn, h.ok⟩
theorem ShB.mono {d : D} {k n k' n' : Nat} (h : ShB d k n) (hk : k ≤ k') (hn : n ≤ n') : ShB d k' n' := by
  obtain ⟨p, a, b⟩ := h
  exact ⟨p, a, b.mono hk hn⟩
end DL

set_option maxHeartbeats 1000000

set_option maxHeartbeats 1000000

set_option maxHeartbeats 1000000

set_option maxHeartbeats 1000000

set_option maxHeartbeats 0
open PySem PySem.W PySem.Calls PyProof.Rows
end
set_option Elab.async false
set_option linter.all false
set_option maxRecDepth 100000
set_option maxHeartbeats 4000000
namespace DL
open PySem PySem.Spec PyProof.Rows L2



section
variable {K : PySem.W.Frag} {ba : Option Addr} {S S' : Hp}
theorem DRs.app : ∀ {vs ws : List V} {ds es : List D}, DRs K ba S vs ds → DRs K ba S ws es → DRs K ba S (vs ++ ws) (ds ++ es)
  | _, _, [], _, h, h' => by cases h; exact h'
  | _, _, d :: ds, _, h, h' => by
    cases h with
    | cons h1 h2 => exact .cons h1 (DRs.app h2 h')
theorem DRs.take : ∀ {vs : List V} {ds : List D} (n : Nat), DRs K ba S vs ds → DRs K ba S (vs.take n) (ds.take n)
  | _, _, 0, _ => by simpa using DRs.nil
  | _, [], n + 1, h => by cases h; exact .nil
  | _, d :: ds, n + 1, h => by
    cases h with
    | cons h1 h2 => exact .cons h1 (DRs.take n h2)
theorem DRs.drop : ∀ {vs : List V} {ds : List D} (n : Nat), DRs K ba S vs ds → DRs K ba S (vs.drop n) (ds.drop n)
  | _, _, 0, h => by simpa using h
  | _, [], n + 1, h => by cases h; exact .nil
  | _, d :: ds, n + 1, h => by
    cases h with
    | cons h1 h2 => exact DRs.drop n h2
theorem DRs.set : ∀ {vs : List V} {ds : List D} (i : Nat) {v : V} {d : D}, DRs K ba S vs ds → DR K ba S v d → DRs K ba S (vs.set i v) (ds.set i d)
  | _, [], _, _, _, h, _ => by cases h; exact .nil
  | _, _ :: _, 0, _, _, h, r => by
    cases h with
    | cons _ h2 => exact .cons r h2
  | _, _ :: _, i + 1, _, _, h, r => by
    cases h with
    | cons h1 h2 => exact .cons h1 (DRs.set i h2 r)
end

theorem ODR.dr {K : PySem.W.Frag} {ba : Option Addr} {S : Hp} {u : HO} {d : D} {p : Addr} {o : Obj} (h : ODR K ba S u d) (e : S p = some (lockU o u)) : DR K ba S (.ref p) d := by
  cases h with
  | lst r => exact .lst e r
  | ins h r => exact .ins e h r
  | dct h r => exact .dct e h r
  | dtp h r => exact .dtp e h r
theorem upd_at {H : Hp} {p : Addr} {u : HO} (h : H p = some u) : upd H p u = H := by
  funext b
  by_cases e : b = p
  · subst e; rw [upd_same, h]
  · rw [upd_ne e]

section
variable {K : PySem.W.Frag} {ba : Option Addr} {S S' H H' : Hp} {σ : L2.St} {ρ : Env} {O : List Addr}
theorem ODR.nt {u : HO} {d : D} (r : ODR K ba S u d) (xs : List V) : u ≠ .tup xs := fun z => by
  subst z
  cases r
theorem Slots.thereO (s : Slots K ba S H σ ρ O) : ∀ p ∈ O, ∃ u, H p = some u ∧ ∀ xs, u ≠ .tup xs := by
  induction s with
  | nil => intro p hp; cases hp
  | no _ ih => exact ih
  | sh _ _ ih => exact ih
  | ow h1 h2 _ ih =>
    intro p hp
    rcases List.mem_cons.mp hp with e | hp
    · subst e; exact ⟨_, h1, h2.nt⟩
    · exact ih p hp
/-- an owned slot: its list; writing it -/
theorem Slots.getOw : ∀ {σ : L2.St} {ρ : Env} {O : List Addr} {i : Nat} {d : D}, Slots K ba S H σ ρ O → ρ[i]? = some (some (.ow d)) → ∃ p u, σ[i]? = some (some (.ref p)) ∧ H p = some u ∧ ODR K ba S u d ∧ p ∈ O
  | _, _, _, _, _, .nil, e => by simp at e
  | _, _, _, 0, _, .no _, e => by simp at e
  | _, _, _, 0, _, .sh r _, e => by simp at e
  | _, _, _, 0, _, .ow h1 h2 _, e => by
    simp at e
    subst e
    exact ⟨_, _, rfl, h1, h2, List.mem_cons_self⟩
  | _, _, _, i + 1, _, .no s, e => by
    obtain ⟨p, vs, a, h1, h2, h3⟩ := Slots.getOw (i := i) s (by simpa using e)
    exact ⟨p, vs, by simpa using a, h1, h2, h3⟩
  | _, _, _, i + 1, _, .sh _ s, e => by
    obtain ⟨p, vs, a, h1, h2, h3⟩ := Slots.getOw (i := i) s (by simpa using e)
    exact ⟨p, vs, by simpa using a, h1, h2, h3⟩
  | _, _, _, i + 1, _, .ow _ _ s, e => by
    obtain ⟨p, vs, a, h1, h2, h3⟩ := Slots.getOw (i := i) s (by simpa using e)
    exact ⟨p, vs, by simpa using a, h1, h2, List.mem_cons_of_mem _ h3⟩
/-- a slot is given a shared value -/
theorem Slots.setSh {v : V} {d : D} (r : DR K ba S v d) : ∀ {σ : L2.St} {ρ : Env} {O : List Addr} {i : Nat}, Slots K ba S H σ ρ O → ∃ O', Slots K ba S H (σ.set i (some v)) (ρ.set i (some (.sh d))) O' ∧ (O'.Sublist O)
  | _, _, _, _, .nil => ⟨[], .nil, .refl _⟩
  | _, _, _, 0, .no s => ⟨_, .sh r s, .refl _⟩
  | _, _, _, 0, .sh _ s => ⟨_, .sh r s, .refl _⟩
  | _, _, _, 0, .ow _ _ s => ⟨_, .sh r s, List.sublist_cons_self _ _⟩
  | _, _, _, i + 1, .no s => by
    obtain ⟨O', h, l⟩ := Slots.setSh r (i := i) s
    exact ⟨O', .no h, l⟩
  | _, _, _, i + 1, .sh q s => by
    obtain ⟨O', h, l⟩ := Slots.setSh r (i := i) s
    exact ⟨O', .sh q h, l⟩
  | _, _, _, i + 1, .ow h1 h2 s => by
    obtain ⟨O', h, l⟩ := Slots.setSh r (i := i) s
    exact ⟨_, .ow h1 h2 h, l.cons_cons _⟩
/-- a slot is given an owned list -/
theorem Slots.setOw {p : Addr} {u : HO} {d : D} (hp : H p = some u) (r : ODR K ba S u d) : ∀ {σ : L2.St} {ρ : Env} {O : List Addr} {i : Nat}, Slots K ba S H σ ρ O → p ∉ O → O.Nodup → ∃ O', Slots K ba S H (σ.set i (some (.ref p))) (ρ.set i (some (.ow d))) O' ∧ O'.Nodup ∧ (∀ q ∈ O', q = p ∨ q ∈ O)
  | _, _, _, _, .nil, _, _ => ⟨[], .nil, List.nodup_nil, fun q hq => by cases hq⟩
  | _, _, O, 0, .no s, n, nd => ⟨_, .ow hp r s, List.nodup_cons.mpr ⟨n, nd⟩, fun q hq => by simpa using hq⟩
  | _, _, O, 0, .sh _ s, n, nd => ⟨_, .ow hp r s, List.nodup_cons.mpr ⟨n, nd⟩, fun q hq => by simpa using hq⟩
  | _, _, _ :: O, 0, .ow _ _ s, n, nd => ⟨_, .ow hp r s, List.nodup_cons.mpr ⟨fun z => n (List.mem_cons_of_mem _ z), (List.nodup_cons.mp nd).2⟩, fun q hq => by
    rcases List.mem_cons.mp hq with z | z
    · exact .inl z
    · exact .inr (List.mem_cons_of_mem _ z)⟩
  | _, _, _, i + 1, .no s, n, nd => by
    obtain ⟨O', h, l, m⟩ := Slots.setOw hp r (i := i) s n nd
    exact ⟨O', .no h, l, m⟩
  | _, _, _, i + 1, .sh q s, n, nd => by
    obtain ⟨O', h, l, m⟩ := Slots.setOw hp r (i := i) s n nd
    exact ⟨O', .sh q h, l, m⟩
  | _, _, _, i + 1, .ow h1 h2 s, n, nd => by
    obtain ⟨O', h, l, m⟩ := Slots.setOw hp r (i := i) s (fun z => n (List.mem_cons_of_mem _ z)) (List.nodup_cons.mp nd).2
    refine ⟨_, .ow h1 h2 h, List.nodup_cons.mpr ⟨fun z => ?_, l⟩, fun q hq => ?_⟩
    · rcases m _ z with e | e
      · exact n (by rw [e]; exact List.mem_cons_self)
      · exact (List.nodup_cons.mp nd).1 e
    · rcases List.mem_cons.mp hq with e | e
      · exact .inr (by rw [e]; exact List.mem_cons_self)
      · rcases m _ e with z | z
        · exact .inl z
        · exact .inr (List.mem_cons_of_mem _ z)
/-- the owned list of a slot is written: the others stand -/
theorem Slots.write {p : Addr} {u' : HO} {d' : D} (r : ODR K ba S u' d') : ∀ {σ : L2.St} {ρ : Env} {O : List Addr} {i : Nat}, Slots K ba S H σ ρ O → O.Nodup → σ[i]? = some (some (.ref p)) → p ∈ O → (∃ ds, ρ[i]? = some (some (.ow ds))) → Slots K ba S (upd H p u') σ (ρ.set i (some (.ow d'))) O
  | _, _, _, _, .nil, _, e, _, _ => by simp at e
  | _, _, _, 0, .no _, _, _, _, e => by obtain ⟨_, e⟩ := e; simp at e
  | _, _, _, 0, .sh _ _, _, _, _, e => by obtain ⟨_, e⟩ := e; simp at e
  | _, _, _, 0, .ow h1 h2 s, nd, e, _, _ => by
    simp at e
    subst e
    refine .ow upd_same r (s.mono (Same.refl _) fun q hq vs z => ?_)
    rw [upd_ne (fun y => (List.nodup_cons.mp nd).1 (by rw [← y]; exact hq))]
    exact z
  | _, _, _, i + 1, .no s, nd, e, hp, o => .no (Slots.write r (i := i) s nd (by simpa using e) hp (by simpa using o))
  | _, _, _, i + 1, .sh q s, nd, e, hp, o => .sh q (Slots.write r (i := i) s nd (by simpa using e) hp (by simpa using o))
  | _, _, _, i + 1, .ow (p := p') h1 h2 s, nd, e, hp, o => by
    have o' : ∃ ds, _ := o
    have e' := e
    simp only [List.getElem?_cons_succ] at e' o'
    obtain ⟨ds, o'⟩ := o'
    obtain ⟨q, vs, a, _, _, hq⟩ := s.getOw o'
    rw [e'] at a
    cases a
    have ne : p' ≠ p := fun z => (List.nodup_cons.mp nd).1 (by rw [z]; exact hq)
    refine .ow ?_ h2 (Slots.write r (i := i) s (List.nodup_cons.mp nd).2 e' hq ⟨ds, o'⟩)
    rw [upd_ne ne]
    exact h1
end
end DL

set_option maxHeartbeats 4000000
namespace DL
open PySem PySem.Spec PyProof.Rows L2
@[simp] def wipeE (ρ : Env) : List Nat → Env
  | [] => ρ
  | v :: vs => (wipeE ρ vs).set v none
section
variable {K : PySem.W.Frag} {C : Cq} {S S' H H' : Hp} {σ : L2.St} {ρ : Env} {b b' : Bag} {p : Addr} {u : HO}
theorem same_upd {S : Hp} (hp : S p = none) : Same S (upd S p u) := fun a x e => by
  rw [upd_ne (ne_of_none e hp)]; exact e
theorem Core.alloc (o : Core C S b H) (hp : H p = none) : Core C (upd S p u) b (upd H p u) := by
  refine ⟨fun a x e => ?_, fun a x e hb => ?_, fun a e => ?_, fun a x e => ?_⟩
  · by_cases h : a = p
    · subst h; rw [upd_same] at e ⊢; exact e
    · rw [upd_ne h] at e ⊢; exact o.sub a x e
  · have h := o.fr a x e hb
    rw [upd_ne (ne_of_none h hp)]; exact h
  · obtain ⟨h1, h2⟩ := o.bag a e
    have n := ne_of_none h1 hp
    exact ⟨by rw [upd_ne n]; exact h1, by rw [upd_ne n]; exact h2⟩
  · by_cases h : a = p
    · subst h; exact .inr (.inl (o.h0 hp))
    · rw [upd_ne h] at e; exact o.new a x e
/-- an object that is not shared is written -/
theorem Core.write (o : Core C S b H) (h1 : S p = none) (h2 : C.H0 p = none) (h3 : C.ba ≠ some p) : Core C S b (upd H p u) := by
  refine ⟨fun a x e => ?_, fun a x e hb => ?_, fun a e => ?_, o.new⟩
  · rw [upd_ne (ne_of_none e h1)]; exact o.sub a x e
  · rw [upd_ne (ne_of_none e h2)]; exact o.fr a x e hb
  · obtain ⟨q1, q2⟩ := o.bag a e
    exact ⟨by rw [upd_ne (fun z => h3 (by rw [← z]; exact e))]; exact q1, q2⟩
theorem Core.shareL {u' : HO} (o : Core C S b H) (h1 : S p = none) (h2 : C.H0 p = none) (h3 : C.ba ≠ some p) : Core C (upd S p u') b (upd H p u') := by
  refine ⟨fun a x e => ?_, fun a x e hb => ?_, fun a e => ?_, fun a x e => ?_⟩
  · by_cases z : a = p
    · subst z; rw [upd_same] at e ⊢; exact e
    · rw [upd_ne z] at e ⊢; exact o.sub a x e
  · rw [upd_ne (ne_of_none e h2)]; exact o.fr a x e hb
  · obtain ⟨q1, q2⟩ := o.bag a e
    have n : a ≠ p := fun z => h3 (by rw [← z]; exact e)
    exact ⟨by rw [upd_ne n]; exact q1, by rw [upd_ne n]; exact q2⟩
  · by_cases z : a = p
    · subst z; exact .inr (.inl h2)
    · rw [upd_ne z] at e; exact o.new a x e
theorem Core.share (o : Core C S b H) (h : H p = some u) (h1 : S p = none) (h2 : C.H0 p = none) (h3 : C.ba ≠ some p) : Core C (upd S p u) b H := by
  have := o.shareL (u' := u) h1 h2 h3
  rw [upd_at h] at this
  exact this
theorem OkS.alloc (o : OkS K C S ρ b σ H) (hp : H p = none) : OkS K C (upd S p u) ρ b σ (upd H p u) := by
  obtain ⟨c, O, s, w⟩ := o
  have ne : ∀ q ∈ O, q ≠ p := fun q hq => by
    obtain ⟨vs, h⟩ := s.there q hq
    exact ne_of_none h hp
  refine ⟨c.alloc hp, O, s.mono (same_upd (c.sn hp)) (fun q hq _ h => by rw [upd_ne (ne q hq)]; exact h), w.nd, fun q hq => ?_⟩
  rw [upd_ne (ne q hq)]
  exact w.al q hq
theorem OkS.same (o : OkS K C S ρ b σ H) (hp : H p = none) : Same S (upd S p u) := same_upd (o.core.sn hp)
theorem OkS.setSh {i : Nat} {v : V} {d : D} (o : OkS K C S ρ b σ H) (r : DR K C.ba S v d) : OkS K C S (ρ.set i (some (.sh d))) b (σ.set i (some v)) H := by
  obtain ⟨c, O, s, w⟩ := o
  obtain ⟨O', s', l⟩ := s.setSh r (i := i)
  exact ⟨c, O', s', w.sub l⟩
theorem Slots.setNo {ba : Option Addr} : ∀ {σ : L2.St} {ρ : Env} {O : List Addr} {i : Nat}, Slots K ba S H σ ρ O → ∃ O', Slots K ba S H (σ.set i none) (ρ.set i none) O' ∧ (O'.Sublist O)
  | _, _, _, _, .nil => ⟨[], .nil, .refl _⟩
  | _, _, _, 0, .no s => ⟨_, .no s, .refl _⟩
  | _, _, _, 0, .sh _ s => ⟨_, .no s, .refl _⟩
  | _, _, _, 0, .ow _ _ s => ⟨_, .no s, List.sublist_cons_self _ _⟩
  | _, _, _, i + 1, .no s => by
    obtain ⟨O', h, l⟩ := Slots.setNo (i := i) s
    exact ⟨O', .no h, l⟩
  | _, _, _, i + 1, .sh q s => by
    obtain ⟨O', h, l⟩ := Slots.setNo (i := i) s
    exact ⟨O', .sh q h, l⟩
  | _, _, _, i + 1, .ow h1 h2 s => by
    obtain ⟨O', h, l⟩ := Slots.setNo (i := i) s
    exact ⟨_, .ow h1 h2 h, l.cons_cons _⟩
theorem OkS.setNo {i : Nat} (o : OkS K C S ρ b σ H) : OkS K C S (ρ.set i none) b (σ.set i none) H := by
  obtain ⟨c, O, s, w⟩ := o
  obtain ⟨O', s', l⟩ := s.setNo (i := i)
  exact ⟨c, O', s', w.sub l⟩
theorem OkS.wipe (o : OkS K C S ρ b σ H) : ∀ vs : List Nat, OkS K C S (wipeE ρ vs) b (L2.wipe σ vs) H
  | [] => o
  | v :: vs => (OkS.wipe o vs).setNo
theorem OkF.shareL {u' : HO} (o : OkF K C S ρ b σ H p u) : OkS K C (upd S p u') ρ b σ (upd H p u') := by
  obtain ⟨c, h1, h2, h3, h4, O, s, w, n⟩ := o
  refine ⟨c.shareL h2 h3 h4, O, s.mono (same_upd h2) (fun q hq vs h => by rw [upd_ne (fun z => n (by rw [← z]; exact hq))]; exact h), w.nd, fun q hq => ?_⟩
  rw [upd_ne (fun z => n (by rw [← z]; exact hq))]
  exact w.al q hq
theorem OkF.same {u' : HO} (o : OkF K C S ρ b σ H p u) : Same S (upd S p u') := same_upd o.sn
theorem OkF.setOw {d : D} {i : Nat} (o : OkF K C S ρ b σ H p u) (r : ODR K C.ba S u d) : OkS K C S (ρ.set i (some (.ow d))) b (σ.set i (some (.ref p))) H := by
  obtain ⟨c, h1, h2, h3, h4, O, s, w, n⟩ := o
  obtain ⟨O', s', nd, m⟩ := s.setOw h1 r (i := i) n w.nd
  refine ⟨c, O', s', nd, fun q hq => ?_⟩
  rcases m q hq with e | e
  · subst e; exact ⟨h2, h3, h4⟩
  · exact w.al q e
/-- an owned slot -/
theorem OkS.getOw {i : Nat} {d : D} (o : OkS K C S ρ b σ H) (e : ρ[i]? = some (some (.ow d))) :
    ∃ p u, σ[i]? = some (some (.ref p)) ∧ H p = some u ∧ ODR K C.ba S u d ∧ S p = none ∧ C.H0 p = none ∧ C.ba ≠ some p ∧
      (∀ u' d', ODR K C.ba S u' d' → OkS K C S (ρ.set i (some (.ow d'))) b σ (upd H p u')) ∧ ∀ od, OkS K C (upd S p (lockU od u)) (ρ.set i (some (.sh d))) b σ (upd H p (lockU od u)) := by
  obtain ⟨c, O, s, w⟩ := o
  obtain ⟨p, u, e1, h1, h2, hp⟩ := s.getOw e
  obtain ⟨a1, a2, a3⟩ := w.al p hp
  refine ⟨p, u, e1, h1, h2, a1, a2, a3, fun u' d' r => ⟨c.write a1 a2 a3, O, s.write r w.nd e1 hp ⟨_, e⟩, w⟩, fun od => ⟨c.shareL a1 a2 a3, ?_⟩⟩
  -- the slot's own address is owned no more
  have hl : i < σ.length := (List.getElem?_eq_some_iff.mp e1).1
  have es : σ.set i (some (.ref p)) = σ := by
    apply List.ext_getElem?
    intro j
    by_cases hj : i = j
    · subst hj; rw [List.getElem?_set_self hl, e1]
    · rw [List.getElem?_set_ne hj]
  have key : ∀ {σ : L2.St} {ρ : Env} {O : List Addr} {i : Nat} {d : D}, Slots K C.ba S H σ ρ O → O.Nodup → (∀ q ∈ O, S q = none) → ρ[i]? = some (some (.ow d)) → σ[i]? = some (some (.ref p)) → p ∈ O →
      ∃ O', Slots K C.ba (upd S p (lockU od u)) (upd H p (lockU od u)) σ (ρ.set i (some (.sh d))) O' ∧ O'.Sublist O ∧ p ∉ O' := by
    intro σ ρ O i d s
    induction s generalizing i with
    | nil => intro _ _ e; simp at e
    | no s ih =>
      intro nd al e e1 hp
      cases i with
      | zero => simp at e
      | succ i =>
        obtain ⟨O', q1, q2, q3⟩ := ih nd al (by simpa using e) (by simpa using e1) hp
        exact ⟨O', .no q1, q2, q3⟩
    | sh r s ih =>
      intro nd al e e1 hp
      cases i with
      | zero => simp at e
      | succ i =>
        obtain ⟨O', q1, q2, q3⟩ := ih nd al (by simpa using e) (by simpa using e1) hp
        exact ⟨O', .sh (r.up (same_upd a1)) q1, q2, q3⟩
    | @ow p' u' d' σ ρ O g1 g2 s ih =>
      intro nd al e e1 hp
      cases i with
      | zero =>
        simp only [List.getElem?_cons_zero, Option.some.injEq, SD.ow.injEq] at e
        simp only [List.getElem?_cons_zero, Option.some.injEq, V.ref.injEq] at e1
        subst e
        subst e1
        rw [h1] at g1
        cases g1
        refine ⟨O, .sh ((g2.up (same_upd a1)).dr upd_same) (s.mono (same_upd a1) fun q hq _ z => by rw [upd_ne (fun y => (List.nodup_cons.mp nd).1 (by rw [← y]; exact hq))]; exact z), List.sublist_cons_self _ _, (List.nodup_cons.mp nd).1⟩
      | succ i =>
        simp only [List.getElem?_cons_succ] at e e1
        obtain ⟨q, ws, f1, _, _, f2⟩ := s.getOw e
        rw [e1] at f1
        cases f1
        obtain ⟨O', q1, q2, q3⟩ := ih (List.nodup_cons.mp nd).2 (fun q hq => al q (List.mem_cons_of_mem _ hq)) e e1 f2
        have ne : p ≠ p' := fun z => (List.nodup_cons.mp nd).1 (by rw [← z]; exact f2)
        refine ⟨p' :: O', .ow (by rw [upd_ne (fun y => ne y.symm)]; exact g1) (g2.up (same_upd a1)) q1, q2.cons_cons _, fun z => ?_⟩
        rcases List.mem_cons.mp z with z | z
        · exact ne z
        · exact q3 z
  obtain ⟨O', q1, q2, q3⟩ := key s w.nd (fun q hq => (w.al q hq).1) e e1 hp
  refine ⟨O', q1, (w.sub q2).nd, fun q hq => ?_⟩
  have ne : q ≠ p := fun z => q3 (by rw [← z]; exact hq)
  rw [upd_ne ne]
  exact (w.sub q2).al q hq
/-- the bag is written -/
theorem OkS.bagW {a : Addr} (o : OkS K C S ρ b σ H) (e : C.ba = some a) : OkS K C S ρ b' σ (upd H a (.lst [.int b'.x, .int b'.y, .int b'.z])) := by
  obtain ⟨c, O, s, w⟩ := o
  obtain ⟨h1, h2⟩ := c.bag a e
  refine ⟨⟨fun q x z => ?_, fun q x z hb => ?_, fun q z => ?_, c.new⟩, O, s.mono (Same.refl _) (fun q hq vs z => ?_), w⟩
  · rw [upd_ne (ne_of_none z h2)]; exact c.sub q x z
  · rw [upd_ne (fun y => hb (by rw [y]; exact e))]; exact c.fr q x z hb
  · rw [e] at z; cases z; exact ⟨upd_same, h2⟩
  · rw [upd_ne (fun y => (w.al q hq).2.2 (by rw [y]; exact e))]; exact z
end

section
variable {K : PySem.W.Frag} {C : Cq} {W : WX} {S S1 : Hp} {ρ : Env} {σ : L2.St} {α β : Type}
theorem OutG.imp {R R' : α → Bag → Hp → Hp → Prop} {o : Out α} (h : OutG K C W S ρ σ R o) (f : ∀ a b S' H', Same S S' → OkS K C S' ρ b σ H' → R a b S' H' → R' a b S' H') : OutG K C W S ρ σ R' o := by
  cases o with
  | ok a b => exact fun S' H' e' ok => f a b S' H' e' ok (h S' H' e' ok)
  | ex c ns ds => exact h
  | stuck => exact h
end

abbrev BF := Env → Bag → Out Bool
/-- an expression; a test; arguments; a fresh list -/
def tD (K : PySem.W.Frag) (C : Cq) (W : WX) (F : EF) : TE := fun σ H Q => ∃ S ρ b, OkS K C S ρ b σ H ∧ OutG K C W S ρ σ (fun d _ S' H' => ∀ v, DR K C.ba S' v d → Q v H') (F ρ b)
def tDt (K : PySem.W.Frag) (C : Cq) (W : WX) (F : BF) : TT := fun σ H Q => ∃ S ρ b, OkS K C S ρ b σ H ∧ OutG K C W S ρ σ (fun k _ _ H' => Q k H') (F ρ b)
def tDA (K : PySem.W.Frag) (C : Cq) (W : WX) (F : AF) : TA := fun σ H Q => ∃ S ρ b, OkS K C S ρ b σ H ∧ OutG K C W S ρ σ (fun ds _ S' H' => ∀ vs, DRs K C.ba S' vs ds → Q vs H') (F ρ b)
/-- an outcome of a fresh list -/
def OutF (K : PySem.W.Frag) (C : Cq) (W : WX) (S : Hp) (ρ : Env) (σ : L2.St) (Q : VK) : Out D → Prop
  | .ok d b => ∀ S' H' p u, Same S S' → OkF K C S' ρ b σ H' p u → ODR K C.ba S' u d → Q (.ref p) H'
  | .ex c ns ds => ∀ (dx : Option Addr) (S' H' : Hp) (b : Bag), Same S S' → OkS K C S' ρ b σ H' → XR K C.ba S' dx ns ds → W (.ref c) dx σ H'
  | .stuck => False
def tDF (K : PySem.W.Frag) (C : Cq) (W : WX) (F : EF) : TE := fun σ H Q => ∃ S ρ b, OkS K C S ρ b σ H ∧ OutF K C W S ρ σ Q (F ρ b)

section
variable {X : Cx} {e : Expr} {t t' : TE}
/-- a thing told is locked behind the expression -/
def LkV (Q : VK) : VK := fun v H => Q v H ∨ ∃ p u, v = .ref p ∧ H p = some u ∧ Mut (some u) ∧ ∀ od, Q v (upd H p (.frz od u))
theorem pe_lk (h : PE X e t) : PE X e (fun σ H Q => t σ H (LkV Q)) := ⟨fun pins s σ H Q I q => thn (h.run pins s σ H _ I q) fun v s1 ⟨x, H1, I2, r, z⟩ => by
  rcases z with z | ⟨p, u, rfl, hp, mu, z⟩
  · exact ⟨x, H1, I2, r, z⟩
  · obtain ⟨od, I3⟩ := I2.lock hp mu
    exact ⟨_, _, I3, r, z od⟩⟩
/-- a thing is locked ahead of a statement -/
def LkS (t : TS) : TS := fun D σ H => t D σ H ∨ ∃ p u, H p = some u ∧ Mut (some u) ∧ ∀ od, t D σ (upd H p (.frz od u))
theorem ps_lk {st : Stmt} {t : TS} (h : PS X st t) : PS X st (LkS t) := ⟨fun pins s σ H D I q => by
  rcases q with q | ⟨p, u, hp, mu, q⟩
  · exact h.run pins s σ H D I q
  · obtain ⟨od, I3⟩ := I.lock hp mu
    exact h.run pins s σ _ D I3 (q od)⟩
/-- .. or behind it -/
def LkN (D : Ends) : Ends := { D with nx := fun σ H => D.nx σ H ∨ ∃ p u, H p = some u ∧ Mut (some u) ∧ ∀ od, D.nx σ (upd H p (.frz od u)) }
theorem ps_lkN {st : Stmt} {t : TS} (h : PS X st t) : PS X st (fun D σ H => t (LkN D) σ H) := ⟨fun pins s σ H D I q => thn (h.run pins s σ H (LkN D) I q) fun f s1 z => by
  cases f with
  | next =>
    obtain ⟨σ', H', I2, z⟩ := z
    rcases z with z | ⟨p, u, hp, mu, z⟩
    · exact ⟨σ', H', I2, z⟩
    · obtain ⟨od, I3⟩ := I2.lock hp mu
      exact ⟨σ', _, I3, z od⟩
  | brk => exact z
  | cont => exact z
  | ret v => exact z⟩
theorem pe_imp (h : PE X e t) (f : ∀ σ H Q, t' σ H Q → t σ H Q) : PE X e t' := ⟨fun pins s σ H Q I q => h.run pins s σ H Q I (f σ H Q q)⟩
theorem pt_imp {t t' : TT} (h : PT X e t) (f : ∀ σ H Q, t' σ H Q → t σ H Q) : PT X e t' := ⟨fun pins s σ H Q I q => h.run pins s σ H Q I (f σ H Q q)⟩
theorem pw_imp {t t' : TT} (h : PW X e t) (f : ∀ σ H Q, t' σ H Q → t σ H Q) : PW X e t' := ⟨fun wh pins s σ H Q I q => h.run wh pins s σ H Q I (f σ H Q q)⟩
theorem pa_imp {es : List Expr} {t t' : TA} (h : PA X es t) (f : ∀ σ H Q, t' σ H Q → t σ H Q) : PA X es t' := ⟨fun pos pins s σ H Q I q => h.run pos pins s σ H Q I (f σ H Q q)⟩
theorem ps_imp {st : Stmt} {t t' : TS} (h : PS X st t) (f : ∀ D σ H, t' D σ H → t D σ H) : PS X st t' := ⟨fun pins s σ H D I q => h.run pins s σ H D I (f D σ H q)⟩
theorem pss_imp {st : List Stmt} {t t' : TS} (h : PSs X st t) (f : ∀ D σ H, t' D σ H → t D σ H) : PSs X st t' := ⟨fun pins s σ H D I q => h.run pins s σ H D I (f D σ H q)⟩
theorem pg_imp {tg : Expr} {t t' : TG} (h : PG X tg t) (f : ∀ v σ H Q, t' v σ H Q → t v σ H Q) : PG X tg t' := ⟨fun pins s σ H v u Q I r q => h.run pins s σ H v u Q I r (f v σ H Q q)⟩
theorem pi_imp {tg it : Expr} {t t' : TI} (h : PI X tg it t) (f : ∀ σ H R, t' σ H R → t σ H R) : PI X tg it t' := ⟨fun pins s σ H R I q => h.run pins s σ H R I (f σ H R q)⟩
end

section
variable {X : Cx} {C : Cq} {W : WX} {e a b c : Expr} {pos : Pos} {F Fa Fb Fc : EF}
/-- a fresh list as a value -/
theorem d_share (h : PE X e (tDF X.K C W F)) : PE X e (tD X.K C W F) := pe_imp (pe_lk h) fun σ H Q ⟨S, ρ, b, ok, q⟩ => by
  refine ⟨S, ρ, b, ok, ?_⟩
  cases hF : F ρ b with
  | ok d b' =>
    rw [hF] at q
    intro S' H' p u es of r
    rcases r.how with hw | ⟨mu, hw⟩
    · have q' := q _ _ (es.trans of.same) (of.shareL (u' := lockU default u)) _ ((r.up of.same).dr upd_same)
      rw [hw default, upd_at of.at_] at q'
      exact .inl q'
    · refine .inr ⟨p, u, rfl, of.at_, mu, fun od => ?_⟩
      have q' := q _ _ (es.trans of.same) (of.shareL (u' := lockU od u)) _ ((r.up of.same).dr upd_same)
      rw [hw od] at q'
      exact q'
  | ex c ns ds => rw [hF] at q; exact q
  | stuck => rw [hF] at q; exact q
@[simp] def eV (i : Nat) : EF := fun ρ b => match ρ[i]? with
  | some (some (.sh d)) => .ok d b
  | _ => .stuck
theorem d_var {x : Str} {i : Nat} (h : PE X (.Name x pos) (tVar i)) : PE X (.Name x pos) (tD X.K C W (eV i)) := pe_imp h fun σ H Q ⟨S, ρ, b, ok, q⟩ => by
  unfold eV at q
  cases hr : ρ[i]? with
  | none => rw [hr] at q; exact q.elim
  | some o =>
    cases o with
    | none => rw [hr] at q; exact q.elim
    | some s =>
      cases s with
      | ow ds => rw [hr] at q; exact q.elim
      | sh d =>
        rw [hr] at q
        obtain ⟨v, hv, r⟩ := ok.get hr
        exact ⟨v, hv, q S H (Same.refl _) ok v r⟩
@[simp] def eC (d : D) : EF := fun _ b => .ok d b
theorem d_const {v : V} {d : D} (h : PE X e (tC v)) (r : ∀ S, DR X.K C.ba S v d) : PE X e (tD X.K C W (eC d)) := pe_imp h fun σ H Q ⟨S, ρ, b, ok, q⟩ => q S H (Same.refl _) ok v (r S)
@[simp] def e2 (f : D → D → Option D) (Fa Fb : EF) : EF := fun ρ b => (Fa ρ b).bind fun x b1 => (Fb ρ b1).bind fun y b2 => Out.pureO (f x y) b2
theorem tOp_of {r : R2} {f : D → D → Option D} (hf : Op2 X.K C r f) {σ : L2.St} {H : Hp} {Q : VK} (h : tD X.K C W (e2 f Fa Fb) σ H Q) : tOp r (tD X.K C W Fa) (tD X.K C W Fb) σ H Q := by
  obtain ⟨S, ρ, b, ok, q⟩ := h
  refine ⟨S, ρ, b, ok, q.bind.imp fun x b1 S1 H1 s1 ok1 q1 v r1 => ⟨S1, ρ, b1, ok1, q1.bind.imp fun y b2 S2 H2 s2 ok2 q2 w r2 => ?_⟩⟩
  obtain ⟨z, hz, q3⟩ := q2.pureO
  exact hf S2 ρ b2 σ H2 v w x y z Q ok2 (r1.up s2) r2 hz fun u S' H' e o r => q3 S' H' e o u r
theorem d_op {op : Operator} {r : R2} {f : D → D → Option D} (ho : OpR X (binaryOp op) r) (hf : Op2 X.K C r f) (ha : PE X a (tD X.K C W Fa)) (hb : PE X b (tD X.K C W Fb)) : PE X (.BinOp a op b pos) (tD X.K C W (e2 f Fa Fb)) :=
  pe_imp (pe_op ho ha hb) fun _ _ _ h => tOp_of hf h
theorem d_cmp {op : CmpOp} {r : R2} {f : D → D → Option D} (ho : OpR X (compareOp op) r) (hf : Op2 X.K C r f) (ha : PE X a (tD X.K C W Fa)) (hb : PE X b (tD X.K C W Fb)) (hm : behindInMarks op b = false) : PE X (.Compare a [op] [b] pos) (tD X.K C W (e2 f Fa Fb)) :=
  pe_imp (pe_cmpR ho ha hb hm) fun _ _ _ h => tOp_of hf h
/-- a value as a test: a truth -/
@[simp] def bB (F : EF) : BF := fun ρ b => (F ρ b).bind fun d b' => match d with
  | .bl k => .ok k b'
  | _ => .stuck
theorem tTest_of {σ : L2.St} {H : Hp} {Q : Bool → Hp → Prop} (h : tDt X.K C W (bB F) σ H Q) : tD X.K C W F σ H (fun x H' => ∃ k, x = .bl k ∧ Q k H') := by
  obtain ⟨S, ρ, b, ok, q⟩ := h
  refine ⟨S, ρ, b, ok, q.bind.imp fun d b1 S1 H1 s1 ok1 q1 v r1 => ?_⟩
  cases d with
  | bl k => cases r1; exact ⟨k, rfl, q1 S1 H1 (Same.refl _) ok1⟩
  | non => exact q1.elim
  | int _ => exact q1.elim
  | str _ => exact q1.elim
  | tup _ => exact q1.elim
  | lst _ => exact q1.elim
  | fl _ => exact q1.elim
  | ins _ _ _ => exact q1.elim
  | obj _ => exact q1.elim
  | bag => exact q1.elim
  | dct _ _ => exact q1.elim
  | dtp _ _ => exact q1.elim
theorem d_tcmp {op : CmpOp} {r : R2} {f : D → D → Option D} (ho : OpR X (compareOp op) r) (hf : Op2 X.K C r f) (ha : PE X a (tD X.K C W Fa)) (hb : PE X b (tD X.K C W Fb)) (hm : behindInMarks op b = false) : PT X (.Compare a [op] [b] pos) (tDt X.K C W (bB (e2 f Fa Fb))) :=
  pt_imp (pt_cmpR ho ha hb hm) fun _ _ _ h => by
    have h' := tTest_of h
    exact tOp_of hf h'
theorem d_tval (h : PE X e (tD X.K C W F)) (he : ∀ whole, isTrue e X.env whole = (do let v ← whole; standAt e.pos; holding [v] (truthy v)) := by intro _; rfl) : PT X e (tDt X.K C W (bB F)) :=
  pt_imp (pt_val h he) fun _ _ _ h => tTest_of h
variable {Ga Gb : BF} {rest : List Expr}
@[simp] def bAnd (Ga Gb : BF) : BF := fun ρ b => (Ga ρ b).bind fun k b' => if k = true then Gb ρ b' else .ok false b'
@[simp] def bOr (Ga Gb : BF) : BF := fun ρ b => (Ga ρ b).bind fun k b' => if k = true then .ok true b' else Gb ρ b'
@[simp] def bNot (Ga : BF) : BF := fun ρ b => (Ga ρ b).bind fun k b' => .ok (!k) b'
theorem d_not (h : PT X a (tDt X.K C W Ga)) : PT X (.UnaryOp .Not a pos) (tDt X.K C W (bNot Ga)) := pt_imp (pt_not h) fun σ H Q ⟨S, ρ, b, ok, q⟩ =>
  ⟨S, ρ, b, ok, q.bind.imp fun k b1 S1 H1 s1 ok1 q1 => q1 S1 H1 (Same.refl _) ok1⟩
theorem d_or (ha : PT X a (tDt X.K C W Ga)) (hb : PW X (.BoolOp .Or (b :: rest) pos) (tDt X.K C W Gb)) : PW X (.BoolOp .Or (a :: b :: rest) pos) (tDt X.K C W (bOr Ga Gb)) := pw_imp (pw_or ha hb) fun σ H Q ⟨S, ρ, b, ok, q⟩ =>
  ⟨S, ρ, b, ok, q.bind.imp fun k b1 S1 H1 s1 ok1 q1 => by
    cases k with
    | true => exact q1 S1 H1 (Same.refl _) ok1
    | false => exact ⟨S1, ρ, b1, ok1, q1⟩⟩
/-- as values, truths all -/
@[simp] def eAnd (Fa Fb : EF) : EF := fun ρ b => (Fa ρ b).bind fun d b' => match d with
  | .bl k => if k = true then Fb ρ b' else .ok (.bl false) b'
  | _ => .stuck
@[simp] def eOr (Fa Fb : EF) : EF := fun ρ b => (Fa ρ b).bind fun d b' => match d with
  | .bl k => if k = true then .ok (.bl true) b' else Fb ρ b'
  | _ => .stuck
@[simp] def eNot (Fa : EF) : EF := fun ρ b => (Fa ρ b).bind fun d b' => match d with
  | .bl k => .ok (.bl (!k)) b'
  | _ => .stuck
theorem d_eand (ha : PE X a (tD X.K C W Fa)) (hb : PE X (.BoolOp .And (b :: rest) pos) (tD X.K C W Fb)) : PE X (.BoolOp .And (a :: b :: rest) pos) (tD X.K C W (eAnd Fa Fb)) := pe_imp (pe_and ha hb) fun σ H Q ⟨S, ρ, b, ok, q⟩ => by
  refine ⟨S, ρ, b, ok, q.bind.imp fun d b1 S1 H1 s1 ok1 q1 v r => ?_⟩
  cases d <;> first | exact q1.elim | skip
  rename_i k
  cases r
  refine ⟨k, rfl, ?_⟩
  cases k with
  | true => exact ⟨S1, ρ, b1, ok1, q1⟩
  | false => exact q1 S1 H1 (Same.refl _) ok1 _ (.bl _)
theorem d_enot (ha : PE X a (tD X.K C W Fa)) : PE X (.UnaryOp .Not a pos) (tD X.K C W (eNot Fa)) := pe_imp (pe_not ha) fun σ H Q ⟨S, ρ, b, ok, q⟩ => by
  refine ⟨S, ρ, b, ok, q.bind.imp fun d b1 S1 H1 s1 ok1 q1 v r => ?_⟩
  cases d <;> first | exact q1.elim | skip
  rename_i k
  cases r
  exact ⟨k, rfl, q1 S1 H1 (Same.refl _) ok1 _ (.bl _)⟩
@[simp] def eIf (G : BF) (Fa Fb : EF) : EF := fun ρ b => (G ρ b).bind fun k b' => if k = true then Fa ρ b' else Fb ρ b'
theorem d_if {G : BF} (hc : PT X c (tDt X.K C W G)) (ha : PE X a (tD X.K C W Fa)) (hb : PE X b (tD X.K C W Fb)) : PE X (.IfExp c a b pos) (tD X.K C W (eIf G Fa Fb)) := pe_imp (pe_ifExp hc ha hb) fun σ H Q ⟨S, ρ, b, ok, q⟩ =>
  ⟨S, ρ, b, ok, q.bind.imp fun k b1 S1 H1 s1 ok1 q1 => by
    cases k with
    | true => exact ⟨S1, ρ, b1, ok1, q1⟩
    | false => exact ⟨S1, ρ, b1, ok1, q1⟩⟩
@[simp] def aNil : AF := fun _ b => .ok [] b
@[simp] def aCons (F : EF) (G : AF) : AF := fun ρ b => (F ρ b).bind fun d b1 => (G ρ b1).bind fun ds b2 => .ok (d :: ds) b2
theorem d_anil : PA X [] (tDA X.K C W aNil) := pa_imp pa_nil fun σ H Q ⟨S, ρ, b, ok, q⟩ => q S H (Same.refl _) ok [] .nil
theorem d_acons {es : List Expr} {G : AF} (he : PE X e (tD X.K C W F)) (hr : PA X es (tDA X.K C W G)) (hs : starEach (e :: es) X.env = (false, eval e X.env) :: starEach es X.env := by rfl) : PA X (e :: es) (tDA X.K C W (aCons F G)) :=
  pa_imp (pa_cons he hr hs) fun σ H Q ⟨S, ρ, b, ok, q⟩ =>
    ⟨S, ρ, b, ok, q.bind.imp fun d b1 S1 H1 s1 ok1 q1 v r => ⟨S1, ρ, b1, ok1, q1.bind.imp fun ds b2 S2 H2 s2 ok2 q2 vs rs => q2 S2 H2 (Same.refl _) ok2 _ (.cons (r.up s2) rs)⟩⟩
/-- displays: at most a thousand items -/
@[simp] def eTup (G : AF) : EF := fun ρ b => (G ρ b).bind fun ds b' => if ds.length ≤ 100000 then .ok (.tup ds) b' else .stuck
@[simp] def eLst (G : AF) : EF := fun ρ b => (G ρ b).bind fun ds b' => if ds.length ≤ 100000 then .ok (.lst ds) b' else .stuck
theorem small_lt {n : Nat} (h : n ≤ 100000) : n < sizeLine := by rw [sizeLine_eq]; omega
theorem small_le {n : Nat} (h : n ≤ 100000) : n ≤ sizeLine := Nat.le_of_lt (small_lt h)
theorem d_tup {es : List Expr} {k} {G : AF} (h : PA X es (tDA X.K C W G)) : PE X (.Tuple es k pos) (tD X.K C W (eTup G)) := pe_imp (pe_tup h) fun σ H Q ⟨S, ρ, b, ok, q⟩ => by
  refine ⟨S, ρ, b, ok, q.bind.imp fun ds b1 S1 H1 s1 ok1 q1 vs r => ?_⟩
  by_cases hl : ds.length ≤ 100000
  · rw [if_pos hl] at q1
    refine ⟨small_le (by rw [r.length]; exact hl), fun p hp => ?_⟩
    exact q1 _ _ (ok1.same hp) (ok1.alloc hp) _ (.tup upd_same (r.up (ok1.same hp)))
  · rw [if_neg hl] at q1; exact q1.elim
theorem d_lst {es : List Expr} {G : AF} (h : PA X es (tDA X.K C W G)) : PE X (.List es pos) (tDF X.K C W (eLst G)) := pe_imp (pe_lst h) fun σ H Q ⟨S, ρ, b, ok, q⟩ => by
  refine ⟨S, ρ, b, ok, ?_⟩
  unfold eLst at q
  cases hG : G ρ b with
  | stuck => rw [hG] at q; exact q.elim
  | ex c ns ds => rw [hG] at q; exact q
  | ok ds b1 =>
    rw [hG] at q
    intro S1 H1 s1 ok1 vs r
    by_cases hl : ds.length ≤ 100000
    · have q : OutF X.K C W S ρ σ Q (if ds.length ≤ 100000 then .ok (.lst ds) b1 else .stuck) := q
      rw [if_pos hl] at q
      refine ⟨small_le (by rw [r.length]; exact hl), fun p hp => ?_⟩
      exact q S1 _ p _ s1 (ok1.fresh hp) (.lst r)
    · have q : OutF X.K C W S ρ σ Q (if ds.length ≤ 100000 then .ok (.lst ds) b1 else .stuck) := q
      rw [if_neg hl] at q
      exact q.elim
end
end DL

set_option maxHeartbeats 4000000
namespace DL
open PySem PySem.Spec PyProof.Rows L2
abbrev SF := Env → Bag → SO
def tDS (K : PySem.W.Frag) (C : Cq) (W : WX) (F : SF) : TS := fun E σ H => ∃ S ρ b, OkS K C S ρ b σ H ∧ SOk K C W S E (F ρ b)
section
variable {X : Cx} {C : Cq} {W : WX} {st : Stmt} {sts : List Stmt} {e : Expr} {pos : Pos} {F : EF} {G Gr : SF}
@[simp] def sNil : SF := fun ρ b => .nx ρ b
@[simp] def sSeq (G Gr : SF) : SF := fun ρ b => (G ρ b).seq Gr
theorem d_nil : PSs X [] (tDS X.K C W sNil) := pss_imp pss_nil fun E σ H ⟨S, ρ, b, ok, q⟩ => q S σ H (Same.refl _) ok
theorem d_cons (h1 : PS X st (tDS X.K C W G)) (h2 : PSs X sts (tDS X.K C W Gr)) : PSs X (st :: sts) (tDS X.K C W (sSeq G Gr)) := pss_imp (pss_cons h1 h2) fun E σ H ⟨S, ρ, b, ok, q⟩ => ⟨S, ρ, b, ok, q.seq⟩
theorem d_one (h1 : PS X st (tDS X.K C W G)) : PSs X [st] (tDS X.K C W G) := pss_one h1
@[simp] def sRet (F : EF) : SF := fun ρ b => (F ρ b).st ρ fun d b' => .rt d b'
theorem d_ret (h : PE X e (tD X.K C W F)) : PS X (.Return (some e) pos) (tDS X.K C W (sRet F)) := ps_imp (ps_ret h) fun E σ H ⟨S, ρ, b, ok, q⟩ =>
  ⟨S, ρ, b, ok, q.st.imp fun d b1 S1 H1 s1 ok1 q1 v r => q1 S1 H1 v (Same.refl _) ok1.core r⟩
/-- a fresh list handed back -/
@[simp] def sRetO (F : EF) : SF := fun ρ b => (F ρ b).st ρ fun ds b' => .ro ds b'
theorem outF_of {K : PySem.W.Frag} {S : Hp} {ρ : Env} {σ : L2.St} {E : Ends} {o : Out D} {k : D → Bag → SO} {Q : VK} (h : SOk K C W S E (o.st ρ k)) (f : ∀ d b S' H' p u, Same S S' → SOk K C W S' E (k d b) → OkF K C S' ρ b σ H' p u → ODR K C.ba S' u d → Q (.ref p) H') : OutF K C W S ρ σ Q o := by
  cases o with
  | ok ds b => exact fun S' H' p vs e o r => f ds b S' H' p vs e (SOk.up h e) o r
  | ex c ns ds => exact fun dx S' H' b e o x => h dx S' σ H' b e o x
  | stuck => exact h
theorem d_retO (h : PE X e (tDF X.K C W F)) : PS X (.Return (some e) pos) (tDS X.K C W (sRetO F)) := ps_imp (ps_ret h) fun E σ H ⟨S, ρ, b, ok, q⟩ =>
  ⟨S, ρ, b, ok, outF_of q fun ds b S' H' p vs _ q1 o r => q1 S' H' p vs (Same.refl _) o.core o.at_ o.sn o.h0 o.nba r⟩
@[simp] def sDrop (F : EF) : SF := fun ρ b => (F ρ b).st ρ fun _ b' => .nx ρ b'
@[simp] def sIf (G : BF) (A B : SF) : SF := fun ρ b => (G ρ b).st ρ fun k b' => if k = true then A ρ b' else B ρ b'
theorem d_sif {c : Expr} {as bs : List Stmt} {G : BF} {A B : SF} (hc : PT X c (tDt X.K C W G)) (ha : PSs X as (tDS X.K C W A)) (hb : PSs X bs (tDS X.K C W B)) : PS X (.If c as bs pos) (tDS X.K C W (sIf G A B)) := ps_imp (ps_if hc ha hb) fun E σ H ⟨S, ρ, b, ok, q⟩ =>
  ⟨S, ρ, b, ok, q.st.imp fun k b1 S1 H1 s1 ok1 q1 => by
    cases k with
    | true => exact ⟨S1, ρ, b1, ok1, q1⟩
    | false => exact ⟨S1, ρ, b1, ok1, q1⟩⟩
/-- code that is never come to -/
def sNever : SF := fun _ _ => .stuck
theorem d_never : PS X st (tDS X.K C W sNever) := ps_imp ps_never fun E σ H ⟨S, ρ, b, ok, q⟩ => q
abbrev GF := D → Env → Bag → Option (Env × Bag)
abbrev GsF := List D → Env → Bag → Option (Env × Bag)
/-- targets of an assignment or a for: they raise nothing, draw nothing -/
def tDG (K : PySem.W.Frag) (C : Cq) (g : GF) : TG := fun v σ H Q => ∃ S ρ b d ρ' b', OkS K C S ρ b σ H ∧ DR K C.ba S v d ∧ g d ρ b = some (ρ', b') ∧ ∀ S' σ' H', Same S S' → OkS K C S' ρ' b' σ' H' → Q σ' H'
@[simp] def gN (i : Nat) : GF := fun d ρ b => some (ρ.set i (some (.sh d)), b)
theorem d_gname {tg : Expr} {i : Nat} (h : PG X tg (gName i)) : PG X tg (tDG X.K C (gN i)) := pg_imp h fun v σ H Q ⟨S, ρ, b, d, ρ', b', ok, r, e, q⟩ => by
  cases e
  exact q S _ H (Same.refl _) (ok.setSh r)
@[simp] def gsN : GsF
  | [], ρ, b => some (ρ, b)
  | _ :: _, _, _ => none
@[simp] def gsC (g : GF) (gs : GsF) : GsF
  | [], _, _ => none
  | d :: ds, ρ, b => (g d ρ b).bind fun z => gs ds z.1 z.2
def tDGs (K : PySem.W.Frag) (C : Cq) (g : GsF) : TGs := fun vs σ H Q => ∃ S ρ b ds ρ' b', OkS K C S ρ b σ H ∧ DRs K C.ba S vs ds ∧ g ds ρ b = some (ρ', b') ∧ ∀ S' σ' H', Same S S' → OkS K C S' ρ' b' σ' H' → Q σ' H'
theorem pgs_imp {ts : List Expr} {t t' : TGs} (h : PGs X ts t) (f : ∀ vs σ H Q, t' vs σ H Q → t vs σ H Q) : PGs X ts t' := ⟨fun pins s σ H vs us Q I r q => h.run pins s σ H vs us Q I r (f vs σ H Q q)⟩
theorem d_gnil : PGs X [] (tDGs X.K C gsN) := pgs_imp pgs_nil fun vs σ H Q ⟨S, ρ, b, ds, ρ', b', ok, r, e, q⟩ => by
  cases ds with
  | nil => cases r; cases e; exact ⟨rfl, q S σ H (Same.refl _) ok⟩
  | cons d ds => cases e
theorem d_gcons {tg : Expr} {ts : List Expr} {g : GF} {gs : GsF} (h1 : PG X tg (tDG X.K C g)) (h2 : PGs X ts (tDGs X.K C gs)) (hs : (assignEach (tg :: ts) X.env).map (·.2) = assign tg X.env :: (assignEach ts X.env).map (·.2) := by rfl) :
    PGs X (tg :: ts) (tDGs X.K C (gsC g gs)) := pgs_imp (pgs_cons h1 h2 hs) fun vs σ H Q ⟨S, ρ, b, ds, ρ', b', ok, r, e, q⟩ => by
  cases ds with
  | nil => cases e
  | cons d ds =>
    cases r with
    | cons r1 r2 =>
      simp only [gsC, Option.bind_eq_some_iff] at e
      obtain ⟨z, e1, e2⟩ := e
      exact ⟨_, _, rfl, S, ρ, b, d, z.1, z.2, ok, r1, e1, fun S' σ' H' s' ok' => ⟨S', z.1, z.2, ds, ρ', b', ok', r2.up s', e2, fun S2 σ2 H2 s2 ok2 => q S2 σ2 H2 (s'.trans s2) ok2⟩⟩
@[simp] def gT (n : Nat) (gs : GsF) : GF := fun d ρ b => match d with
  | .tup ds => if ds.length = n then gs ds ρ b else none
  | _ => none
theorem d_gtup {es : List Expr} {k n : Nat} {gs : GsF} (hc : X.calm = true) (h : PGs X es (tDGs X.K C gs)) (hn : (assignEach es X.env).length = n := by rfl) (hst : (assignEach es X.env).findIdx? (·.1) = none := by rfl) :
    PG X (.Tuple es k pos) (tDG X.K C (gT n gs)) := pg_imp (pg_tup hc h hn hst) fun v σ H Q ⟨S, ρ, b, d, ρ', b', ok, r, e, q⟩ => by
  cases d with
  | tup ds =>
    cases r with
    | tup h1 h2 =>
      simp only [gT] at e
      by_cases hl : ds.length = n
      · rw [if_pos hl] at e
        exact ⟨_, _, rfl, seqT ok.core.sub h1, by rw [h2.length]; exact hl, S, ρ, b, ds, ρ', b', ok, h2, e, q⟩
      · rw [if_neg hl] at e; cases e
  | non => cases e
  | bl _ => cases e
  | int _ => cases e
  | str _ => cases e
  | lst _ => cases e
  | fl _ => cases e
  | ins _ _ _ => cases e
  | obj _ => cases e
  | bag => cases e
  | dct _ _ => cases e
  | dtp _ _ => cases e
@[simp] def sAsg (F : EF) (g : GF) : SF := fun ρ b => (F ρ b).st ρ fun d b' => match g d ρ b' with
  | some z => .nx z.1 z.2
  | none => .stuck
theorem sAsg_of {F : EF} {g : GF} {E : Ends} {σ : L2.St} {H : Hp} (h : tDS X.K C W (sAsg F g) E σ H) : tAsg (tD X.K C W F) (tDG X.K C g) E σ H := by
  obtain ⟨S, ρ, b, ok, q⟩ := h
  refine ⟨S, ρ, b, ok, q.st.imp fun d b1 S1 H1 s1 ok1 q1 v r => ?_⟩
  cases hg : g d ρ b1 with
  | none => rw [hg] at q1; exact q1.elim
  | some z =>
    rw [hg] at q1
    exact ⟨S1, ρ, b1, d, z.1, z.2, ok1, r, hg, fun S' σ' H' s' ok' => q1 S' σ' H' s' ok'⟩
/-- name = e; any target = e -/
theorem d_set {i : Nat} (h : PS X st (tAsg (tD X.K C W F) (gName i))) : PS X st (tDS X.K C W (sAsg F (gN i))) := ps_imp h fun E σ H q => by
  obtain ⟨S, ρ, b, ok, q⟩ := q
  exact ⟨S, ρ, b, ok, q.st.imp fun d b1 S1 H1 s1 ok1 q1 v r => q1 S1 _ H1 (Same.refl _) (ok1.setSh r)⟩
theorem d_asg {tg : Expr} {g : GF} (he : PE X e (tD X.K C W F)) (hg : PG X tg (tDG X.K C g)) (hs : swapsWithSole [tg] e pos.line X.env = pure false := by rfl) (hw : swappedStores [tg] e X.env = pure none := by rfl)
    (h1 : (assignEach [tg] X.env).map (·.2) = [assign tg X.env] := by rfl) : PS X (.Assign [tg] e pos) (tDS X.K C W (sAsg F g)) := ps_imp (ps_asg he hg hs hw h1) fun _ _ _ h => sAsg_of h
/-- name = a fresh list, owned -/
@[simp] def sOwn (F : EF) (i : Nat) : SF := fun ρ b => (F ρ b).st ρ fun ds b' => .nx (ρ.set i (some (.ow ds))) b'
theorem d_own {i : Nat} (h : PS X st (tAsg (tDF X.K C W F) (gName i))) : PS X st (tDS X.K C W (sOwn F i)) := ps_imp h fun E σ H ⟨S, ρ, b, ok, q⟩ =>
  ⟨S, ρ, b, ok, outF_of q fun ds b S' H' p vs _ q1 o r => q1 S' _ H' (Same.refl _) (o.setOw r)⟩
theorem d_setF {i : Nat} (h : PS X st (tAsg (tDF X.K C W F) (gName i))) : PS X st (tDS X.K C W (sAsg F (gN i))) := ps_imp (ps_lkN h) fun E σ H ⟨S, ρ, b, ok, q⟩ =>
  ⟨S, ρ, b, ok, outF_of (E := E) q fun d b S' H' p u _ q1 o r => by
    rcases r.how with hw | ⟨mu, hw⟩
    · have q' := q1 _ _ _ o.same ((o.shareL (u' := lockU default u)).setSh ((r.up o.same).dr upd_same))
      rw [hw default, upd_at o.at_] at q'
      exact .inl q'
    · refine .inr ⟨p, u, o.at_, mu, fun od => ?_⟩
      have q' := q1 _ _ _ o.same ((o.shareL (u' := lockU od u)).setSh ((r.up o.same).dr upd_same))
      rw [hw od] at q'
      exact q'⟩
/-- an owned slot is shared from here on -/
@[simp] def sFreeze (i : Nat) (G : SF) : SF := fun ρ b => match ρ[i]? with
  | some (some (.ow d)) => G (ρ.set i (some (.sh d))) b
  | _ => G ρ b
theorem tDS_freeze {i : Nat} {E : Ends} {σ : L2.St} {H : Hp} (h : tDS X.K C W (sFreeze i G) E σ H) : LkS (tDS X.K C W G) E σ H := by
  obtain ⟨S, ρ, b, ok, q⟩ := h
  unfold sFreeze at q
  cases hr : ρ[i]? with
  | none => rw [hr] at q; exact .inl ⟨S, ρ, b, ok, q⟩
  | some o =>
    cases o with
    | none => rw [hr] at q; exact .inl ⟨S, ρ, b, ok, q⟩
    | some s =>
      cases s with
      | sh d => rw [hr] at q; exact .inl ⟨S, ρ, b, ok, q⟩
      | ow d =>
        rw [hr] at q
        obtain ⟨p, u, _, hp, r, a1, a2, a3, _, sh⟩ := ok.getOw hr
        rcases r.how with hw | ⟨mu, hw⟩
        · have s' := sh default
          rw [hw default, upd_at hp] at s'
          exact .inl ⟨_, _, b, s', SOk.up q (same_upd a1)⟩
        · refine .inr ⟨p, u, hp, mu, fun od => ?_⟩
          have s' := sh od
          rw [hw od] at s'
          exact ⟨_, _, b, s', SOk.up q (same_upd a1)⟩
theorem d_freeze {i : Nat} (h : PS X st (tDS X.K C W G)) : PS X st (tDS X.K C W (sFreeze i G)) := ps_imp (ps_lk h) fun _ _ _ q => tDS_freeze q
end
end DL

set_option maxHeartbeats 400000
namespace DL
open PySem PySem.Spec PyProof.Rows L2
section
variable {K : PySem.W.Frag} {C : Cq} {S S' H H' : Hp} {σ : L2.St} {ρ : Env} {b b' : Bag}
def inner (C : Cq) (S H : Hp) : Cq := ⟨H, S, C.ba⟩
theorem Core.inner (c : Core C S b H) : Core (DL.inner C S H) S b H := ⟨c.sub, fun _ _ e _ => e, c.bag, fun _ _ e => .inl e⟩
theorem Core.outer (c : Core C S b H) (d : Core (DL.inner C S H) S' b' H') : Core C S' b' H' := by
  refine ⟨d.sub, fun a o e hb => d.fr a o (c.fr a o e hb) hb, d.bag, fun a o e => ?_⟩
  rcases d.new a o e with h | h | h
  · exact c.new a o h
  · exact .inr (.inl (c.h0 h))
  · exact .inr (.inr h)
theorem OkS.frame (o : OkS K C S ρ b σ H) (d : Core (DL.inner C S H) S' b' H') (e : Same S S') : OkS K C S' ρ b' σ H' := by
  obtain ⟨c, O, s, w⟩ := o
  refine ⟨c.outer d, O, s.mono e (fun p hp u h => d.fr p u h (w.al p hp).2.2), w.nd, fun p hp => ⟨?_, (w.al p hp).2⟩⟩
  cases q : S' p with
  | none => rfl
  | some u =>
    rcases d.new p u q with h | h | ⟨xs, h⟩
    · have z : S p = some u := h
      rw [(w.al p hp).1] at z; cases z
    · obtain ⟨u', hu⟩ := s.there p hp
      have z : H p = none := h
      rw [hu] at z; cases z
    · obtain ⟨u', hu, nt⟩ := s.thereO p hp
      have z := d.sub _ _ q
      rw [d.fr p u' hu (w.al p hp).2.2, h] at z
      exact absurd (Option.some.inj z) (nt xs)
/-- without the owned -/
@[simp] def unown : Env → Env
  | [] => []
  | some (.ow _) :: ρ => none :: unown ρ
  | x :: ρ => x :: unown ρ
theorem Slots.unown {ba : Option Addr} : ∀ {σ : L2.St} {ρ : Env} {O : List Addr}, Slots K ba S H σ ρ O → Slots K ba S H σ (DL.unown ρ) []
  | _, _, _, .nil => .nil
  | _, _, _, .no s => .no (Slots.unown s)
  | _, _, _, .sh r s => .sh r (Slots.unown s)
  | _, _, _, .ow _ _ s => .no (Slots.unown s)
theorem OkS.inner (o : OkS K C S ρ b σ H) : OkS K (DL.inner C S H) S (DL.unown ρ) b σ H := by
  obtain ⟨c, O, s, w⟩ := o
  exact ⟨c.inner, [], s.unown, List.nodup_nil, fun _ h => by cases h⟩
end
def tDI (K : PySem.W.Frag) (C : Cq) (W : WX) (F : AF) : TI := fun σ H R => ∃ S ρ b, OkS K C S ρ b σ H ∧ OutG K C W S ρ σ (fun ds _ S' H' => ∀ J, ItD K C.ba J ds S' → R J H') (F ρ b)
def seqOf : D → Option (List D)
  | .lst ds => some ds
  | .fl ds => some ds
  | _ => none
def aSeq (F : EF) : AF := fun ρ b => (F ρ b).bind fun d b' => Out.pureO (seqOf d) b'
def tupOf : D → Option (List D)
  | .tup ds => some ds
  | _ => none
def aTup (F : EF) : AF := fun ρ b => (F ρ b).bind fun d b' => Out.pureO (tupOf d) b'
/-- range(n) -/
def rangeOf (i : Int) : List D := (List.range i.toNat).map fun (k : Nat) => D.int (k : Int)
def aRng (G : AF) : AF := fun ρ b => (G ρ b).bind fun ds b' => match ds with
  | [.int i] => if -1000000 ≤ i ∧ i ≤ 1000000 then .ok (rangeOf i) b' else .stuck
  | _ => .stuck
section
variable {X : Cx} {C : Cq} {W : WX} {tg l e : Expr} {pos : Pos} {F : EF}
theorem seqL {K : PySem.W.Frag} {ba : Option Addr} {S : Hp} {v : V} {d : D} {ds : List D} (r : DR K ba S v d) (h : seqOf d = some ds) : ∃ a xs, v = .ref a ∧ SqL K S a xs ∧ DRs K ba S xs ds := by
  cases d <;> simp [seqOf] at h
  · subst h
    cases r with
    | lst h1 h2 => exact ⟨_, _, rfl, SqL.of h1, h2⟩
  · subst h
    cases r with
    | fl h1 h2 => exact ⟨_, _, rfl, h1, h2⟩
theorem itL {K : PySem.W.Frag} {ba : Option Addr} {S : Hp} {a : Addr} {xs : List V} {ds : List D} (h : SqL K S a xs) (r : DRs K ba S xs ds) : ItD K ba (Itl K a) ds S := fun C hC i S' ρ b σ H e ok => by
  have hS : SqL K H a xs := (e.trans ok.core.sub).seq h
  refine ⟨fun d hd => ?_, fun hl => ⟨xs, hS, by rw [r.length]; exact Nat.le_of_eq hl⟩⟩
  obtain ⟨v, hv, rv⟩ := r.get hd
  refine ⟨⟨xs, v, hS, hv⟩, fun x H' y => ?_⟩
  obtain ⟨e1, y⟩ := y
  subst e1
  have hx := y xs hS
  rw [hv] at hx
  cases hx
  exact ⟨S', Same.refl _, ok, rv.up e, fun _ _ z => z⟩
theorem itT {K : PySem.W.Frag} {ba : Option Addr} {S : Hp} {a : Addr} {xs : List V} {ds : List D} (h : S a = some (.tup xs)) (r : DRs K ba S xs ds) : ItD K ba (Itt K a) ds S := fun C hC i S' ρ b σ H e ok => by
  have hS : SqT K H a xs := seqT (e.trans ok.core.sub) h
  refine ⟨fun d hd => ?_, fun hl => ⟨xs, hS, by rw [r.length]; exact Nat.le_of_eq hl⟩⟩
  obtain ⟨v, hv, rv⟩ := r.get hd
  refine ⟨⟨xs, v, hS, hv⟩, fun x H' y => ?_⟩
  obtain ⟨e1, y⟩ := y
  subst e1
  have hx := y xs hS
  rw [hv] at hx
  cases hx
  exact ⟨S', Same.refl _, ok, rv.up e, fun _ _ z => z⟩
theorem d_ilist (h : PE X l (tD X.K C W F)) : PI X tg l (tDI X.K C W (aSeq F)) := pi_imp (pi_list h) fun σ H R ⟨S, ρ, b, ok, q⟩ => by
  refine ⟨S, ρ, b, ok, q.bind.imp fun d b1 S1 H1 s1 ok1 q1 v r => ?_⟩
  obtain ⟨ds, hd, q2⟩ := q1.pureO
  obtain ⟨a, xs, rfl, h1, h2⟩ := seqL r hd
  exact ⟨a, rfl, ⟨xs, ok1.core.sub.seq h1⟩, q2 S1 H1 (Same.refl _) ok1 _ (itL h1 h2)⟩
theorem d_ituple (h : PE X l (tD X.K C W F)) : PI X tg l (tDI X.K C W (aTup F)) := pi_imp (pi_tup h) fun σ H R ⟨S, ρ, b, ok, q⟩ => by
  refine ⟨S, ρ, b, ok, q.bind.imp fun d b1 S1 H1 s1 ok1 q1 v r => ?_⟩
  obtain ⟨ds, hd, q2⟩ := q1.pureO
  cases d <;> simp [tupOf] at hd
  subst hd
  cases r with
  | tup h1 h2 => exact ⟨_, rfl, ⟨_, seqT ok1.core.sub h1⟩, q2 S1 H1 (Same.refl _) ok1 _ (itT h1 h2)⟩
theorem itR {K : PySem.W.Frag} {ba : Option Addr} {S : Hp} (n : Nat) : ItD K ba (Itr 0 n) ((List.range n).map fun (k : Nat) => D.int (k : Int)) S := fun C hC i S' ρ b σ H e ok => by
  refine ⟨fun d hd => ?_, fun hl => ?_⟩
  · rw [List.getElem?_map] at hd
    by_cases hi : i < n
    · rw [List.getElem?_eq_getElem (by simpa using hi)] at hd
      simp at hd
      subst hd
      refine ⟨hi, fun x H' y => ?_⟩
      obtain ⟨e1, y⟩ := y
      subst e1
      subst y
      refine ⟨S', Same.refl _, ok, ?_, fun _ _ z => z⟩
      rw [Int.zero_add]
      exact .int _
    · rw [List.getElem?_eq_none (by simpa using hi)] at hd
      simp at hd
  · show n ≤ i
    have hl' : n = i := by simpa using hl
    omega
theorem d_irange {a : Expr} {G : AF} {p : Pos} (hg : Gl X "range") (hm : X.mg "range" = none) (ha : PA X [a] (tDA X.K C W G)) (hs : starEach [a] X.env = [(false, eval a X.env)] := by rfl) : PI X tg (.Call (.Name "range" p) [a] [] pos) (tDI X.K C W (aRng G)) :=
  pi_imp (pi_range1 hg hm ha hs) fun σ H R ⟨S, ρ, b, ok, q⟩ => by
  refine ⟨S, ρ, b, ok, q.bind.imp fun ds b1 S1 H1 s1 ok1 q1 vs r => ?_⟩
  split at q1
  · rename_i i
    cases r with
    | cons r1 r2 =>
      cases r2
      cases r1
      by_cases h : -1000000 ≤ i ∧ i ≤ 1000000
      · rw [if_pos h] at q1
        refine ⟨i, rfl, by omega, by omega, q1 S1 H1 (Same.refl _) ok1 _ (itR _)⟩
      · rw [if_neg h] at q1; exact q1.elim
  · exact q1.elim
end
def loopD (g : GF) (B : SF) : List D → Env → Bag → SO
  | [], ρ, b => .nx ρ b
  | d :: ds, ρ, b => match g d ρ b with
    | none => .stuck
    | some z => match B z.1 z.2 with
      | .nx ρ2 b2 => loopD g B ds ρ2 b2
      | .ct ρ2 b2 => loopD g B ds ρ2 b2
      | .bk ρ2 b2 => .nx ρ2 b2
      | .rt d b2 => .rt d b2
      | .ro d b2 => .ro d b2
      | .ex ρ2 c ns es => .ex ρ2 c ns es
      | .stuck => .stuck
def sFor (F : AF) (g : GF) (B : SF) : SF := fun ρ b => (F ρ b).st ρ fun ds b' => loopD g B ds ρ b'
section
variable {X : Cx} {C : Cq} {W : WX} {tg iter : Expr} {pos : Pos} {F : AF} {g : GF} {B : SF}
theorem loop_ok {K : PySem.W.Frag} {J : It} {ds : List D} {S1 : Hp} {E : Ends} {σ : L2.St} {H : Hp} {ρ : Env} {b : Bag} (hJ : ItD K C.ba J ds S1) (ok : OkS K C S1 ρ b σ H) (h : SOk K C W S1 E (loopD g B ds ρ b)) :
    ∃ Wv : Nat → Nat → L2.St → Hp → Prop, (∃ m, Wv 0 m σ H) ∧ ∀ i m σ H, Wv i m σ H → (J.stop i H ∧ E.nx σ H) ∨ (J.go i H ∧ ∃ N : L2.St → Hp → Prop, (∀ σ' H', N σ' H' → ∃ m', m' < m ∧ Wv (i + 1) m' σ' H') ∧
      ∀ x H', J.yld i H x H' → tDG K C g x σ H' fun σ2 H2 => tDS K C W B { E with nx := N, ct := N, bk := E.nx } σ2 H2) := by
  refine ⟨fun i m σ H => m = ds.length - i ∧ i ≤ ds.length ∧ ∃ S' ρ b, Same S1 S' ∧ OkS K C S' ρ b σ H ∧ SOk K C W S' E (loopD g B (ds.drop i) ρ b), ⟨ds.length, by simp, Nat.zero_le _, S1, ρ, b, Same.refl _, ok, by simpa using h⟩, ?_⟩
  rintro i m σ H ⟨rfl, hi, S', ρ, b, e, ok, q⟩
  by_cases hlt : i < ds.length
  · have hd : ds[i]? = some ds[i] := List.getElem?_eq_getElem hlt
    obtain ⟨go, yl⟩ := (hJ C rfl i S' ρ b σ H e ok).1 _ hd
    rw [List.drop_eq_getElem_cons hlt] at q
    unfold loopD at q
    refine .inr ⟨go, fun σ' H' => i + 1 ≤ ds.length ∧ ∃ S2 ρ b, Same S1 S2 ∧ OkS K C S2 ρ b σ' H' ∧ SOk K C W S2 E (loopD g B (ds.drop (i + 1)) ρ b), fun σ' H' n => ⟨ds.length - (i + 1), by omega, rfl, n.1, n.2⟩, fun x H' y => ?_⟩
    obtain ⟨S2, e2, ok2, r, _⟩ := yl x H' y
    cases hg : g ds[i] ρ b with
    | none => rw [hg] at q; exact q.elim
    | some z =>
      rw [hg] at q
      refine ⟨S2, ρ, b, _, z.1, z.2, ok2, r, hg, fun S3 σ3 H3 e3 ok3 => ⟨S3, z.1, z.2, ok3, ?_⟩⟩
      have e13 : Same S1 S3 := (e.trans e2).trans e3
      dsimp only at q
      cases hB : B z.1 z.2 with
      | nx ρ2 b2 =>
        rw [hB] at q
        exact fun S4 σ4 H4 e4 ok4 => ⟨hlt, S4, ρ2, b2, e13.trans e4, ok4, SOk.up q ((e2.trans e3).trans e4)⟩
      | ct ρ2 b2 =>
        rw [hB] at q
        exact fun S4 σ4 H4 e4 ok4 => ⟨hlt, S4, ρ2, b2, e13.trans e4, ok4, SOk.up q ((e2.trans e3).trans e4)⟩
      | bk ρ2 b2 =>
        rw [hB] at q
        exact fun S4 σ4 H4 e4 ok4 => q S4 σ4 H4 ((e2.trans e3).trans e4) ok4
      | rt d b2 => rw [hB] at q; exact SOk.up (o := .rt d b2) q (e2.trans e3)
      | ro d b2 => rw [hB] at q; exact SOk.up (o := .ro d b2) q (e2.trans e3)
      | ex ρ2 c ns es => rw [hB] at q; exact SOk.up (o := .ex ρ2 c ns es) q (e2.trans e3)
      | stuck => rw [hB] at q; exact q
  · have e : i = ds.length := by omega
    subst e
    refine .inl ⟨(hJ C rfl _ S' ρ b σ H (by assumption) ok).2 rfl, ?_⟩
    rw [List.drop_length] at q
    exact q S' σ H (Same.refl _) ok
theorem d_for {body : List Stmt} (hp : PassesOwn (model X.prog X.w) X.A X.env X.xe) (hc : X.calm = true) (hi : PI X tg iter (tDI X.K C W F)) (hg : PG X tg (tDG X.K C g)) (hb : PSs X body (tDS X.K C W B)) (hs : ∀ x, foldedSetIterable iter X.env x = pure x := by intro _; rfl) :
    PS X (.For tg iter body [] pos) (tDS X.K C W (sFor F g B)) := ps_imp (ps_for hp hc hi hg hb hs) fun E σ H ⟨S, ρ, b, ok, q⟩ =>
  ⟨S, ρ, b, ok, q.st.imp fun ds b1 S1 H1 s1 ok1 q1 J hJ => loop_ok hJ ok1 q1⟩
end
def Out.noex {α : Type} (o : Out α) : Out α := match o with
  | .ok a b => .ok a b
  | .ex _ _ _ => .stuck
  | .stuck => .stuck
def lcD (g : GF) (T : BF) (F : EF) : List D → Env → Bag → Out (List D)
  | [], _, b => .ok [] b
  | d :: ds, ρ, b => match g d ρ b with
    | none => .stuck
    | some z => ((T z.1 z.2).noex).bind fun k b1 => if k = true then ((F z.1 b1).noex).bind fun y b2 => (lcD g T F ds ρ b2).bind fun ys b3 => .ok (y :: ys) b3 else lcD g T F ds ρ b1
@[simp] def eLc (Fi : AF) (vs : List Nat) (g : GF) (T : BF) (F : EF) : EF := fun ρ b => (Fi ρ b).bind fun ds b1 => if ds.length ≤ 100000 then (lcD g T F ds (wipeE (unown ρ) vs) b1).bind fun ys b2 => .ok (.lst ys) b2 else .stuck
abbrev W0 : WX := fun _ _ _ _ => False
def tDany (K : PySem.W.Frag) (F : EF) : TE := fun σ H Q => ∃ C, tD K C W0 F σ H Q
def tDtany (K : PySem.W.Frag) (F : BF) : TT := fun σ H Q => ∃ C, tDt K C W0 F σ H Q
theorem d_any {X : Cx} {e : Expr} {F : EF} (h : ∀ C, PE X e (tD X.K C W0 F)) : PE X e (tDany X.K F) := ⟨fun pins s σ H Q I ⟨C, q⟩ => (h C).run pins s σ H Q I q⟩
theorem d_tsany {X : Cx} {es : List Expr} {F : BF} (h : ∀ C, PTs X es (tDt X.K C W0 F)) : PTs X es (tDtany X.K F) := ⟨fun pins s σ H Q I ⟨C, q⟩ => (h C).run pins s σ H Q I q⟩
/-- a target of a comprehension's own names -/
def CTg (K : PySem.W.Frag) (g : TG) (f : GF) (vs : List Nat) : Prop := ∀ (C : Cq) (S : Hp) (ρ : Env) (b : Bag) (σ : L2.St) (H : Hp) (v : V) (d : D) (ρ' : Env) (b' : Bag) (Q : L2.St → Hp → Prop), OkS K C S ρ b σ H → DR K C.ba S v d → f d ρ b = some (ρ', b') →
  (∀ σ', wipe σ' vs = wipe σ vs → OkS K C S ρ' b' σ' H → Q σ' H) → g v σ H Q
theorem wipe_get : ∀ (vs : List Nat) (σ : L2.St) (j : Nat), (wipe σ vs)[j]? = if j ∈ vs ∧ j < σ.length then some none else σ[j]?
  | [], σ, j => by simp [wipe]
  | v :: vs, σ, j => by
    unfold wipe
    by_cases h : v = j
    · subst h
      by_cases hl : v < σ.length
      · rw [List.getElem?_set_self (by rw [wipe_length]; exact hl), if_pos ⟨List.mem_cons_self, hl⟩]
      · rw [List.getElem?_eq_none (by rw [List.length_set, wipe_length]; omega), if_neg (fun z => hl z.2), List.getElem?_eq_none (by omega)]
    · rw [List.getElem?_set_ne h, wipe_get vs σ j]
      have : (j ∈ v :: vs) ↔ j ∈ vs := by simp only [List.mem_cons]; exact ⟨fun z => z.elim (fun q => absurd q.symm h) id, .inr⟩
      simp only [this]
theorem wipe_set {vs : List Nat} {σ : L2.St} {i : Nat} {x : Option V} (h : i ∈ vs) : wipe (σ.set i x) vs = wipe σ vs := by
  apply List.ext_getElem?
  intro j
  rw [wipe_get, wipe_get, List.length_set]
  by_cases hj : j ∈ vs ∧ j < σ.length
  · rw [if_pos hj, if_pos hj]
  · rw [if_neg hj, if_neg hj]
    by_cases e : i = j
    · subst e
      have hl : σ.length ≤ i := by
        have : ¬ i < σ.length := fun z => hj ⟨h, z⟩
        omega
      rw [List.getElem?_eq_none (by rw [List.length_set]; exact hl), List.getElem?_eq_none hl]
    · rw [List.getElem?_set_ne e]
theorem ctg_name {K : PySem.W.Frag} {i : Nat} {vs : List Nat} (h : i ∈ vs) : CTg K (gName i) (gN i) vs := fun C S ρ b σ H v d ρ' b' Q ok r e q => by
  cases e
  exact q _ (wipe_set h) (ok.setSh r)
theorem gT2_of {i j : Nat} {d : D} {ρ ρ' : Env} {b b' : Bag} (e : gT 2 (gsC (gN i) (gsC (gN j) gsN)) d ρ b = some (ρ', b')) : ∃ x y, d = .tup [x, y] ∧ ρ' = (ρ.set i (some (.sh x))).set j (some (.sh y)) ∧ b' = b := by
  cases d with
  | tup ds =>
    unfold gT at e
    dsimp only at e
    cases ds with
    | nil => rw [if_neg (by decide)] at e; cases e
    | cons x ds =>
      cases ds with
      | nil => rw [if_neg (by simp)] at e; cases e
      | cons y ds =>
        cases ds with
        | nil =>
          rw [if_pos (by rfl)] at e
          have e' : some ((ρ.set i (some (.sh x))).set j (some (.sh y)), b) = some (ρ', b') := e
          cases e'
          exact ⟨x, y, rfl, rfl, rfl⟩
        | cons z ds => rw [if_neg (by simp)] at e; cases e
  | non => cases e
  | bl _ => cases e
  | int _ => cases e
  | str _ => cases e
  | lst _ => cases e
  | fl _ => cases e
  | ins _ _ _ => cases e
  | obj _ => cases e
  | bag => cases e
  | dct _ _ => cases e
  | dtp _ _ => cases e
theorem ctg_pair {K : PySem.W.Frag} {i j : Nat} {vs : List Nat} (h : i ∈ vs) (h' : j ∈ vs) : CTg K (gTup K 2 (gCons (gName i) (gCons (gName j) gNil))) (gT 2 (gsC (gN i) (gsC (gN j) gsN))) vs := fun C S ρ b σ H v d ρ' b' Q ok r e q => by
  obtain ⟨x, y, rfl, rfl, rfl⟩ := gT2_of e
  cases r with
  | tup h1 h2 =>
    cases h2 with
    | cons r1 h3 =>
      cases h3 with
      | cons r2 h4 =>
        cases h4
        exact ⟨_, _, rfl, seqT ok.core.sub h1, rfl, _, _, rfl, _, _, rfl, rfl, q _ ((wipe_set h').trans (wipe_set h)) ((ok.setSh r1).setSh r2)⟩
theorem wipe_idem {σ : L2.St} {vs : List Nat} : wipe (wipe σ vs) vs = wipe σ vs := by
  apply List.ext_getElem?
  intro j
  rw [wipe_get, wipe_length]
  by_cases hj : j ∈ vs ∧ j < σ.length
  · rw [if_pos hj, wipe_get, if_pos hj]
  · rw [if_neg hj]
section
variable {X : Cx} {C : Cq} {W : WX} {e : Expr} {Fi : AF} {g : TG} {f : GF} {T : BF} {F : EF} {vs : List Nat}
/-- one more item on a fresh list -/
theorem OkF.push {K : PySem.W.Frag} {S S' H H' : Hp} {ρ : Env} {b b' : Bag} {σ : L2.St} {p : Addr} {xs : List V} {y : V} (o : OkF K C S ρ b σ H p (.lst xs)) (d : Core (inner C S H) S' b' H') (es : Same S S') :
    H' p = some (.lst xs) ∧ OkF K C S' ρ b' σ (upd H' p (.lst (xs ++ [y]))) p (.lst (xs ++ [y])) ∧ OkF K C S' ρ b' σ H' p (.lst xs) := by
  obtain ⟨c, h1, h2, h3, h4, O, s, w, n⟩ := o
  have hp : H' p = some (.lst xs) := d.fr p _ h1 h4
  have sn : S' p = none := by
    cases q : S' p with
    | none => rfl
    | some u =>
      rcases d.new p u q with h | h | ⟨ys, h⟩
      · have z : S p = some u := h
        rw [h2] at z; cases z
      · have z : H p = none := h
        rw [h1] at z; cases z
      · have z := d.sub _ _ q
        rw [hp, h] at z; cases z
  obtain ⟨c', O', s', w'⟩ := OkS.frame ⟨c, O, s, w⟩ d es
  have fr := OkS.frame ⟨c, O, s, w⟩ d es
  have sl : Slots K C.ba S' H' σ ρ O := s.mono es (fun q hq u h => d.fr q u h (w.al q hq).2.2)
  have ow : Own C S' O := by
    refine ⟨w.nd, fun q hq => ⟨?_, (w.al q hq).2⟩⟩
    cases z : S' q with
    | none => rfl
    | some u =>
      rcases d.new q u z with h | h | ⟨ys, h⟩
      · have y : S q = some u := h
        rw [(w.al q hq).1] at y
        cases y
      · obtain ⟨u', hu⟩ := s.there q hq
        have y : H q = none := h
        rw [hu] at y
        cases y
      · obtain ⟨u', hu, nt⟩ := s.thereO q hq
        have y := d.sub _ _ z
        rw [d.fr q u' hu (w.al q hq).2.2, h] at y
        exact absurd (Option.some.inj y) (nt ys)
  refine ⟨hp, ⟨fr.core.write sn h3 h4, upd_same, sn, h3, h4, O, sl.mono (Same.refl _) (fun q hq u h => ?_), ow, n⟩, fr.core, hp, sn, h3, h4, O, sl, ow, n⟩
  rw [upd_ne (fun z => n (by rw [← z]; exact hq))]
  exact h
theorem noex_out {K : PySem.W.Frag} {S : Hp} {ρ : Env} {σ : L2.St} {α : Type} {R : α → Bag → Hp → Hp → Prop} {o : Out α} {a : α} {b : Bag} (h : o.noex = .ok a b) (q : ∀ S' H', Same S S' → OkS K C S' ρ b σ H' → R a b S' H') : OutG K C W0 S ρ σ R o := by
  cases o with
  | ok a' b' => cases h; exact q
  | ex c ns ds => cases h
  | stuck => cases h
theorem bind_ok {α β : Type} {o : Out α} {k : α → Bag → Out β} {z : β} {b : Bag} (h : o.bind k = .ok z b) : ∃ a b1, o = .ok a b1 ∧ k a b1 = .ok z b := by
  cases o with
  | ok a b1 => exact ⟨a, b1, rfl, h⟩
  | ex c ns ds => cases h
  | stuck => cases h
theorem lcD_noex : ∀ {ds : List D} {ρ : Env} {b : Bag} {c : Addr} {ns : List Str} {es : List D}, lcD f T F ds ρ b ≠ .ex c ns es
  | [], _, _, _, _, _, h => by cases h
  | d :: ds, ρ, b, c, ns, es, h => by
    unfold lcD at h
    split at h
    · cases h
    · rename_i z _
      cases hT : T z.1 z.2 with
      | ex _ _ _ => rw [hT] at h; cases h
      | stuck => rw [hT] at h; cases h
      | ok k b1 =>
        rw [hT] at h
        have h : (if k = true then ((F z.1 b1).noex).bind fun y b2 => (lcD f T F ds ρ b2).bind fun ys b3 => .ok (y :: ys) b3 else lcD f T F ds ρ b1) = Out.ex c ns es := h
        cases k with
        | false => rw [if_neg Bool.false_ne_true] at h; exact lcD_noex h
        | true =>
          rw [if_pos rfl] at h
          cases hF : F z.1 b1 with
          | ex _ _ _ => rw [hF] at h; cases h
          | stuck => rw [hF] at h; cases h
          | ok y b2 =>
            rw [hF] at h
            have h : ((lcD f T F ds ρ b2).bind fun ys b3 => .ok (y :: ys) b3) = Out.ex c ns es := h
            cases hL : lcD f T F ds ρ b2 with
            | ok _ _ => rw [hL] at h; cases h
            | stuck => rw [hL] at h; cases h
            | ex _ _ _ => exact lcD_noex hL
/-- [elt for target in iter if ..] -/
theorem lc_of (hT : CTg X.K g f vs) {σ : L2.St} {H : Hp} {Q : VK} (hh : tDF X.K C W (eLc Fi vs f T F) σ H Q) : tLc (tDI X.K C W Fi) g (tDtany X.K T) (tDany X.K F) vs σ H Q := by
  obtain ⟨S, ρ, b, ok, q⟩ := hh
  refine ⟨S, ρ, b, ok, ?_⟩
  unfold eLc at q
  cases hF : Fi ρ b with
  | stuck => rw [hF] at q; exact q.elim
  | ex c ns ds => rw [hF] at q; exact q
  | ok ds b1 =>
    rw [hF] at q
    have q : OutF X.K C W S ρ σ Q (if ds.length ≤ 100000 then (lcD f T F ds (wipeE (unown ρ) vs) b1).bind fun ys b2 => .ok (.lst ys) b2 else .stuck) := q
    by_cases hl : ds.length ≤ 100000
    · rw [if_pos hl] at q
      intro S1 H1 e1 ok1 J hJ Dd hD
      cases hL : lcD f T F ds (wipeE (unown ρ) vs) b1 with
      | stuck => rw [hL] at q; exact q.elim
      | ex c ns es => exact absurd hL lcD_noex
      | ok ys b2 =>
        rw [hL] at q
        have q : ∀ S' H' p u, Same S S' → OkF X.K C S' ρ b2 σ H' p u → ODR X.K C.ba S' u (.lst ys) → Q (.ref p) H' := q
        refine ⟨fun i m H => m = ds.length - i ∧ i ≤ ds.length ∧ ∃ S' b xs pre rest, Same S1 S' ∧ OkF X.K C S' ρ b σ H Dd (.lst xs) ∧ DRs X.K C.ba S' xs pre ∧ xs.length ≤ i ∧ lcD f T F (ds.drop i) (wipeE (unown ρ) vs) b = .ok rest b2 ∧ pre ++ rest = ys,
          ⟨ds.length, by simp, Nat.zero_le _, S1, b1, [], [], ys, Same.refl _, ok1.fresh hD, .nil, Nat.zero_le _, by simpa using hL, rfl⟩, ?_⟩
        rintro i m H ⟨rfl, hi, S', b', xs, pre, rest, e', of, rx, hxl, hr, hys⟩
        by_cases hlt : i < ds.length
        · have hd : ds[i]? = some ds[i] := List.getElem?_eq_getElem hlt
          have oks := of.ok
          obtain ⟨go, yl⟩ := (hJ C rfl i S' ρ b' σ H e' oks).1 _ hd
          rw [List.drop_eq_getElem_cons hlt] at hr
          unfold lcD at hr
          refine .inr ⟨go, fun H => i + 1 ≤ ds.length ∧ ∃ S' b xs pre rest, Same S1 S' ∧ OkF X.K C S' ρ b σ H Dd (.lst xs) ∧ DRs X.K C.ba S' xs pre ∧ xs.length ≤ i + 1 ∧ lcD f T F (ds.drop (i + 1)) (wipeE (unown ρ) vs) b = .ok rest b2 ∧ pre ++ rest = ys,
            fun H' n => ⟨ds.length - (i + 1), by omega, rfl, n.1, n.2⟩, fun x H' y => ?_⟩
          -- the item, seen from within
          have oki := (oks.inner).wipe vs
          have okw : OkS X.K (inner C S' H) S' (wipeE (unown ρ) vs) b' (wipe σ vs) H := oki
          obtain ⟨_, yl2⟩ := (hJ (inner C S' H) rfl i S' _ b' _ H e' okw).1 _ hd
          obtain ⟨S2, e2, ok2, r2, k2⟩ := yl2 x H' y
          split at hr
          · cases hr
          · rename_i z hg
            refine hT (inner C S' H) S2 _ b' _ H' x _ z.1 z.2 _ ok2 r2 hg fun σ2 hw ok3 => ⟨by rw [hw]; exact wipe_idem, ?_⟩
            obtain ⟨k, b3, hk, hr⟩ := bind_ok hr
            refine ⟨inner C S' H, S2, z.1, z.2, ok3, noex_out hk fun S4 H4 e4 ok4 => ?_⟩
            cases k with
            | false =>
              rw [if_neg Bool.false_ne_true] at hr ⊢
              obtain ⟨_, _, o3⟩ := of.push (y := x) ok4.core (e2.trans e4)
              exact ⟨hlt, S4, b3, xs, pre, rest, (e'.trans e2).trans e4, o3, rx.up (e2.trans e4), by omega, hr, hys⟩
            | true =>
              rw [if_pos rfl] at hr ⊢
              obtain ⟨y0, b5, hy, hr⟩ := bind_ok hr
              obtain ⟨ys', b6, hr1, hr2⟩ := bind_ok hr
              cases hr2
              refine ⟨inner C S' H, S4, z.1, b3, ok4, noex_out hy fun S5 H5 e5 ok5 v5 r5 => ?_⟩
              have e25 : Same S' S5 := (e2.trans e4).trans e5
              obtain ⟨a1, a2, _⟩ := of.push (y := v5) ok5.core e25
              refine ⟨xs, a1, small_lt (by omega), hlt, S5, b5, xs ++ [v5], pre ++ [y0], ys', e'.trans e25, a2, (rx.up e25).app (.cons r5 .nil), by simp; omega, hr1, ?_⟩
              rw [← hys]
              simp
        · have e : i = ds.length := by omega
          subst e
          rw [List.drop_length] at hr
          cases hr
          refine .inl ⟨(hJ C rfl _ S' ρ _ σ H e' of.ok).2 rfl, ?_⟩
          rw [List.append_nil] at hys
          subst hys
          exact q S' H Dd _ (e1.trans e') of (.lst rx)
    · rw [if_neg hl] at q
      exact q.elim
theorem d_lc (hT : CTg X.K g f vs) (h : PE X e (tLc (tDI X.K C W Fi) g (tDtany X.K T) (tDany X.K F) vs)) : PE X e (tDF X.K C W (eLc Fi vs f T F)) := pe_imp h fun _ _ _ hh => lc_of hT hh
theorem d_setlc {st : Stmt} {i : Nat} (hT : CTg X.K g f vs) (h : PS X st (tAsg (tLc (tDI X.K C W Fi) g (tDtany X.K T) (tDany X.K F) vs) (gName i))) : PS X st (tAsg (tDF X.K C W (eLc Fi vs f T F)) (gName i)) := ps_imp h fun _ _ _ hh => lc_of hT hh
end
end DL

set_option maxHeartbeats 1000000
namespace DL
open PySem PySem.Spec PyProof.Rows L2
abbrev DFn := List D → Bag → Out D
def OutD (K : PySem.W.Frag) (C : Cq) (S : Hp) (Q : VK) (E : XK) : Out D → Prop
  | .ok d b => ∀ S' H v, Same S S' → Core C S' b H → DR K C.ba S' v d → Q v H
  | .ex c ns ds => ∀ (dx : Option Addr) S' H b, Same S S' → Core C S' b H → XR K C.ba S' dx ns ds → E (.ref c) dx H
  | .stuck => False
/-- a def's promise by its function of data -/
def spD (K : PySem.W.Frag) (F : DFn) : Sp := fun vs H Q E => ∃ (S : Hp) (ba : Option Addr) (b : Bag) (ds : List D), Core ⟨H, S, ba⟩ S b H ∧ DRs K ba S vs ds ∧ OutD K ⟨H, S, ba⟩ S Q E (F ds b)
/-- .. that hands back a fresh object -/
def OutDF (K : PySem.W.Frag) (C : Cq) (S : Hp) (Q : VK) : Out D → Prop
  | .ok d b => ∀ S' H p u, Same S S' → Core C S' b H → H p = some u → S' p = none → C.H0 p = none → C.ba ≠ some p → ODR K C.ba S' u d → Q (.ref p) H
  | .ex _ _ _ => False
  | .stuck => False
def spDF (K : PySem.W.Frag) (F : DFn) : Sp := fun vs H Q _ => ∃ (S : Hp) (ba : Option Addr) (b : Bag) (ds : List D), Core ⟨H, S, ba⟩ S b H ∧ DRs K ba S vs ds ∧ OutDF K ⟨H, S, ba⟩ S Q (F ds b)
@[simp] def startE (n : Nat) (ds : List D) : Env := ds.map (fun d => some (.sh d)) ++ List.replicate (n - ds.length) none
def SO.out : SO → Out D
  | .rt d b => .ok d b
  | .nx _ b => .ok .non b
  | .ex _ c ns ds => .ex c ns ds
  | _ => .stuck
def SO.outF : SO → Out D
  | .ro d b => .ok d b
  | _ => .stuck
/-- n names, m parameters -/
@[simp] def runD (n m : Nat) (G : SF) : DFn := fun ds b => if ds.length = m then (G (startE n ds) b).out else .stuck
@[simp] def runF (n m : Nat) (G : SF) : DFn := fun ds b => if ds.length = m then (G (startE n ds) b).outF else .stuck
theorem slots_none {K : PySem.W.Frag} {ba : Option Addr} {S H : Hp} : ∀ k : Nat, Slots K ba S H (List.replicate k none) (List.replicate k none) []
  | 0 => .nil
  | k + 1 => .no (slots_none k)
theorem slots_start {K : PySem.W.Frag} {ba : Option Addr} {S H : Hp} (k : Nat) : ∀ (ds : List D) (vs : List V), DRs K ba S vs ds → Slots K ba S H (vs.map some ++ List.replicate k none) (ds.map (fun d => some (.sh d)) ++ List.replicate k none) []
  | [], _, r => by cases r; exact slots_none k
  | d :: ds, _, r => by
    cases r with
    | cons r1 r2 => exact .sh r1 (slots_start k ds _ r2)
theorem okS_start {K : PySem.W.Frag} {ba : Option Addr} {S H : Hp} {vs : List V} {ds : List D} {b : Bag} {N : List Str} (c : Core ⟨H, S, ba⟩ S b H) (r : DRs K ba S vs ds) : OkS K ⟨H, S, ba⟩ S (startE N.length ds) b (start N vs) H := by
  refine ⟨c, [], ?_, List.nodup_nil, fun _ h => by cases h⟩
  unfold startE L2.start
  rw [r.length]
  exact slots_start _ _ _ r
abbrev WD (E : XK) : WX := fun cls d _ H => E cls d H
variable {Gd Gd' : Around → Prop}
section
variable {P : Program} {w : World} {K : PySem.W.Frag} {mg : Str → Option Value} {base : Heap}
theorem spD_len {m : Nat} {G : SF} {n : Nat} {vs : List V} {H : Hp} {Q : VK} {E : XK} (h : spD K (runD n m G) vs H Q E) : vs.length = m := by
  obtain ⟨S, ba, b, ds, c, r, o⟩ := h
  by_cases hl : ds.length = m
  · rw [r.length, hl]
  · unfold runD at o
    rw [if_neg hl] at o
    exact o.elim
theorem spDF_len {m : Nat} {G : SF} {n : Nat} {vs : List V} {H : Hp} {Q : VK} {E : XK} (h : spDF K (runF n m G) vs H Q E) : vs.length = m := by
  obtain ⟨S, ba, b, ds, c, r, o⟩ := h
  by_cases hl : ds.length = m
  · rw [r.length, hl]
  · unfold runF at o
    rw [if_neg hl] at o
    exact o.elim
/-- THE RULE for a def -/
theorem d_def {x qual : Str} {st : Stmt} {f : Addr} {fd : FuncData} {N ps : List Str} {k : Nat} {G : SF} (F : Fun K x qual st f fd) (Sc : FnScope N ps (defScope st))
    (body : ∀ (cdv : Value) (A : Around) (outer : List PySem.Env) (s : Shared) (H : Hp) (E : XK) (C : Cq), Room k (A.deeper (envOfC qual (defScope st) s.heap.objs.size f cdv)) → Gd A →
      PSs (cxOf (L2.CX P w) P w K mg base N qual (defScope st) f cdv A outer s H E) (defBody st) (tDS K C (WD E) G)) : FnG P w K mg base Gd (k + 1) f fd ps (spD K (runD N.length ps.length G)) := by
  refine FnG.body F Sc (fun vs H Q E h => spD_len h) (fun cdv A outer s H vs Q E hr hg h => ?_)
  obtain ⟨S, ba, b, ds, c, r, o⟩ := h
  refine ⟨_, body cdv A outer s H E ⟨H, S, ba⟩ hr hg, S, startE N.length ds, b, okS_start c r, ?_⟩
  unfold runD at o
  by_cases hl : ds.length = ps.length
  · rw [if_pos hl] at o
    cases hG : G (startE N.length ds) b with
    | nx ρ b' => rw [hG] at o; exact fun S' σ H' e ok => o S' H' .non e ok.core .non
    | rt d b' => rw [hG] at o; exact fun S' H' v e ok r => o S' H' v e ok r
    | ro d b' => rw [hG] at o; exact o.elim
    | bk ρ b' => rw [hG] at o; exact o.elim
    | ct ρ b' => rw [hG] at o; exact o.elim
    | ex ρ c ns es => rw [hG] at o; exact fun dx S' σ H' b e ok x => o dx S' H' b e ok.core x
    | stuck => rw [hG] at o; exact o
  · rw [if_neg hl] at o
    exact o.elim
theorem d_defF {x qual : Str} {st : Stmt} {f : Addr} {fd : FuncData} {N ps : List Str} {k : Nat} {G : SF} (F : Fun K x qual st f fd) (Sc : FnScope N ps (defScope st))
    (body : ∀ (cdv : Value) (A : Around) (outer : List PySem.Env) (s : Shared) (H : Hp) (E : XK) (C : Cq), Room k (A.deeper (envOfC qual (defScope st) s.heap.objs.size f cdv)) → Gd A →
      PSs (cxOf (L2.CX P w) P w K mg base N qual (defScope st) f cdv A outer s H E) (defBody st) (tDS K C (WD E) G)) : FnG P w K mg base Gd (k + 1) f fd ps (spDF K (runF N.length ps.length G)) := by
  refine FnG.body F Sc (fun vs H Q E h => spDF_len h) (fun cdv A outer s H vs Q E hr hg h => ?_)
  obtain ⟨S, ba, b, ds, c, r, o⟩ := h
  refine ⟨_, body cdv A outer s H E ⟨H, S, ba⟩ hr hg, S, startE N.length ds, b, okS_start c r, ?_⟩
  unfold runF at o
  by_cases hl : ds.length = ps.length
  · rw [if_pos hl] at o
    cases hG : G (startE N.length ds) b with
    | nx ρ b' => rw [hG] at o; exact o.elim
    | rt d b' => rw [hG] at o; exact o.elim
    | ro d b' => rw [hG] at o; exact fun S' H' p u e ok h1 h2 h3 h4 r => o S' H' p u e ok h1 h2 h3 h4 r
    | bk ρ b' => rw [hG] at o; exact o.elim
    | ct ρ b' => rw [hG] at o; exact o.elim
    | ex ρ c ns es => rw [hG] at o; exact o.elim
    | stuck => rw [hG] at o; exact o
  · rw [if_neg hl] at o
    exact o.elim
end
@[simp] def eCall (F : DFn) (G : AF) : EF := fun ρ b => (G ρ b).bind fun ds b' => F ds b'
section
variable {X : Cx} {C : Cq} {W : WX} {e a b : Expr} {pos : Pos} {F Fa Fb : EF} {G : AF}
theorem spD_of {K : PySem.W.Frag} {Fn : DFn} {S : Hp} {ρ : Env} {b : Bag} {σ : L2.St} {H : Hp} {vs : List V} {ds : List D} {Q : VK} (ok : OkS K C S ρ b σ H) (r : DRs K C.ba S vs ds)
    (q : OutG K C W S ρ σ (fun d _ S' H' => ∀ v, DR K C.ba S' v d → Q v H') (Fn ds b)) : spD K Fn vs H Q (fun cls d H' => W cls d σ H') := by
  refine ⟨S, C.ba, b, ds, ok.core.inner, r, ?_⟩
  cases hF : Fn ds b with
  | ok d b' => rw [hF] at q; exact fun S' H' v e c r => q S' H' e (ok.frame c e) v r
  | ex c ns es => rw [hF] at q; exact fun dx S' H' b e c x => q dx S' H' b e (ok.frame c e) x
  | stuck => rw [hF] at q; exact q
/-- f(..), as a reading -/
def tCG (sp : Sp) (W : WX) (t : TA) : TE := fun σ H Q => t σ H fun vs H1 => sp vs H1 Q (fun c d H' => W c d σ H')
theorem pe_callG {k : Nat} {f : Addr} {fd : FuncData} {ps : List Str} {sp : Sp} {x : Str} {p : Pos} {es : List Expr} {t : TA} (FO : FnG X.prog X.w X.K X.mg X.base Gd k f fd ps sp) (hr : Room k X.A) (hgd : Gd X.A) (hg : Gl X x) (hm : X.mg x = some (.ref f)) (hk : PySem.W.keepIn X.K (.ref f) = true)
    (hb : Binds X.K fd ps []) (tk : Takes X W) (ha : PA X (e :: es) t) (hdb : (x == ("__debug__" : Str)) = false) (he : starEach (e :: es) X.env = (false, eval e X.env) :: starEach es X.env) (hpl : (backTo pos (starEach es X.env)).any (·.1) = false) :
    PE X (.Call (.Name x p) (e :: es) [] pos) (tCG sp W t) := ⟨fun pins s σ H Q I h =>
  wpAny_Call_Name_kw (ld_glob I hg hm (PySem.W.callWith_K (h₀ := X.base) I.ok.mod.kin hk (thn (ha.run pos pins s σ H _ I h) fun us s1 z => by
    obtain ⟨vs, H1, J, r, q⟩ := z
    have hl : us.length = ps.length := by rw [← r.length]; exact FO.many _ _ _ _ q
    have bt := hb s1 us J.kIn (by rw [List.append_nil]; exact hl)
    rw [List.append_nil] at bt
    exact ⟨J.kIn, FO.at_ hr hgd tk J bt r q⟩) he hpl) hdb)⟩
theorem d_call {k : Nat} {f : Addr} {fd : FuncData} {ps : List Str} {Fn : DFn} {x : Str} {p : Pos} {es : List Expr} (FO : FnG X.prog X.w X.K X.mg X.base Gd k f fd ps (spD X.K Fn)) (hr : Room k X.A) (hgd : Gd X.A) (hg : Gl X x) (hm : X.mg x = some (.ref f)) (hk : PySem.W.keepIn X.K (.ref f) = true)
    (hb : Binds X.K fd ps []) (tk : Takes X W) (ha : PA X (e :: es) (tDA X.K C W G)) (hdb : (x == ("__debug__" : Str)) = false := by decide) (he : starEach (e :: es) X.env = (false, eval e X.env) :: starEach es X.env := by rfl)
    (hpl : (backTo pos (starEach es X.env)).any (·.1) = false := by rfl) : PE X (.Call (.Name x p) (e :: es) [] pos) (tD X.K C W (eCall Fn G)) :=
  pe_imp (pe_callG FO hr hgd hg hm hk hb tk ha hdb he hpl) fun σ H Q ⟨S, ρ, b, ok, q⟩ =>
    ⟨S, ρ, b, ok, q.bind.imp fun ds b1 S1 H1 s1 ok1 q1 vs r => spD_of ok1 r q1⟩
/-- f(g(..)): g hands back a fresh list of three ints, which f takes as its bag -/
def eBag (Fn Bn : DFn) (G : AF) : EF := fun ρ b => (G ρ b).bind fun ds b' => match Bn ds b' with
  | .ok (.lst [.int x, .int y, .int z]) b2 => (match Fn [.bag] ⟨x, y, z⟩ with
    | .ok (.bl k) _ => .ok (.bl k) b2
    | _ => .stuck)
  | _ => .stuck
theorem outDF_three {K : PySem.W.Frag} {ba : Option Addr} {S : Hp} {u : HO} {x y z : Int} (r : ODR K ba S u (.lst [.int x, .int y, .int z])) : u = .lst [.int x, .int y, .int z] := by
  cases r with
  | lst r =>
    cases r with
    | cons r1 r =>
      cases r with
      | cons r2 r =>
        cases r with
        | cons r3 r =>
          cases r; cases r1; cases r2; cases r3
          rfl
theorem d_callBag {k kb : Nat} {f fb : Addr} {fd fdb : FuncData} {ps psb : List Str} {Fn Bn : DFn} {x xb : Str} {p pb posb : Pos} {e2 : Expr} {es : List Expr} (FO : FnG X.prog X.w X.K X.mg X.base Gd k f fd ps (spD X.K Fn)) (hr : Room k X.A) (hgd : Gd X.A) (hg : Gl X x) (hm : X.mg x = some (.ref f)) (hk : PySem.W.keepIn X.K (.ref f) = true)
    (hb : Binds X.K fd ps []) (tk : Takes X W) (FB : FnG X.prog X.w X.K X.mg X.base Gd' kb fb fdb psb (spDF X.K Bn)) (hrb : Room kb X.A) (hgd' : Gd' X.A) (hgb : Gl X xb) (hmb : X.mg xb = some (.ref fb)) (hkb : PySem.W.keepIn X.K (.ref fb) = true)
    (hbb : Binds X.K fdb psb []) (ha : PA X (e2 :: es) (tDA X.K C W G)) (hdb : (x == ("__debug__" : Str)) = false := by decide) (hdb2 : (xb == ("__debug__" : Str)) = false := by decide)
    (he2 : starEach (e2 :: es) X.env = (false, eval e2 X.env) :: starEach es X.env := by rfl) (hpl2 : (backTo posb (starEach es X.env)).any (·.1) = false := by rfl)
    (he : starEach [.Call (.Name xb pb) (e2 :: es) [] posb] X.env = (false, eval (.Call (.Name xb pb) (e2 :: es) [] posb) X.env) :: starEach [] X.env := by rfl) (hpl : (backTo pos (starEach [] X.env)).any (·.1) = false := by rfl) :
    PE X (.Call (.Name x p) [.Call (.Name xb pb) (e2 :: es) [] posb] [] pos) (tD X.K C W (eBag Fn Bn G)) :=
  pe_imp (pe_callG FO hr hgd hg hm hk hb tk (pa_cons (pe_callG FB hrb hgd' hgb hmb hkb hbb tk ha hdb2 he2 hpl2) pa_nil he) hdb he hpl) fun σ H Q ⟨S, ρ, b, ok, q⟩ => by
  refine ⟨S, ρ, b, ok, q.bind.imp fun ds b1 S1 H1 s1 ok1 q1 vs r => ?_⟩
  refine ⟨S1, C.ba, b1, ds, ok1.core.inner, r, ?_⟩
  split at q1
  · rename_i x y z b2 hB
    rw [hB]
    intro S2 H2 p2 u e2 c2 h1 h2 h3 h4 ro
    have hu := outDF_three ro
    subst hu
    split at q1
    · rename_i k b3 hF
      -- the callee sees nothing shared but has its bag at p2
      refine ⟨fun _ => none, some p2, ⟨x, y, z⟩, [.bag], ⟨fun a o e => (by cases e), fun a o e _ => e, fun a e => ?_, fun a o e => (by cases e)⟩, .cons (.bag rfl) .nil, ?_⟩
      · cases e; exact ⟨h1, rfl⟩
      · rw [hF]
        intro S3 H3 v3 e3 c3 r3
        cases r3
        have hfr : ∀ a o, H2 a = some o → a ≠ p2 → H3 a = some o := fun a o h n => c3.fr a o h (fun z => n (Option.some.inj z).symm)
        have c4 : Core (inner C S1 H1) S2 b2 H3 := by
          refine ⟨fun a o e => hfr a o (c2.sub a o e) (ne_of_none e h2), fun a o e hb => hfr a o (c2.fr a o e hb) (ne_of_none e h3), fun a e => ?_, c2.new⟩
          obtain ⟨g1, g2⟩ := c2.bag a e
          exact ⟨hfr a _ g1 (fun z => h4 (by rw [← z]; exact e)), g2⟩
        have ok3 : OkS X.K C S2 ρ b2 σ H3 := ok1.frame c4 e2
        exact q1 S2 H3 e2 ok3 _ (.bl k)
    · exact q1.elim
  · exact q1.elim
end
end DL

set_option maxHeartbeats 1000000
namespace DL
open PySem PySem.Spec PyProof.Rows L2
theorem tuple_once (l : Addr) (items : Array Value) (n : Nat) (dd : Option Addr) (sl : Array (Option Value)) (u : Tok) (c1 : (items.isEmpty || (1 : Int) == 1) = true) :
    Meets (Builtin.«tuple.__mul__» ⟨[.ref l, .int 1 u], []⟩) (fun _ R s => s.heap.get? l = some { cls := .type "tuple", dict := dd, data := .seq items n, slots := sl } ∧ R (.ok (.ret (Value.ref l))) s) :=
  .of_wp fun prog w A R s h => by
    obtain ⟨hp, g, d, tk, os⟩ := s
    obtain ⟨hl, h⟩ := h
    have f1 := AutoSeq1.idx_int
    wp_walk using wpAny_loadPart' hl
    repeat (first
      | (refine wpAny_ite_false (by decide) ?_; wp_walk using wpAny_loadPart' hl)
      | (refine wpAny_ite_true c1 ?_; wp_walk using wpAny_loadPart' hl)
      | (refine wpAny_ite_true (by simp) ?_; wp_walk using wpAny_loadPart' hl))
    all_goals exact ⟨_, rfl, h⟩
def rOnce (K : PySem.W.Frag) : R2 := fun x y H Q => ∃ l xs, x = .ref l ∧ y = .int 1 ∧ SqT K H l xs ∧ Q (.ref l) H
theorem op_once {X : Cx} : OpR X (binaryOp .Mult) (rOnce X.K) := by
  intro pins s σ H x y v u Q I rx ry ⟨l, xs, hx, hy, hT, q⟩
  subst hx hy
  cases rx
  obtain ⟨t, rfl⟩ := ry
  obtain ⟨its, r, ⟨⟨cls, dd, data, sl⟩, ho, hc, n, hd⟩, hs⟩ := I.tuple hT
  simp only at hc hd
  subst hc hd
  refine wpAny_binaryOp_repeat_ref (T := "tuple") (U := "int") (by decide) ⟨_, ho, rfl⟩ (fun s' => typeIs_int s' 1 t) noFill_tuple_mul F.fills_int_mul F.slot_int_rmul
    repeat_tuple F.slot_int_index.lookup (call_meets F.slot_int_rmul (typeIs_int s 1 t) F.entry_int_rmul (F.args_int_rmul_2 _ _) (int_rmul_tuple 1 t l its.toArray n dd sl) ?_)
  refine ⟨ho, rfl, ⟨_, ho, rfl⟩, call_meets F.slot_tuple_mul ⟨_, ho, rfl⟩ F.entry_tuple_mul (F.args_tuple_mul_2 _ _) (tuple_once l its.toArray n dd sl t (by simp)) ⟨ho, ?_⟩⟩
  exact ⟨.ref l, H, I, rfl, q⟩
theorem big_le {n : Nat} (h : n ≤ 100000) : n ≤ sizeLine := by rw [sizeLine_eq]; omega
@[simp] def addF : D → D → Option D
  | .int i, .int j => some (.int (i + j))
  | .str x, .str y => if x.length + y.length ≤ 100000 then some (.str (x ++ y)) else none
  | .lst a, .lst b => if a.length + b.length ≤ 100000 then some (.lst (a ++ b)) else none
  | .tup a, .tup b => if a.length + b.length ≤ 100000 then some (.tup (a ++ b)) else none
  | _, _ => none
@[simp] def subF : D → D → Option D
  | .int i, .int j => some (.int (i - j))
  | _, _ => none
@[simp] def mulF : D → D → Option D
  | .str x, .int k => if x.length ≤ 1000 ∧ -1000 ≤ k ∧ k ≤ 1000 then some (.str (Txt.mul x k)) else none
  | .int i, .int j => if (-(2 ^ 64) < i ∧ i < 2 ^ 64) ∨ (-(2 ^ 64) < j ∧ j < 2 ^ 64) then some (.int (i * j)) else none
  | .tup a, .int k => if 1 ≤ k ∧ k ≤ 1000 ∧ a.length ≤ 1000 ∧ 0 < a.length then some (.tup (List.replicate k.toNat a).flatten) else none
  | .lst a, .int k => if -1000 ≤ k ∧ k ≤ 1000 ∧ a.length ≤ 100 then some (.lst (List.replicate k.toNat a).flatten) else none
  | _, _ => none
@[simp] def modF : D → D → Option D
  | .int i, .int j => if 0 < j then some (.int (i % j)) else none
  | _, _ => none
@[simp] def fdivF : D → D → Option D
  | .int i, .int j => if 0 < j ∧ j < 1073741824 then some (.int (i / j)) else none
  | _, _ => none
def powF : D → D → Option D
  | .int i, .int j => if 0 ≤ j ∧ j ≤ 1000 ∧ i.natAbs < 2 ^ 64 then some (.int (i ^ j.toNat)) else none
  | _, _ => none
@[simp] def ltF : D → D → Option D
  | .int i, .int j => some (.bl (decide (i < j)))
  | .str i, .str j => some (.bl (decide (i.cps.toList < j.cps.toList)))
  | _, _ => none
@[simp] def leF : D → D → Option D
  | .int i, .int j => some (.bl (decide (i ≤ j)))
  | .str i, .str j => some (.bl (!decide (j.cps.toList < i.cps.toList)))
  | _, _ => none
@[simp] def gtF : D → D → Option D
  | .int i, .int j => some (.bl (decide (j < i)))
  | _, _ => none
@[simp] def geF : D → D → Option D
  | .int i, .int j => some (.bl (decide (j ≤ i)))
  | _, _ => none
def eqF (d e : D) : Option D := match d.pd, e.pd with
  | some p, some q => if SeqAt.shaped p = true ∧ SeqAt.shaped q = true then some (.bl (PyData.eqv p q)) else none
  | _, _ => none
def neF (d e : D) : Option D := match d.pd, e.pd with
  | some p, some q => if SeqAt.shaped p = true ∧ SeqAt.shaped q = true then some (.bl (!PyData.eqv p q)) else none
  | _, _ => none
theorem DRs.rep {K : PySem.W.Frag} {ba : Option Addr} {S : Hp} {vs : List V} {ds : List D} (h : DRs K ba S vs ds) : ∀ k : Nat, DRs K ba S (List.replicate k vs).flatten (List.replicate k ds).flatten
  | 0 => by simpa using DRs.nil
  | k + 1 => by
    rw [List.replicate_succ, List.replicate_succ, List.flatten_cons, List.flatten_cons]
    exact h.app (DRs.rep h k)
section
variable {X : Cx} {C : Cq} {W : WX} {e a b : Expr} {pos : Pos} {F Fa Fb : EF} {G : AF}
def rAddA (K : PySem.W.Frag) : R2 := fun x y H Q => (rI0 fun i j => .int (i + j)) x y H Q ∨ (∃ i j, x = .str i ∧ y = .str j ∧ i.length + j.length ≤ sizeLine ∧ Q (.str (i ++ j)) H) ∨ rCat x y H Q ∨ rCatA K x y H Q
theorem op_addA : OpR X (binaryOp .Add) (rAddA X.K) := op_add.or (op_add_str.or (op_cat.or op_catA))
theorem add2 {K : PySem.W.Frag} : Op2 K C (rAddA K) addF := by
  intro S ρ b σ H v w d e z Q ok r1 r2 hz q
  cases d with
  | int i =>
    cases e with
    | int j =>
      cases hz; cases r1; cases r2
      exact .inl ⟨i, j, rfl, rfl, q _ S H (Same.refl _) ok (.int _)⟩
    | _ => cases hz
  | str x =>
    cases e with
    | str y =>
      simp only [addF] at hz
      by_cases h : x.length + y.length ≤ 100000
      · rw [if_pos h] at hz
        cases hz; cases r1; cases r2
        exact .inr (.inl ⟨x, y, rfl, rfl, big_le h, q _ S H (Same.refl _) ok (.str _)⟩)
      · rw [if_neg h] at hz; cases hz
    | _ => cases hz
  | lst x =>
    cases e with
    | lst y =>
      simp only [addF] at hz
      by_cases h : x.length + y.length ≤ 100000
      · rw [if_pos h] at hz
        cases hz
        cases r1 with
        | lst h1 h2 =>
          cases r2 with
          | lst h3 h4 =>
            refine .inr (.inr (.inl ⟨_, _, _, _, rfl, rfl, ok.core.sub _ _ h1, ok.core.sub _ _ h3, by rw [h2.length, h4.length]; exact big_le h, fun p hp => ?_⟩))
            exact q _ _ _ (ok.same hp) (ok.alloc hp) (.lst upd_same ((h2.app h4).up (ok.same hp)))
      · rw [if_neg h] at hz; cases hz
    | _ => cases hz
  | tup x =>
    cases e with
    | tup y =>
      simp only [addF] at hz
      by_cases h : x.length + y.length ≤ 100000
      · rw [if_pos h] at hz
        cases hz
        cases r1 with
        | tup h1 h2 =>
          cases r2 with
          | tup h3 h4 =>
            refine .inr (.inr (.inr ⟨_, _, _, _, rfl, rfl, seqT ok.core.sub h1, seqT ok.core.sub h3, by rw [h2.length, h4.length]; exact big_le h, fun e0 => ?_, fun _ e0 => ?_, fun _ _ p hp => ?_⟩))
            · subst e0
              cases h2
              exact q _ S H (Same.refl _) ok (.tup h3 h4)
            · subst e0
              cases h4
              rw [List.append_nil] at q
              exact q _ S H (Same.refl _) ok (.tup h1 h2)
            · exact q _ _ _ (ok.same hp) (ok.alloc hp) (.tup upd_same ((h2.app h4).up (ok.same hp)))
      · rw [if_neg h] at hz; cases hz
    | _ => cases hz
  | _ => cases hz
theorem d_add (ha : PE X a (tD X.K C W Fa)) (hb : PE X b (tD X.K C W Fb)) : PE X (.BinOp a .Add b pos) (tD X.K C W (e2 addF Fa Fb)) := d_op op_addA add2 ha hb
theorem rI_of0 {f : Value → Value → Sem Value} {g : Int → Int → V} (h : OpR X f (rI0 g)) : OpR X f (rI (fun _ _ => True) g) := fun pins s σ H x y v u Q I rx ry ⟨i, j, e1, e2, _, q⟩ => h pins s σ H x y v u Q I rx ry ⟨i, j, e1, e2, q⟩
theorem d_sub (ha : PE X a (tD X.K C W Fa)) (hb : PE X b (tD X.K C W Fb)) : PE X (.BinOp a .Sub b pos) (tD X.K C W (e2 subF Fa Fb)) :=
  d_op (rI_of0 op_sub) (i2 (g' := fun i j => .int (i - j)) (fun d e z h => by
    unfold subF at h
    split at h
    · cases h; exact ⟨_, _, rfl, rfl, trivial, rfl⟩
    · cases h) fun _ _ _ => .int _) ha hb
theorem d_mod (ha : PE X a (tD X.K C W Fa)) (hb : PE X b (tD X.K C W Fb)) : PE X (.BinOp a .Mod b pos) (tD X.K C W (e2 modF Fa Fb)) :=
  d_op op_mod (i2 (g' := fun i j => .int (i % j)) (fun d e z h => by
    unfold modF at h
    split at h
    · split at h
      · cases h; exact ⟨_, _, rfl, rfl, by assumption, rfl⟩
      · cases h
    · cases h) fun _ _ _ => .int _) ha hb
theorem d_fdiv (ha : PE X a (tD X.K C W Fa)) (hb : PE X b (tD X.K C W Fb)) : PE X (.BinOp a .FloorDiv b pos) (tD X.K C W (e2 fdivF Fa Fb)) :=
  d_op op_fdiv (i2 (g' := fun i j => .int (i / j)) (fun d e z h => by
    unfold fdivF at h
    split at h
    · split at h
      · cases h; exact ⟨_, _, rfl, rfl, by assumption, rfl⟩
      · cases h
    · cases h) fun _ _ _ => .int _) ha hb
theorem d_pow (ha : PE X a (tD X.K C W Fa)) (hb : PE X b (tD X.K C W Fb)) : PE X (.BinOp a .Pow b pos) (tD X.K C W (e2 powF Fa Fb)) :=
  d_op op_pow (i2 (g' := fun i j => .int (i ^ j.toNat)) (fun d e z h => by
    unfold powF at h
    split at h
    · split at h
      · rename_i q
        cases h; exact ⟨_, _, rfl, rfl, ⟨q.1, by omega, q.2.2⟩, rfl⟩
      · cases h
    · cases h) fun _ _ _ => .int _) ha hb
def rMulS : R2 := fun x y H Q => ∃ (a : Str) (k : Int), x = .str a ∧ y = .int k ∧ a.length ≤ 1000 ∧ -1000 ≤ k ∧ k ≤ 1000 ∧ Q (.str (Txt.mul a k)) H
theorem mulOk_of {a : Str} {k : Int} (h1 : a.length ≤ 1000) (h2 : -1000 ≤ k) (h3 : k ≤ 1000) : MulOk a k := by
  refine ⟨?_, fun hk _ => ?_, fun hk _ => ?_⟩
  · simp only [Bool.or_eq_false_iff, decide_eq_false_iff_not]
    omega
  · have : (1000 : Int) ≤ (2 ^ 63 - 1) / k := by
      rw [Int.le_ediv_iff_mul_le (by omega)]
      omega
    omega
  · have hm : a.length * k.toNat ≤ 1000 * 1000 := Nat.mul_le_mul h1 (by omega)
    unfold PySem.Builtin.Str.tooLong
    rw [sizeLine_eq]
    simp only [decide_eq_false_iff_not]
    omega
theorem op_mulS : OpR X (binaryOp .Mult) rMulS := by
  intro pins s σ H x y v u Q I rx ry ⟨a, k, hx, hy, h1, h2, h3, q⟩
  subst hx hy
  obtain ⟨t, rfl⟩ := rx
  obtain ⟨t', rfl⟩ := ry
  exact SB.mul (mulOk_of h1 h2 h3) fun t' k => ⟨.str _, H, I.tok k, ⟨t', rfl⟩, q⟩
theorem mul2 {K : PySem.W.Frag} : Op2 K C (fun x y H Q => (rI CMul (fun i j => .int (i * j)) x y H Q ∨ rRep x y H Q) ∨ rMulS x y H Q ∨ rOnce K x y H Q ∨ rRepT K x y H Q) mulF := by
  intro S ρ b σ H v w d e z Q ok r1 r2 hz q
  unfold mulF at hz
  split at hz
  · split at hz
    · rename_i x k h
      cases hz; cases r1; cases r2
      exact .inr (.inl ⟨_, _, rfl, rfl, h.1, h.2.1, h.2.2, q _ S H (Same.refl _) ok (.str _)⟩)
    · cases hz
  · split at hz
    · rename_i i j h
      cases hz; cases r1; cases r2
      exact .inl (.inl ⟨_, _, rfl, rfl, h, q _ S H (Same.refl _) ok (.int _)⟩)
    · cases hz
  · split at hz
    · rename_i x k h
      cases hz
      cases r2
      cases r1 with
      | @tup l xs _ h1 h2 =>
        have hl := h2.length
        by_cases hk : k = 1
        · subst hk
          refine .inr (.inr (.inl ⟨_, _, rfl, rfl, seqT ok.core.sub h1, ?_⟩))
          have e1 : (List.replicate (1 : Int).toNat x).flatten = x := by simp
          rw [e1] at q
          exact q _ S H (Same.refl _) ok (.tup h1 h2)
        · refine .inr (.inr (.inr ⟨_, _, _, rfl, rfl, seqT ok.core.sub h1, fun z => ?_, by omega, h.2.1, by omega, fun p hp => ?_⟩))
          · rw [z] at hl
            have := h.2.2.2
            rw [← hl] at this
            exact absurd this (by simp)
          · exact q _ _ _ (ok.same hp) (ok.alloc hp) (.tup upd_same ((h2.rep _).up (ok.same hp)))
    · cases hz
  · split at hz
    · rename_i x k h
      cases hz
      cases r2
      cases r1 with
      | lst h1 h2 =>
        refine .inl (.inr ⟨_, _, _, rfl, rfl, ok.core.sub _ _ h1, by omega, by omega, ?_, fun p hp => ?_⟩)
        · rw [h2.length]
          have hk : k.toNat ≤ 1000 := by omega
          exact Nat.le_trans (Nat.mul_le_mul h.2.2 hk) (big_le (by decide))
        · exact q _ _ _ (ok.same hp) (ok.alloc hp) (.lst upd_same ((h2.rep _).up (ok.same hp)))
    · cases hz
  · cases hz
theorem d_mul (ha : PE X a (tD X.K C W Fa)) (hb : PE X b (tD X.K C W Fb)) : PE X (.BinOp a .Mult b pos) (tD X.K C W (e2 mulF Fa Fb)) := d_op ((op_mul.or op_rep).or (op_mulS.or (op_once.or op_repT))) mul2 ha hb
theorem d_lt2 {K : PySem.W.Frag} : Op2 K C (fun x y H Q => rI0 (fun i j => .bl (decide (i < j))) x y H Q ∨ (∃ i j, x = .str i ∧ y = .str j ∧ Q (.bl (decide (i.cps.toList < j.cps.toList))) H)) ltF := by
  intro S ρ b σ H v w d e z Q ok r1 r2 hz q
  unfold ltF at hz
  split at hz
  · cases hz; cases r1; cases r2
    exact .inl ⟨_, _, rfl, rfl, q _ S H (Same.refl _) ok (.bl _)⟩
  · cases hz; cases r1; cases r2
    exact .inr ⟨_, _, rfl, rfl, q _ S H (Same.refl _) ok (.bl _)⟩
  · cases hz
theorem d_le2 {K : PySem.W.Frag} : Op2 K C (fun x y H Q => rI0 (fun i j => .bl (decide (i ≤ j))) x y H Q ∨ (∃ i j, x = .str i ∧ y = .str j ∧ Q (.bl (!decide (j.cps.toList < i.cps.toList))) H)) leF := by
  intro S ρ b σ H v w d e z Q ok r1 r2 hz q
  unfold leF at hz
  split at hz
  · cases hz; cases r1; cases r2
    exact .inl ⟨_, _, rfl, rfl, q _ S H (Same.refl _) ok (.bl _)⟩
  · cases hz; cases r1; cases r2
    exact .inr ⟨_, _, rfl, rfl, q _ S H (Same.refl _) ok (.bl _)⟩
  · cases hz
theorem d_gt2 {K : PySem.W.Frag} : Op2 K C (rI (fun _ _ => True) (fun i j => .bl (decide (j < i)))) gtF := i2 (g' := fun i j => .bl (decide (j < i))) (fun d e z h => by
    unfold gtF at h
    split at h
    · cases h; exact ⟨_, _, rfl, rfl, trivial, rfl⟩
    · cases h) fun _ _ _ => .bl _
theorem d_ge2 {K : PySem.W.Frag} : Op2 K C (rI (fun _ _ => True) (fun i j => .bl (decide (j ≤ i)))) geF := i2 (g' := fun i j => .bl (decide (j ≤ i))) (fun d e z h => by
    unfold geF at h
    split at h
    · cases h; exact ⟨_, _, rfl, rfl, trivial, rfl⟩
    · cases h) fun _ _ _ => .bl _
theorem o_lt : OpR X (compareOp .Lt) (fun x y H Q => rI0 (fun i j => .bl (decide (i < j))) x y H Q ∨ (∃ i j, x = .str i ∧ y = .str j ∧ Q (.bl (decide (i.cps.toList < j.cps.toList))) H)) := op_lt.or op_lt_str
theorem o_le : OpR X (compareOp .LtE) (fun x y H Q => rI0 (fun i j => .bl (decide (i ≤ j))) x y H Q ∨ (∃ i j, x = .str i ∧ y = .str j ∧ Q (.bl (!decide (j.cps.toList < i.cps.toList))) H)) := op_le.or op_le_str
theorem d_eq2 {K : PySem.W.Frag} : Op2 K C (rEqD K) eqF := by
  intro S ρ b σ H v w d e z Q ok r1 r2 hz q
  unfold eqF at hz
  split at hz
  · rename_i p p' h1 h2
    split at hz
    · rename_i hs
      cases hz
      exact ⟨p, p', DR.dp ok.core.sub d v p r1 h1, DR.dp ok.core.sub e w p' r2 h2, hs.1, hs.2, q _ S H (Same.refl _) ok (.bl _)⟩
    · cases hz
  · cases hz
theorem d_ne2 {K : PySem.W.Frag} : Op2 K C (rNeD K) neF := by
  intro S ρ b σ H v w d e z Q ok r1 r2 hz q
  unfold neF at hz
  split at hz
  · rename_i p p' h1 h2
    split at hz
    · rename_i hs
      cases hz
      exact ⟨p, p', DR.dp ok.core.sub d v p r1 h1, DR.dp ok.core.sub e w p' r2 h2, hs.1, hs.2, q _ S H (Same.refl _) ok (.bl _)⟩
    · cases hz
  · cases hz
theorem d_eq (hu : X.A.units + 64 < cLine) (ha : PE X a (tD X.K C W Fa)) (hb : PE X b (tD X.K C W Fb)) : PE X (.Compare a [.Eq] [b] pos) (tD X.K C W (e2 eqF Fa Fb)) := d_cmp (op_eqD hu) d_eq2 ha hb (nomark _)
theorem d_lt (ha : PE X a (tD X.K C W Fa)) (hb : PE X b (tD X.K C W Fb)) : PE X (.Compare a [.Lt] [b] pos) (tD X.K C W (e2 ltF Fa Fb)) := d_cmp o_lt d_lt2 ha hb (nomark _)
theorem t_eq (hu : X.A.units + 64 < cLine) (ha : PE X a (tD X.K C W Fa)) (hb : PE X b (tD X.K C W Fb)) : PT X (.Compare a [.Eq] [b] pos) (tDt X.K C W (bB (e2 eqF Fa Fb))) := d_tcmp (op_eqD hu) d_eq2 ha hb (nomark _)
theorem t_ne (hu : X.A.units + 64 < cLine) (ha : PE X a (tD X.K C W Fa)) (hb : PE X b (tD X.K C W Fb)) : PT X (.Compare a [.NotEq] [b] pos) (tDt X.K C W (bB (e2 neF Fa Fb))) := d_tcmp (op_neD hu) d_ne2 ha hb (nomark _)
theorem t_lt (ha : PE X a (tD X.K C W Fa)) (hb : PE X b (tD X.K C W Fb)) : PT X (.Compare a [.Lt] [b] pos) (tDt X.K C W (bB (e2 ltF Fa Fb))) := d_tcmp o_lt d_lt2 ha hb (nomark _)
theorem t_gt (ha : PE X a (tD X.K C W Fa)) (hb : PE X b (tD X.K C W Fb)) : PT X (.Compare a [.Gt] [b] pos) (tDt X.K C W (bB (e2 gtF Fa Fb))) := d_tcmp (rI_of0 op_gt) d_gt2 ha hb (nomark _)
theorem t_ge (ha : PE X a (tD X.K C W Fa)) (hb : PE X b (tD X.K C W Fb)) : PT X (.Compare a [.GtE] [b] pos) (tDt X.K C W (bB (e2 geF Fa Fb))) := d_tcmp (rI_of0 op_ge) d_ge2 ha hb (nomark _)
/-- a < b < c: both asked -/
@[simp] def e3 (f f' : D → D → Option D) (Fa Fb Fc : EF) : EF := fun ρ b => (Fa ρ b).bind fun x b1 => (Fb ρ b1).bind fun y b2 => match f x y with
  | some (.bl true) => (Fc ρ b2).bind fun z b3 => Out.pureO (f' y z) b3
  | some (.bl false) => .ok (.bl false) b2
  | _ => .stuck
/-- -n -/
@[simp] def negF : D → Option D
  | .int i => some (.int (-i))
  | _ => none
theorem d_neg (ha : PE X a (tD X.K C W Fa)) : PE X (.UnaryOp .USub a pos) (tD X.K C W (e1 negF Fa)) := pe_imp (pe_un un_neg ha) fun σ H Q ⟨S, ρ, b, ok, q⟩ => by
  refine ⟨S, ρ, b, ok, q.bind.imp fun d b1 S1 H1 s1 ok1 q1 v r => ?_⟩
  obtain ⟨z, hz, q2⟩ := q1.pureO
  cases d with
  | int i => cases hz; cases r; exact ⟨i, rfl, q2 S1 H1 (Same.refl _) ok1 _ (.int _)⟩
  | _ => cases hz
end
end DL

set_option maxHeartbeats 1000000
namespace DL
open PySem PySem.Spec PyProof.Rows L2
section
variable {X : Cx} {C : Cq} {W : WX} {e a b : Expr} {pos : Pos} {F Fa Fb : EF} {G : AF}
@[simp] def ixF (b : Bag) : D → D → Option D
  | .lst ds, .int i => atI ds i
  | .fl ds, .int i => atI ds i
  | .tup ds, .int i => atI ds i
  | .str x, .int i => if x.length ≤ 100000 then (atI x.cps.toList i).map fun c => .str ⟨#[c]⟩ else none
  | .bag, .int i => atI b.ds i
  | _, _ => none
@[simp] def eIx (Fa Fb : EF) : EF := fun ρ b => (Fa ρ b).bind fun x b1 => (Fb ρ b1).bind fun y b2 => Out.pureO (ixF b2 x y) b2
theorem DRs.atI {K : PySem.W.Frag} {ba : Option Addr} {S : Hp} {vs : List V} {ds : List D} {i : Int} {d : D} (h : DRs K ba S vs ds) (e : atI ds i = some d) : ∃ v, L2.atI vs i = some v ∧ DR K ba S v d := by
  unfold L2.atI at e ⊢
  rw [h.length]
  cases hi : ixN ds.length i with
  | none => rw [hi] at e; cases e
  | some j =>
    rw [hi] at e
    exact h.get e
theorem d_ix (ha : PE X a (tD X.K C W Fa)) (hb : PE X b (tD X.K C W Fb)) (hs : PlainIx b) : PE X (.Subscript a b pos) (tD X.K C W (eIx Fa Fb)) := pe_imp (pe_ix ix_seq ha hb hs) fun σ H Q ⟨S, ρ, b0, ok, q⟩ => by
  refine ⟨S, ρ, b0, ok, q.bind.imp fun x b1 S1 H1 s1 ok1 q1 v r1 => ⟨S1, ρ, b1, ok1, q1.bind.imp fun y b2 S2 H2 s2 ok2 q2 w r2 => ?_⟩⟩
  obtain ⟨z, hz, q3⟩ := q2.pureO
  have r1 := r1.up s2
  cases y with
  | int i =>
    cases r2
    cases x with
    | lst ds =>
      cases r1 with
      | lst h1 h2 =>
        obtain ⟨u, hu, ru⟩ := h2.atI hz
        exact .inl ⟨_, _, i, u, rfl, rfl, SqL.of (ok2.core.sub _ _ h1), hu, q3 S2 H2 (Same.refl _) ok2 u ru⟩
    | fl ds =>
      cases r1 with
      | fl h1 h2 =>
        obtain ⟨u, hu, ru⟩ := h2.atI hz
        exact .inl ⟨_, _, i, u, rfl, rfl, ok2.core.sub.seq h1, hu, q3 S2 H2 (Same.refl _) ok2 u ru⟩
    | tup ds =>
      cases r1 with
      | tup h1 h2 =>
        obtain ⟨u, hu, ru⟩ := h2.atI hz
        exact .inr (.inl ⟨_, _, i, u, rfl, rfl, seqT ok2.core.sub h1, hu, q3 S2 H2 (Same.refl _) ok2 u ru⟩)
    | str x =>
      cases r1
      simp only [ixF] at hz
      by_cases hl : x.length ≤ 100000
      · rw [if_pos hl] at hz
        simp only [Option.map_eq_some_iff] at hz
        obtain ⟨c, hc, rfl⟩ := hz
        exact .inr (.inr ⟨_, i, c, rfl, rfl, big_le hl, hc, q3 S2 H2 (Same.refl _) ok2 _ (.str _)⟩)
      · rw [if_neg hl] at hz; cases hz
    | bag =>
      cases r1 with
      | bag hb =>
        obtain ⟨h1, _⟩ := ok2.core.bag _ hb
        have rb : DRs X.K C.ba S2 [V.int b2.x, V.int b2.y, V.int b2.z] b2.ds := .cons (.int _) (.cons (.int _) (.cons (.int _) .nil))
        obtain ⟨u, hu, ru⟩ := rb.atI hz
        exact .inl ⟨_, _, i, u, rfl, rfl, SqL.of h1, hu, q3 S2 H2 (Same.refl _) ok2 u ru⟩
    | non => cases hz
    | bl _ => cases hz
    | int _ => cases hz
    | ins _ _ _ => cases hz
    | obj _ => cases hz
    | dct _ _ => cases hz
    | dtp _ _ => cases hz
  | _ => cases x <;> cases hz
abbrev OF := Env → Bag → Out (Option Int)
def tDO (K : PySem.W.Frag) (C : Cq) (W : WX) (F : OF) : TO := fun σ H Q => ∃ S ρ b, OkS K C S ρ b σ H ∧ OutG K C W S ρ σ (fun o _ _ H' => Q o H') (F ρ b)
theorem po_imp {o : Option Expr} {t t' : TO} (h : PO X o t) (f : ∀ σ H Q, t' σ H Q → t σ H Q) : PO X o t' := ⟨fun pins s σ H Q I q => h.run pins s σ H Q I (f σ H Q q)⟩
def oNo : OF := fun _ b => .ok none b
def oSome (F : EF) : OF := fun ρ b => (F ρ b).bind fun d b' => match d with
  | .int i => .ok (some i) b'
  | _ => .stuck
theorem d_ono : PO X none (tDO X.K C W oNo) := po_imp po_none fun σ H Q ⟨S, ρ, b, ok, q⟩ => q S H (Same.refl _) ok
theorem d_osome (h : PE X e (tD X.K C W F)) : PO X (some e) (tDO X.K C W (oSome F)) := po_imp (po_some h) fun σ H Q ⟨S, ρ, b, ok, q⟩ => by
  refine ⟨S, ρ, b, ok, q.bind.imp fun d b1 S1 H1 s1 ok1 q1 v r => ?_⟩
  cases d with
  | int i => cases r; exact ⟨i, rfl, q1 S1 H1 (Same.refl _) ok1⟩
  | _ => exact q1.elim
def cutD (xs : List D) (lo hi : Option Int) : List D := (xs.drop (HT.sIx xs.length 0 lo)).take (HT.sIx xs.length xs.length hi - HT.sIx xs.length 0 lo)
def slF (lo hi : Option Int) : D → Option D
  | .lst ds => some (.lst (cutD ds lo hi))
  | .fl ds => some (.lst (cutD ds lo hi))
  | .tup ds => some (.tup (cutD ds lo hi))
  | .str x => if x.length ≤ 100000 then some (.str (cutS x lo hi)) else none
  | _ => none
def eSl (F : EF) (lo hi : OF) : EF := fun ρ b => (F ρ b).bind fun d b1 => (lo ρ b1).bind fun l b2 => (hi ρ b2).bind fun h b3 => Out.pureO (slF l h d) b3
theorem cut_dr {K : PySem.W.Frag} {ba : Option Addr} {S : Hp} {vs : List V} {ds : List D} (h : DRs K ba S vs ds) (lo hi : Option Int) : DRs K ba S (cutV vs lo hi) (cutD ds lo hi) := by
  unfold cutV cutD
  rw [h.length]
  exact (h.drop _).take _
def rSlAll (K : PySem.W.Frag) : V → Option Int → Option Int → Hp → VK → Prop := fun x lo hi H Q => rSlL K x lo hi H Q ∨ rSlA K x lo hi H Q ∨ rSlS x lo hi H Q
theorem sl_all : SlR X (rSlAll X.K) := sl_list.or (sl_tupA.or sl_str)
theorem d_slice {lo hi : Option Expr} {Ol Oh : OF} {p2 : Pos} (he : PE X e (tD X.K C W F)) (hl : PO X lo (tDO X.K C W Ol)) (hh : PO X hi (tDO X.K C W Oh)) : PE X (.Subscript e (.Slice lo hi none p2) pos) (tD X.K C W (eSl F Ol Oh)) :=
  pe_imp (pe_slice sl_all he hl hh) fun σ H Q ⟨S, ρ, b, ok, q⟩ => by
  refine ⟨S, ρ, b, ok, q.bind.imp fun d b1 S1 H1 s1 ok1 q1 v r => ⟨S1, ρ, b1, ok1, q1.bind.imp fun l b2 S2 H2 s2 ok2 q2 => ⟨S2, ρ, b2, ok2, q2.bind.imp fun h b3 S3 H3 s3 ok3 q3 => ?_⟩⟩⟩
  obtain ⟨z, hz, q4⟩ := q3.pureO
  have r := r.up (s2.trans s3)
  cases d with
  | lst ds =>
    cases hz
    cases r with
    | lst h1 h2 =>
      refine .inl ⟨_, _, rfl, SqL.of (ok3.core.sub _ _ h1), fun p hp => ?_⟩
      exact q4 _ _ (ok3.same hp) (ok3.alloc hp) _ (.lst upd_same ((cut_dr h2 l h).up (ok3.same hp)))
  | fl ds =>
    cases hz
    cases r with
    | fl h1 h2 =>
      refine .inl ⟨_, _, rfl, ok3.core.sub.seq h1, fun p hp => ?_⟩
      exact q4 _ _ (ok3.same hp) (ok3.alloc hp) _ (.lst upd_same ((cut_dr h2 l h).up (ok3.same hp)))
  | tup ds =>
    cases hz
    cases r with
    | tup h1 h2 =>
      refine .inr (.inl ⟨_, _, rfl, seqT ok3.core.sub h1, fun hw => ?_, fun _ p hp => ?_⟩)
      · have e1 : cutD ds l h = ds := by
          unfold cutD
          rw [h2.length] at hw
          rw [hw.1, hw.2, List.drop_zero, Nat.sub_zero, List.take_length]
        rw [e1] at q4
        exact q4 S3 H3 (Same.refl _) ok3 _ (.tup h1 h2)
      · exact q4 _ _ (ok3.same hp) (ok3.alloc hp) _ (.tup upd_same ((cut_dr h2 l h).up (ok3.same hp)))
  | str x =>
    cases r
    simp only [slF] at hz
    by_cases hx : x.length ≤ 100000
    · rw [if_pos hx] at hz
      cases hz
      exact .inr (.inr ⟨x, rfl, big_le hx, q4 S3 H3 (Same.refl _) ok3 _ (.str _)⟩)
    · rw [if_neg hx] at hz; cases hz
  | _ => cases hz
@[simp] def eB (f : List D → Option D) (G : AF) : EF := fun ρ b => (G ρ b).bind fun ds b' => Out.pureO (f ds) b'
def CallD (K : PySem.W.Frag) (C : Cq) (r : List V → Hp → VK → Prop) (f : List D → Option D) : Prop := ∀ (S : Hp) (ρ : Env) (b : Bag) (σ : L2.St) (H : Hp) (vs : List V) (ds : List D) (z : D) (Q : VK), OkS K C S ρ b σ H → DRs K C.ba S vs ds → f ds = some z →
  (∀ u S' H', Same S S' → OkS K C S' ρ b σ H' → DR K C.ba S' u z → Q u H') → r vs H Q
theorem tCB_of {r : List V → Hp → VK → Prop} {f : List D → Option D} (hf : CallD X.K C r f) {σ : L2.St} {H : Hp} {Q : VK} (h : tD X.K C W (eB f G) σ H Q) : tCB r (tDA X.K C W G) σ H Q := by
  obtain ⟨S, ρ, b, ok, q⟩ := h
  refine ⟨S, ρ, b, ok, q.bind.imp fun ds b1 S1 H1 s1 ok1 q1 vs rs => ?_⟩
  obtain ⟨z, hz, q2⟩ := q1.pureO
  exact hf S1 ρ b1 σ H1 vs ds z Q ok1 rs hz fun u S' H' e o r => q2 S' H' e o u r
theorem d_callB {id : String} {r : List V → Hp → VK → Prop} {f : List D → Option D} {x : Str} {p : Pos} {es : List Expr} (hc : CallR X (.builtin id) r) (hf : CallD X.K C r f) (hg : Gl X x) (hm : X.mg x = none) (hv : bootBuiltins x = some (.builtin id)) (ha : PA X (e :: es) (tDA X.K C W G))
    (hn : x ≠ "__name__" := by decide) (hdb : (x == ("__debug__" : Str)) = false := by decide) (he : starEach (e :: es) X.env = (false, eval e X.env) :: starEach es X.env := by rfl) (hpl : (backTo pos (starEach es X.env)).any (·.1) = false := by rfl) :
    PE X (.Call (.Name x p) (e :: es) [] pos) (tD X.K C W (eB f G)) := pe_imp (pe_callB hc hg hm hv ha hn hdb he hpl) fun _ _ _ h => tCB_of hf h
theorem d_callTy {T : String} {r : List V → Hp → VK → Prop} {f : List D → Option D} {x : Str} {p : Pos} {es : List Expr} (hc : CallR X (.type T) r) (hf : CallD X.K C r f) (hg : Gl X x) (hm : X.mg x = none) (hv : bootBuiltins x = some (.type T)) (ha : PA X (e :: es) (tDA X.K C W G))
    (hn : x ≠ "__name__" := by decide) (hdb : (x == ("__debug__" : Str)) = false := by decide) (he : starEach (e :: es) X.env = (false, eval e X.env) :: starEach es X.env := by rfl) (hpl : (backTo pos (starEach es X.env)).any (·.1) = false := by rfl) :
    PE X (.Call (.Name x p) (e :: es) [] pos) (tD X.K C W (eB f G)) := pe_imp (pe_callTy hc hg hm hv ha hn hdb he hpl) fun _ _ _ h => tCB_of hf h
@[simp] def lenF : List D → Option D
  | [.lst ds] => some (.int ds.length)
  | [.fl ds] => some (.int ds.length)
  | [.tup ds] => some (.int ds.length)
  | [.str x] => if x.length ≤ 100000 then some (.int x.length) else none
  | _ => none
theorem c_len {K : PySem.W.Frag} : CallD K C (fun xs H Q => ∃ x n, xs = [x] ∧ LenV K x H n ∧ Q (.int n) H) lenF := by
  intro S ρ b σ H vs ds z Q ok rs hz q
  unfold lenF at hz
  split at hz
  · cases hz
    cases rs with
    | cons r1 r2 =>
      cases r2
      cases r1 with
      | lst h1 h2 => exact ⟨_, _, rfl, .inl ⟨_, SqL.of (ok.core.sub _ _ h1), h2.length.symm⟩, q _ S H (Same.refl _) ok (.int _)⟩
  · cases hz
    cases rs with
    | cons r1 r2 =>
      cases r2
      cases r1 with
      | fl h1 h2 => exact ⟨_, _, rfl, .inl ⟨_, ok.core.sub.seq h1, h2.length.symm⟩, q _ S H (Same.refl _) ok (.int _)⟩
  · cases hz
    cases rs with
    | cons r1 r2 =>
      cases r2
      cases r1 with
      | tup h1 h2 => exact ⟨_, _, rfl, .inr ⟨_, seqT ok.core.sub h1, h2.length.symm⟩, q _ S H (Same.refl _) ok (.int _)⟩
  · split at hz
    · rename_i hl
      cases hz
      cases rs with
      | cons r1 r2 =>
        cases r2
        cases r1
        exact ⟨_, _, rfl, ⟨big_le hl, rfl⟩, q _ S H (Same.refl _) ok (.int _)⟩
    · cases hz
  · cases hz
theorem d_len {p : Pos} (hg : Gl X "len") (hm : X.mg "len" = none) (ha : PA X [a] (tDA X.K C W G)) (he : starEach [a] X.env = (false, eval a X.env) :: starEach [] X.env := by rfl) (hpl : (backTo pos (starEach [] X.env)).any (·.1) = false := by rfl) :
    PE X (.Call (.Name "len" p) [a] [] pos) (tD X.K C W (eB lenF G)) := d_callB call_len c_len hg hm PySem.boot_len ha (by decide) (by decide) he hpl
/-- functions of ints alone -/
theorem c_int1 {K : PySem.W.Frag} {g : Int → Int} {f : List D → Option D} (hf : ∀ ds z, f ds = some z → ∃ i, ds = [.int i] ∧ z = .int (g i)) : CallD K C (fun xs H Q => ∃ i, xs = [.int i] ∧ Q (.int (g i)) H) f := by
  intro S ρ b σ H vs ds z Q ok rs hz q
  obtain ⟨i, rfl, rfl⟩ := hf _ _ hz
  cases rs with
  | cons r1 r2 => cases r2; cases r1; exact ⟨i, rfl, q _ S H (Same.refl _) ok (.int _)⟩
@[simp] def absF : List D → Option D
  | [.int i] => some (.int (if i < 0 then -i else i))
  | _ => none
theorem d_abs {p : Pos} (hg : Gl X "abs") (hm : X.mg "abs" = none) (ha : PA X [a] (tDA X.K C W G)) (he : starEach [a] X.env = (false, eval a X.env) :: starEach [] X.env := by rfl) (hpl : (backTo pos (starEach [] X.env)).any (·.1) = false := by rfl) :
    PE X (.Call (.Name "abs" p) [a] [] pos) (tD X.K C W (eB absF G)) := d_callB call_abs (c_int1 (g := fun i => if i < 0 then -i else i) fun ds z h => by
      unfold absF at h
      split at h
      · cases h; exact ⟨_, rfl, rfl⟩
      · cases h) hg hm (by decide +kernel) ha (by decide) (by decide) he hpl
@[simp] def intF : List D → Option D
  | [.int i] => some (.int i)
  | [.bl k] => some (.int (if k then 1 else 0))
  | _ => none
theorem c_intc {K : PySem.W.Frag} : CallD K C (fun xs H Q => (∃ i, xs = [.int i] ∧ Q (.int i) H) ∨ ∃ k, xs = [.bl k] ∧ Q (.int (if k then 1 else 0)) H) intF := by
  intro S ρ b σ H vs ds z Q ok rs hz q
  unfold intF at hz
  split at hz
  · cases hz
    cases rs with
    | cons r1 r2 => cases r2; cases r1; exact .inl ⟨_, rfl, q _ S H (Same.refl _) ok (.int _)⟩
  · cases hz
    cases rs with
    | cons r1 r2 => cases r2; cases r1; exact .inr ⟨_, rfl, q _ S H (Same.refl _) ok (.int _)⟩
  · cases hz
theorem d_int {p : Pos} (hg : Gl X "int") (hm : X.mg "int" = none) (ha : PA X [a] (tDA X.K C W G)) (he : starEach [a] X.env = (false, eval a X.env) :: starEach [] X.env := by rfl) (hpl : (backTo pos (starEach [] X.env)).any (·.1) = false := by rfl) : PE X (.Call (.Name "int" p) [a] [] pos) (tD X.K C W (eB intF G)) := d_callTy call_int1 c_intc hg hm (by decide +kernel) ha (by decide) (by decide) he hpl
def maxF : List D → Option D
  | [.int i, .int j] => some (.int (if j > i then j else i))
  | _ => none
def minF : List D → Option D
  | [.int i, .int j] => some (.int (if j < i then j else i))
  | _ => none
theorem c_int2 {K : PySem.W.Frag} {g : Int → Int → Int} {f : List D → Option D} (hf : ∀ ds z, f ds = some z → ∃ i j, ds = [.int i, .int j] ∧ z = .int (g i j)) : CallD K C (fun xs H Q => ∃ i j, xs = [.int i, .int j] ∧ Q (.int (g i j)) H) f := by
  intro S ρ b σ H vs ds z Q ok rs hz q
  obtain ⟨i, j, rfl, rfl⟩ := hf _ _ hz
  cases rs with
  | cons r1 r2 =>
    cases r2 with
    | cons r2 r3 => cases r3; cases r1; cases r2; exact ⟨i, j, rfl, q _ S H (Same.refl _) ok (.int _)⟩
theorem d_max2 {p : Pos} (hc : X.calm = true) (hg : Gl X "max") (hm : X.mg "max" = none) (ha : PA X [a, b] (tDA X.K C W G)) (he : starEach [a, b] X.env = (false, eval a X.env) :: starEach [b] X.env := by rfl) (hpl : (backTo pos (starEach [b] X.env)).any (·.1) = false := by rfl) :
    PE X (.Call (.Name "max" p) [a, b] [] pos) (tD X.K C W (eB maxF G)) := d_callB (call_max2 hc) (c_int2 (g := fun i j => if j > i then j else i) fun ds z h => by
      unfold maxF at h
      split at h
      · cases h; exact ⟨_, _, rfl, rfl⟩
      · cases h) hg hm (by decide +kernel) ha (by decide) (by decide) he hpl
theorem d_min2 {p : Pos} (hc : X.calm = true) (hg : Gl X "min") (hm : X.mg "min" = none) (ha : PA X [a, b] (tDA X.K C W G)) (he : starEach [a, b] X.env = (false, eval a X.env) :: starEach [b] X.env := by rfl) (hpl : (backTo pos (starEach [b] X.env)).any (·.1) = false := by rfl) :
    PE X (.Call (.Name "min" p) [a, b] [] pos) (tD X.K C W (eB minF G)) := d_callB (call_min2 hc) (c_int2 (g := fun i j => if j < i then j else i) fun ds z h => by
      unfold minF at h
      split at h
      · cases h; exact ⟨_, _, rfl, rfl⟩
      · cases h) hg hm (by decide +kernel) ha (by decide) (by decide) he hpl
@[simp] def divmodF : List D → Option D
  | [.int i, .int j] => if 0 < j ∧ j < 1073741824 then some (.tup [.int (i / j), .int (i % j)]) else none
  | _ => none
theorem c_divmod {K : PySem.W.Frag} : CallD K C (fun xs H Q => ∃ i j, xs = [.int i, .int j] ∧ CDiv i j ∧ ∀ p, H p = none → Q (.ref p) (upd H p (.tup [.int (i / j), .int (i % j)]))) divmodF := by
  intro S ρ b σ H vs ds z Q ok rs hz q
  unfold divmodF at hz
  split at hz
  · split at hz
    · rename_i h
      cases hz
      cases rs with
      | cons r1 r2 =>
        cases r2 with
        | cons r2 r3 =>
          cases r3; cases r1; cases r2
          exact ⟨_, _, rfl, h, fun p hp => q _ _ _ (ok.same hp) (ok.alloc hp) (.tup upd_same (.cons (.int _) (.cons (.int _) .nil)))⟩
    · cases hz
  · cases hz
theorem d_divmod {p : Pos} (hg : Gl X "divmod") (hm : X.mg "divmod" = none) (ha : PA X [a, b] (tDA X.K C W G)) (he : starEach [a, b] X.env = (false, eval a X.env) :: starEach [b] X.env := by rfl) (hpl : (backTo pos (starEach [b] X.env)).any (·.1) = false := by rfl) :
    PE X (.Call (.Name "divmod" p) [a, b] [] pos) (tD X.K C W (eB divmodF G)) := d_callB call_divmod c_divmod hg hm (by decide +kernel) ha (by decide) (by decide) he hpl
def tupleF : List D → Option D
  | [.lst ds] => some (.tup ds)
  | [.fl ds] => some (.tup ds)
  | [.tup ds] => some (.tup ds)
  | _ => none
theorem c_tuple {K : PySem.W.Frag} : CallD K C (fun xs H Q => ∃ p ys, xs = [.ref p] ∧ ((SqL K H p ys ∧ ∀ l, H l = none → Q (.ref l) (upd H l (.tup ys))) ∨ (SqT K H p ys ∧ Q (.ref p) H))) tupleF := by
  intro S ρ b σ H vs ds z Q ok rs hz q
  unfold tupleF at hz
  split at hz
  · cases hz
    cases rs with
    | cons r1 r2 =>
      cases r2
      cases r1 with
      | lst h1 h2 => exact ⟨_, _, rfl, .inl ⟨SqL.of (ok.core.sub _ _ h1), fun p hp => q _ _ _ (ok.same hp) (ok.alloc hp) (.tup upd_same (h2.up (ok.same hp)))⟩⟩
  · cases hz
    cases rs with
    | cons r1 r2 =>
      cases r2
      cases r1 with
      | fl h1 h2 => exact ⟨_, _, rfl, .inl ⟨ok.core.sub.seq h1, fun p hp => q _ _ _ (ok.same hp) (ok.alloc hp) (.tup upd_same (h2.up (ok.same hp)))⟩⟩
  · cases hz
    cases rs with
    | cons r1 r2 =>
      cases r2
      cases r1 with
      | tup h1 h2 => exact ⟨_, _, rfl, .inr ⟨seqT ok.core.sub h1, q _ S H (Same.refl _) ok (.tup h1 h2)⟩⟩
  · cases hz
theorem d_tuple {p : Pos} (hg : Gl X "tuple") (hm : X.mg "tuple" = none) (ha : PA X [a] (tDA X.K C W G)) (he : starEach [a] X.env = (false, eval a X.env) :: starEach [] X.env := by rfl) (hpl : (backTo pos (starEach [] X.env)).any (·.1) = false := by rfl) : PE X (.Call (.Name "tuple" p) [a] [] pos) (tD X.K C W (eB tupleF G)) := d_callTy call_tuple_of c_tuple hg hm (by decide +kernel) ha (by decide) (by decide) he hpl
/-- all of a list of truths -/
def truths : List D → Option (List Bool)
  | [] => some []
  | .bl k :: ds => (truths ds).map (k :: ·)
  | _ :: _ => none
def allF : List D → Option D
  | [.lst ds] => (truths ds).map fun ks => .bl (ks.all id)
  | _ => none
theorem truths_dr {K : PySem.W.Frag} {ba : Option Addr} {S : Hp} : ∀ {ds : List D} {vs : List V} {ks : List Bool}, DRs K ba S vs ds → truths ds = some ks → vs = ks.map V.bl
  | [], _, _, r, h => by cases r; cases h; rfl
  | .bl k :: ds, _, _, r, h => by
    simp only [truths, Option.map_eq_some_iff] at h
    obtain ⟨ks, h1, rfl⟩ := h
    cases r with
    | cons r1 r2 => cases r1; rw [truths_dr r2 h1]; rfl
  | .non :: _, _, _, _, h => by cases h
  | .int _ :: _, _, _, _, h => by cases h
  | .str _ :: _, _, _, _, h => by cases h
  | .tup _ :: _, _, _, _, h => by cases h
  | .lst _ :: _, _, _, _, h => by cases h
  | .fl _ :: _, _, _, _, h => by cases h
  | .ins _ _ _ :: _, _, _, _, h => by cases h
  | .obj _ :: _, _, _, _, h => by cases h
  | .bag :: _, _, _, _, h => by cases h
  | .dct _ _ :: _, _, _, _, h => by cases h
  | .dtp _ _ :: _, _, _, _, h => by cases h
theorem c_all {K : PySem.W.Frag} : CallD K C (rAll K) allF := by
  intro S ρ b σ H vs ds z Q ok rs hz q
  unfold allF at hz
  split at hz
  · simp only [Option.map_eq_some_iff] at hz
    obtain ⟨ks, hk, rfl⟩ := hz
    cases rs with
    | cons r1 r2 =>
      cases r2
      cases r1 with
      | lst h1 h2 =>
        have e := truths_dr h2 hk
        subst e
        exact ⟨_, ks, rfl, SqL.of (ok.core.sub _ _ h1), q _ S H (Same.refl _) ok (.bl _)⟩
  · cases hz
theorem d_all {p : Pos} (hc : X.calm = true) (hg : Gl X "all") (hm : X.mg "all" = none) (ha : PA X [a] (tDA X.K C W G)) (he : starEach [a] X.env = (false, eval a X.env) :: starEach [] X.env := by rfl) (hpl : (backTo pos (starEach [] X.env)).any (·.1) = false := by rfl) :
    PE X (.Call (.Name "all" p) [a] [] pos) (tD X.K C W (eB allF G)) := d_callB (cr_all hc) c_all hg hm (by decide +kernel) ha (by decide) (by decide) he hpl
end
end DL

set_option maxHeartbeats 1000000
namespace DL
open PySem PySem.Spec PyProof.Rows L2
section
variable {X : Cx} {C : Cq} {W : WX} {st : Stmt} {e a b o : Expr} {es : List Expr} {pos apos cpos : Pos} {F Fa Fb : EF} {G : AF}
def reprF : List D → Option D
  | [.lst ds] => (D.lst ds).pd.bind fun p => if p.showable = true ∧ p.hasDict = false ∧ p.depth ≤ 60 ∧ p.shown.length ≤ 1000000 then some (.str p.shown) else none
  | [.tup ds] => (D.tup ds).pd.bind fun p => if p.showable = true ∧ p.hasDict = false ∧ p.depth ≤ 60 ∧ p.shown.length ≤ 1000000 then some (.str p.shown) else none
  | [.int i] => if i.natAbs.log2 < 1920 then some (.str (toString i)) else none
  | _ => none
def rRepr (K : PySem.W.Frag) : List V → Hp → VK → Prop := fun vs H Q => (∃ i, vs = [.int i] ∧ i.natAbs.log2 < 1920 ∧ Q (.str (toString i)) H) ∨
  ∃ a p, vs = [.ref a] ∧ Dp K H (.ref a) p ∧ p.showable = true ∧ p.hasDict = false ∧ p.depth ≤ 60 ∧ p.shown.length ≤ 1000000 ∧ Q (.str p.shown) H
theorem cr_repr (hg : X.A.guards = some []) (hu : X.A.units + 64 < cLine) : CallR X (.builtin "repr") (rRepr X.K) := by
  intro pins s σ H xs us Q I r h
  rcases h with ⟨i, rfl, hz, q⟩ | ⟨a, p, rfl, hd, h1, h2, h3, h4, q⟩
  · cases r with
    | cons r1 r2 =>
      cases r2
      obtain ⟨t, rfl⟩ := r1
      exact PySem.P.repr_of_int hz ⟨.str _, H, I.tok _, ⟨_, rfl⟩, q⟩
  · cases r with
    | cons r1 r2 =>
      cases r2
      cases r1
      obtain ⟨as, rd⟩ := Dp.reads I p (.ref a) (.ref a) hd rfl
      exact repr_of_reads' rd h1 (PyData.noDict_hsm h2) hg (by omega) (fun _ _ z => z) (fun h' u tk hk => ⟨.str p.shown, H, I.kept hk, ⟨u, rfl⟩, q⟩) (by rw [sizeLine_eq]; omega)
theorem c_repr {K : PySem.W.Frag} : CallD K C (rRepr K) reprF := by
  intro S ρ b σ H vs ds z Q ok rs hz q
  unfold reprF at hz
  split at hz
  · simp only [Option.bind_eq_some_iff] at hz
    obtain ⟨p, hp, hz⟩ := hz
    split at hz
    · rename_i hc
      cases hz
      cases rs with
      | cons r1 r2 =>
        cases r2
        have hd := DR.dp ok.core.sub _ _ p r1 hp
        cases r1 with
        | lst h1 h2 => exact .inr ⟨_, p, rfl, hd, hc.1, hc.2.1, hc.2.2.1, hc.2.2.2, q _ S H (Same.refl _) ok (.str _)⟩
    · cases hz
  · simp only [Option.bind_eq_some_iff] at hz
    obtain ⟨p, hp, hz⟩ := hz
    split at hz
    · rename_i hc
      cases hz
      cases rs with
      | cons r1 r2 =>
        cases r2
        have hd := DR.dp ok.core.sub _ _ p r1 hp
        cases r1 with
        | tup h1 h2 => exact .inr ⟨_, p, rfl, hd, hc.1, hc.2.1, hc.2.2.1, hc.2.2.2, q _ S H (Same.refl _) ok (.str _)⟩
    · cases hz
  · split at hz
    · rename_i hc
      cases hz
      cases rs with
      | cons r1 r2 => cases r2; cases r1; exact .inl ⟨_, rfl, hc, q _ S H (Same.refl _) ok (.str _)⟩
    · cases hz
  · cases hz
theorem d_repr {p : Pos} (hgd : X.A.guards = some []) (hu : X.A.units + 64 < cLine) (hg : Gl X "repr") (hm : X.mg "repr" = none) (ha : PA X [a] (tDA X.K C W G)) (he : starEach [a] X.env = (false, eval a X.env) :: starEach [] X.env := by rfl) (hpl : (backTo pos (starEach [] X.env)).any (·.1) = false := by rfl) :
    PE X (.Call (.Name "repr" p) [a] [] pos) (tD X.K C W (eB reprF G)) := d_callB (cr_repr hgd hu) c_repr hg hm (by decide +kernel) ha (by decide) (by decide) he hpl
/-- xs.append(e), xs an owned list in slot i -/
@[simp] def sPush (i : Nat) (F : EF) : SF := fun ρ b => match ρ[i]? with
  | some (some (.ow (.lst ds))) => (F ρ b).st ρ fun d b' => if ds.length ≤ 100000 then .nx (ρ.set i (some (.ow (.lst (ds ++ [d]))))) b' else .stuck
  | _ => .stuck
theorem d_push {i : Nat} {x : Str} {px : Pos} (hx : PE X (.Name x px) (tVar i)) (he : PE X e (tD X.K C W F))
    (hbase : attributeBase (.Name x px) "append" X.env (eval (.Name x px) X.env) = eval (.Name x px) X.env := by rfl)
    (hfew : ((backTo cpos (starEach [e] X.env)).all (fun x => !x.1) && (backToKw cpos (keywordEach [] X.env)).all (fun x => x.1.isSome)
      && decide ([e].length + ([] : List Keyword).length + (if ([] : List Keyword).isEmpty then 0 else 1) < 30)) = true := by rfl)
    (hline : (apos.endLine == cpos.line) = true := by rfl) (hs : starEach [e] X.env = (false, eval e X.env) :: starEach [] X.env := by rfl) (hplain : (backTo cpos (starEach [] X.env)).any (·.1) = false := by rfl)
    (hsw : swapsWith (.Call (.Attribute (.Name x px) "append" apos) [e] [] cpos) none pos.line X.env = pure false := by rfl) :
    PS X (.Expr (.Call (.Attribute (.Name x px) "append" apos) [e] [] cpos) pos) (tDS X.K C W (sPush i F)) :=
  ps_imp (ps_expr (pe_bm PySem.F.plainAttrs_list PySem.F.slot_list_append PySem.F.type_list_append mt_append hx (pa_cons he pa_nil hs) hbase hfew hline hs hplain) hsw) fun E σ H ⟨S, ρ, b, ok, q⟩ => by
  unfold sPush at q
  split at q
  · rename_i ds hr
    obtain ⟨p, u, e1, hp, r, _⟩ := ok.getOw hr
    cases r with
    | lst r =>
      refine ⟨_, e1, .inl ⟨rfl, _, SqL.of hp⟩, S, ρ, b, ok, q.st.imp fun d b1 S1 H1 s1 ok1 q1 v rv => ?_⟩
      obtain ⟨p', u', e1', hp', r', _, _, _, wr, _⟩ := ok1.getOw hr
      rw [e1] at e1'
      cases e1'
      cases r' with
      | @lst xs' _ r' =>
        by_cases hl : ds.length ≤ 100000
        · rw [if_pos hl] at q1
          refine ⟨p, xs', v, rfl, rfl, hp', small_lt (by rw [r'.length]; exact hl), ?_⟩
          exact q1 S1 σ _ (Same.refl _) (wr _ _ (.lst (r'.app (.cons rv .nil))))
        · rw [if_neg hl] at q1
          exact q1.elim
  · exact q.elim
/-- a store into an owned list: the target xs[k], k a constant or a name of an int -/
def gOw (i : Nat) (ix : Env → Option Int) : GF := fun d ρ b => match ρ[i]?, ix ρ with
  | some (some (.ow (.lst ds))), some k => (ixN ds.length k).map fun j => (ρ.set i (some (.ow (.lst (ds.set j d)))), b)
  | _, _ => none
/-- .. into the bag in slot i -/
@[simp] def Bag.set (b : Bag) (k : Int) (z : Int) : Option Bag := if k = 0 then some ⟨z, b.y, b.z⟩ else if k = 1 then some ⟨b.x, z, b.z⟩ else if k = 2 then some ⟨b.x, b.y, z⟩ else none
@[simp] def gBag (i : Nat) (k : Int) : GF := fun d ρ b => match ρ[i]?, d with
  | some (some (.sh .bag)), .int z => (b.set k z).map fun b' => (ρ, b')
  | _, _ => none
theorem d_gow {i : Nat} {x : Expr} {ti : TE} {ix : Env → Option Int} (h : PG X (.Subscript x a pos) (gSub (tVar i) ti rSetL)) (hi : ∀ (S : Hp) (ρ : Env) (b : Bag) (σ : L2.St) (H : Hp) (k : Int) (Q : VK), OkS X.K C S ρ b σ H → ix ρ = some k → Q (.int k) H → ti σ H Q) :
    PG X (.Subscript x a pos) (tDG X.K C (gOw i ix)) := pg_imp h fun v σ H Q ⟨S, ρ, b, d, ρ', b', ok, r, e, q⟩ => by
  unfold gOw at e
  split at e
  · rename_i ds k hr hk
    simp only [Option.map_eq_some_iff] at e
    obtain ⟨j, hj, e⟩ := e
    obtain ⟨p, u, e1, hp, ro, _, _, _, wr, _⟩ := ok.getOw hr
    cases ro with
    | lst ro =>
      refine ⟨_, e1, hi S ρ b σ H k _ ok hk ⟨p, _, k, j, rfl, rfl, hp, by rw [ro.length]; exact hj, ?_⟩⟩
      cases e
      exact q S σ _ (Same.refl _) (wr _ _ (.lst (ro.set j r)))
  · cases e
theorem ix_const {K : PySem.W.Frag} {k : Int} : ∀ (S : Hp) (ρ : Env) (b : Bag) (σ : L2.St) (H : Hp) (k' : Int) (Q : VK), OkS K C S ρ b σ H → (fun _ : Env => some k) ρ = some k' → Q (.int k') H → tC (.int k) σ H Q := fun S ρ b σ H k' Q _ e q => by
  cases e
  exact q
theorem d_gbag {i : Nat} {x : Expr} {k : Int} (h : PG X (.Subscript x a pos) (gSub (tVar i) (tC (.int k)) rSetL)) : PG X (.Subscript x a pos) (tDG X.K C (gBag i k)) := pg_imp h fun v σ H Q ⟨S, ρ, b, d, ρ', b', ok, r, e, q⟩ => by
  unfold gBag at e
  split at e
  · rename_i z hr
    simp only [Option.map_eq_some_iff] at e
    obtain ⟨b2, hb, e⟩ := e
    cases e
    cases r
    obtain ⟨u, hu, ru⟩ := ok.get hr
    cases ru with
    | @bag p hp =>
      obtain ⟨h1, h2⟩ := ok.core.bag p hp
      have fin : ∀ j, ixN 3 k = some j → [V.int b.x, V.int b.y, V.int b.z].set j (.int z) = [V.int b'.x, V.int b'.y, V.int b'.z] → gSub (tVar i) (tC (.int k)) rSetL (.int z) σ H Q := fun j hj he => by
        refine ⟨_, hu, p, _, k, j, rfl, rfl, h1, hj, ?_⟩
        rw [he]
        exact q S σ _ (Same.refl _) (ok.bagW hp)
      unfold Bag.set at hb
      by_cases h0 : k = 0
      · subst h0
        rw [if_pos rfl] at hb
        cases hb
        exact fin 0 rfl rfl
      · rw [if_neg h0] at hb
        by_cases h1 : k = 1
        · subst h1
          rw [if_pos rfl] at hb
          cases hb
          exact fin 1 rfl rfl
        · rw [if_neg h1] at hb
          by_cases h2 : k = 2
          · subst h2
            rw [if_pos rfl] at hb
            cases hb
            exact fin 2 rfl rfl
          · rw [if_neg h2] at hb
            cases hb
  · cases e
/-- an expression within: in an inner run, without the owned -/
def tDin (K : PySem.W.Frag) (F : EF) : TE := fun σ H Q => ∃ C, tD K C W0 F σ H Q
/-- a, b, c = x, [..], y: the middle one a fresh list, owned from here on -/
def sMid (i j l : Nat) (F1 F2 F3 : EF) : SF := fun ρ b => (F1 ρ b).st ρ fun d1 b1 => (F2 ρ b1).st ρ fun d2 b2 => match F3 (unown ρ) b2 with
  | .ok d3 b3 => .nx (((ρ.set i (some (.sh d1))).set j (some (.ow d2))).set l (some (.sh d3))) b3
  | _ => .stuck
theorem OkF.frame {K : PySem.W.Frag} {S S' H H' : Hp} {ρ : Env} {b b' : Bag} {σ : L2.St} {p : Addr} {u : HO} (o : OkF K C S ρ b σ H p u) (d : Core (inner C S H) S' b' H') (es : Same S S') (nt : ∀ xs, u ≠ .tup xs := by first | (intro _ z; cases z; done) | (intro _ z; subst z; cases ‹ODR _ _ _ (.tup _) _›)) : OkF K C S' ρ b' σ H' p u := by
  obtain ⟨c, h1, h2, h3, h4, O, s, w, n⟩ := o
  have none_of : ∀ q u, S q = none → H q = some u → C.ba ≠ some q → (∀ xs, u ≠ .tup xs) → S' q = none := fun q u hS hH hb nt => by
    cases z : S' q with
    | none => rfl
    | some v =>
      rcases d.new q v z with y | y | ⟨ys, y⟩
      · have y' : S q = some v := y
        rw [hS] at y'; cases y'
      · have y' : H q = none := y
        rw [hH] at y'; cases y'
      · have y' := d.sub _ _ z
        rw [d.fr q u hH hb, y] at y'
        exact absurd (Option.some.inj y') (nt ys)
  refine ⟨c.outer d, d.fr p u h1 h4, none_of p u h2 h1 h4 nt, h3, h4, O, s.mono es (fun q hq v h => d.fr q v h (w.al q hq).2.2), ⟨w.nd, fun q hq => ⟨?_, (w.al q hq).2⟩⟩, n⟩
  obtain ⟨v, hv, nv⟩ := s.thereO q hq
  exact none_of q v (w.al q hq).1 hv (w.al q hq).2.2 nv
theorem mid_of {F1 F2 F3 : EF} {i j l : Nat} {E : Ends} {σ : L2.St} {H : Hp} {R : List V → Hp → Prop} (h : tDS X.K C W (sMid i j l F1 F2 F3) E σ H)
    (fin : ∀ (S : Hp) (ρ : Env) (b : Bag) (H : Hp) (v1 v3 : V) (d1 d2 d3 : D) (p : Addr) (u : HO), OkF X.K C S ρ b σ H p u → DR X.K C.ba S v1 d1 → ODR X.K C.ba S u d2 → DR X.K C.ba S v3 d3 →
      (∀ S' σ' H', Same S S' → OkS X.K C S' (((ρ.set i (some (.sh d1))).set j (some (.ow d2))).set l (some (.sh d3))) b σ' H' → E.nx σ' H') → R [v1, .ref p, v3] H) :
    tCons (tD X.K C W F1) (tCons (tDF X.K C W F2) (tCons (tDin X.K F3) tNil)) σ H R := by
  obtain ⟨S, ρ, b, ok, q⟩ := h
  refine ⟨S, ρ, b, ok, q.st.imp fun d1 b1 S1 H1 s1 ok1 q1 v1 r1 => ⟨S1, ρ, b1, ok1, outF_of q1 fun d2 b2 S2 H2 p u e12 q2 of2 r2 => ?_⟩⟩
  cases hF : F3 (unown ρ) b2 with
  | ok d3 b3 =>
    rw [hF] at q2
    refine ⟨inner C S2 H2, S2, unown ρ, b2, of2.ok.inner, ?_⟩
    rw [hF]
    intro S3 H3 e3 ok3 v3 r3
    exact fin S3 ρ b3 H3 v1 v3 d1 d2 d3 p u (of2.frame ok3.core e3) (r1.up (e12.trans e3)) (r2.up e3) r3 fun S' σ' H' e o => q2 S' σ' H' (e3.trans e) o
  | ex c ns ds => rw [hF] at q2; exact q2.elim
  | stuck => rw [hF] at q2; exact q2.elim
end
end DL

set_option maxHeartbeats 2000000
namespace PySem
open AutoSeq1 (wpAny_loadPart')
/-- enumerate of what begins an iterator, from 0 -/
theorem enum0_made {v : Value} {o : Obj} {G : Heap → Prop} (B : Begins v o G) :
    Meets (Builtin.«enumerate.__new__» ⟨[.type "enumerate", v], []⟩) (fun _ R s => G s.heap ∧
      R (.ok (.ret (.ref (s.heap.push o).objs.size))) { s with heap := (s.heap.push o).push { cls := .type "enumerate", data := .fields #[.none, .bool false, .ref s.heap.objs.size, rawInt 0, .none, .none] } }) :=
  .of_wp fun prog w A R s z => by
    obtain ⟨hp, gs, dr, tk, os⟩ := s
    obtain ⟨z1, z2⟩ := z
    have sub := sub_enumerate
    have begin_ : ∀ {A' : Around} {E : Value → Shared → Prop} {Q : Value → Shared → Prop}, Q (.ref hp.objs.size) ⟨hp.push o, gs, dr, tk, os⟩ → wpAny (model prog w) A' (pyIter v) Q E ⟨hp, gs, dr, tk, os⟩ := fun {A' E Q} q =>
      B.iter prog w A' E ⟨hp, gs, dr, tk, os⟩ Q z1 q
    wp_walk using begin_
    refine wpAny_stack_any fun st => wpAny_pure ?_
    split
    · rename_i c _ _ _ _ _
      cases (c == Value.type "enumerate") <;> (wp_walk using begin_; exact ⟨_, rfl, z2⟩)
    · wp_walk using begin_
      exact ⟨_, rfl, z2⟩
theorem enum0_begins {prog : Program} {w : World} {A : Around} {E : Value → Shared → Prop} {s : Shared} {v : Value} {o : Obj} {G : Heap → Prop} {Q : Value → Shared → Prop} (B : Begins v o G) (z : G s.heap)
    (h : ∀ h', IsEnum h' (s.heap.objs.size + 1) s.heap.objs.size 0 .none → h'.get? s.heap.objs.size = some o → h'.objs.size = s.heap.objs.size + 2 →
      (∀ b ob, s.heap.get? b = some ob → h'.get? b = some ob) → Q (.ref (s.heap.objs.size + 1)) { s with heap := h' }) : wpAny (model prog w) A (call (.type "enumerate") [v]) Q E s := by
  refine callType_new F.called_enumerate (by decide) (F.typeCall_enumerate_1 _) (F.newCall_enumerate_1 _) (fun ob => F.args_object_init_2 ob _) F.entry_enumerate_new (enum0_made B) ⟨z, ?_⟩
  have sz : (s.heap.push o).objs.size = s.heap.objs.size + 1 := Heap.size_push ..
  have at_ : IsEnum ((s.heap.push o).push { cls := .type "enumerate", data := .fields #[.none, .bool false, .ref s.heap.objs.size, rawInt 0, .none, .none] }) (s.heap.objs.size + 1) s.heap.objs.size 0 .none := by
    rw [← sz]
    exact Heap.get?_push_size _ rfl
  show _ ∧ _
  rw [sz]
  exact ⟨⟨_, at_, rfl⟩, h _ at_ (Heap.get?_push_of_some _ (Heap.get?_push_size _ B.free)) (by rw [Heap.size_push, sz]) fun b ob q => Heap.get?_push_of_some _ (Heap.get?_push_of_some _ q)⟩
end PySem
namespace DL
open PySem PySem.Spec PyProof.Rows L2
/-- enumerate(t), t a tuple: each item in a new pair -/
def Itet (K : PySem.W.Frag) (a : Addr) : It :=
  ⟨fun i H => ∃ (xs : List V) (x : V), SqT K H a xs ∧ xs[i]? = some x, fun i H v H' => ∃ T x, v = .ref T ∧ H T = none ∧ H' = upd H T (.tup [.int (i : Nat), x]) ∧ ∀ xs, SqT K H a xs → xs[i]? = some x, fun i H => ∃ xs : List V, SqT K H a xs ∧ xs.length = i⟩
theorem turn_enumT {P : Program} {w : World} {K : PySem.W.Frag} {elts : List Expr} {kk : Nat} {tpos : Pos} (a e it : Addr) (hei : e ≠ it) :
    Turn P w K (.Tuple elts kk tpos) (Itet K a) [e, it] e (fun i h => (∃ old, IsEnum h e it ((i : Nat) : Int) old) ∧ h.IsTupleIter it a i) where
  mem := by simp
  obj := fun i h st b hb => by
    obtain ⟨⟨old, he⟩, ⟨o, ho, hc, hd⟩⟩ := st
    rcases (show b = e ∨ b = it by simpa using hb) with z | z
    · subst z; exact ⟨_, he, fun v q => by cases q⟩
    · subst z; exact ⟨o, ho, fun v q => by rw [hd] at q; cases q⟩
  keep := fun i h h' st k => ⟨st.1.elim fun old he => ⟨old, k e (by simp) _ he⟩, st.2.at fun o q => k it (by simp) o q⟩
  item := by
    intro X hP hw hK hc i pins s σ H E I hf st hg
    subst hP hw hK
    obtain ⟨xs, x, hq, hx⟩ := hg
    obtain ⟨its, rv, p, hz⟩ := I.tuple hq
    obtain ⟨u, hu, ru⟩ := rv.get hx
    obtain ⟨⟨old, he⟩, hit⟩ := st
    have hle : e < s.heap.objs.size := Heap.lt_size he
    have hli : it < s.heap.objs.size := by obtain ⟨_, q, _⟩ := hit; exact Heap.lt_size q
    have hta : a ≠ it := fun z => by
      subst z
      obtain ⟨o1, g1, g2, _⟩ := hit
      obtain ⟨o2, g3, g4, _⟩ := p
      rw [g1] at g3
      cases g3
      rw [g2] at g4
      exact absurd g4 (by decide)
    have hne : a ≠ e := fun z => by
      subst z
      obtain ⟨o2, g3, g4, _⟩ := p
      have he' : s.heap.get? a = some _ := he
      rw [he'] at g3
      cases g3
      exact absurd (show Value.type "enumerate" = Value.type "tuple" from g4) (by decide)
    have G := GoesN.enumFrom (elts := elts) (x1 := kk) (pos := tpos) 0 (Draws.tuple (prog := X.prog) (w := X.w) (A := X.A.in1) (I.ok.hd hc) it a hta its.toArray) e hei (by simp [hei, hne.symm]) (by simp)
    have hil : i < its.length := (List.getElem?_eq_some_iff.mp hu).1
    have st' : (∃ old, IsEnum s.heap e it (0 + ((i : Nat) : Int)) old) ∧ s.heap.IsTupleIter it a i ∧ s.heap.IsTuple a its.toArray := ⟨⟨old, by rw [Int.zero_add]; exact he⟩, hit, p⟩
    refine wpAny_mono (G.goes i s (fun v s2 => ∃ x H', Inv X pins σ H' s2 ∧ RelV x v ∧ (Itet X.K a).yld i H x H' ∧ ((∃ old, IsEnum s2.heap e it ((i + 1 : Nat) : Int) old) ∧ s2.heap.IsTupleIter it a (i + 1)) ∧ ∀ b ∈ [e, it], H' b = none) E (by simpa using hil) st' fun v h' tk hY hst hk htk => ?_)
      (fun r s1 h1 => h1) fun _ _ z => z
    obtain ⟨T, t, y, rfl, hT, hy, hTup⟩ := hY
    have ey : y = u := by
      have hy' : its[i]? = some y := by simpa using hy
      rw [hu] at hy'
      exact (Option.some.inj hy').symm
    subst ey
    have hnb : ∀ b ∈ [e, it], b < s.heap.objs.size := fun b hb => by
      rcases (show b = e ∨ b = it by simpa using hb) with z | z
      · subst z; exact hle
      · subst z; exact hli
    have new : ObjOk X.prog X.w (upd H T (.tup [.int (i : Nat), x])) h' T (.tup [.int (i : Nat), x]) :=
      ⟨by show 2 ≤ sizeLine; decide, [.int (0 + (i : Nat)) t, y], .cons ⟨t, by rw [Int.zero_add]⟩ (.cons ru .nil), hTup⟩
    have J := I.turnedNew (t' := tk) (ch := [e, it]) hk hf hT new
    refine ⟨.ref T, _, J, rfl, ⟨T, x, rfl, I.hok.fresh hT, rfl, fun ys hy => by rw [I.tuple_inj hy hq]; exact hx⟩, ⟨?_, hst.2.1⟩, fun b hb => ?_⟩
    · obtain ⟨old', he'⟩ := hst.1
      have e0 : (0 : Int) + ((i + 1 : Nat) : Int) = ((i + 1 : Nat) : Int) := Int.zero_add _
      rw [e0] at he'
      exact ⟨old', he'⟩
    · rw [upd_ne (Nat.ne_of_lt (Nat.lt_of_lt_of_le (hnb b hb) hT))]
      exact (hf b hb).1
  done := by
    intro X hP hw hK hc i pins s σ H E I hf st hg
    subst hP hw hK
    obtain ⟨xs, hq, hx⟩ := hg
    obtain ⟨its, rv, p, hz⟩ := I.tuple hq
    obtain ⟨⟨old, he⟩, hit⟩ := st
    have hta : a ≠ it := fun z => by
      subst z
      obtain ⟨o1, g1, g2, _⟩ := hit
      obtain ⟨o2, g3, g4, _⟩ := p
      rw [g1] at g3
      cases g3
      rw [g2] at g4
      exact absurd g4 (by decide)
    have hne : a ≠ e := fun z => by
      subst z
      obtain ⟨o2, g3, g4, _⟩ := p
      have he' : s.heap.get? a = some _ := he
      rw [he'] at g3
      cases g3
      exact absurd (show Value.type "enumerate" = Value.type "tuple" from g4) (by decide)
    have G := GoesN.enumFrom (elts := elts) (x1 := kk) (pos := tpos) 0 (Draws.tuple (prog := X.prog) (w := X.w) (A := X.A.in1) (I.ok.hd hc) it a hta its.toArray) e hei (by simp [hei, hne.symm]) (by simp)
    have hl : its.toArray.size = i := by
      rw [List.size_toArray, ← rv.length]
      exact hx
    subst hl
    exact G.stops s (fun s1 => Inv X pins σ H s1) E ⟨⟨old, by rw [Int.zero_add]; exact he⟩, hit, p⟩ fun h' tk hk _ => I.turnedL (t' := tk) (ch := [e, it]) hk hf
  self := fun A i s Q E st h => st.1.elim fun _ he => wpAny_pyIter_enum he h
def iEnumT (K : PySem.W.Frag) (ta : TA) : TI := fun σ H R => ta σ H fun vs H1 => ∃ a xs, vs = [.ref a] ∧ SqT K H1 a xs ∧ R (Itet K a) H1
theorem pi_enumT {X : Cx} {e : Expr} {ta : TA} {p pos tpos : Pos} {elts : List Expr} {kk : Nat} (hg : Gl X "enumerate") (hm : X.mg "enumerate" = none) (ha : PA X [e] ta) (hs : starEach [e] X.env = [(false, eval e X.env)] := by rfl) :
    PI X (.Tuple elts kk tpos) (.Call (.Name "enumerate" p) [e] [] pos) (iEnumT X.K ta) := ⟨fun pins s σ H R I h => by
  refine Call_ (ld_blt I hg hm boot_enumerate (PyProof.Rows.callWith_type1 (thn (ha.run pos pins s σ H _ I h) fun us s1 z => ?_) hs rfl))
  obtain ⟨vs, H1, J, r, a, xs, rfl, hq, q⟩ := z
  cases r with
  | cons r rr =>
    cases rr
    cases r
    obtain ⟨its, rv, p', hz⟩ := J.tuple hq
    refine enum0_begins (begins_tuple a its.toArray) p' fun h' he hit hsz hk => wpAny_pyIter_enum he ?_
    refine ⟨s1.heap.objs.size + 1, [s1.heap.objs.size + 1, s1.heap.objs.size], _, _, H1, rfl, J.kept (t' := s1.toks) hk, turn_enumT a (s1.heap.objs.size + 1) s1.heap.objs.size (Nat.succ_ne_self _), ⟨⟨.none, he⟩, _, hit, rfl, rfl⟩, fun b hb => ?_, q⟩
    have le : s1.heap.objs.size ≤ b := by
      rcases (show b = s1.heap.objs.size + 1 ∨ b = s1.heap.objs.size by simpa using hb) with y | y
      · rw [y]; exact Nat.le_succ _
      · rw [y]; exact Nat.le_refl _
    exact J.fpOk le (J.hok.fresh le)⟩
def Itzs (x y : Str) : It :=
  ⟨fun i _ => i < min x.cps.size y.cps.size, fun i H v H' => ∃ T c d, v = .ref T ∧ H T = none ∧ H' = upd H T (.tup [.str ⟨#[c]⟩, .str ⟨#[d]⟩]) ∧ x.cps[i]? = some c ∧ y.cps[i]? = some d, fun i _ => i = min x.cps.size y.cps.size⟩
theorem turn_zipS {P : Program} {w : World} {K : PySem.W.Frag} {elts : List Expr} {kk : Nat} {tpos : Pos} {x y : Str} {t u : Tok} {z TI TO i1 i2 : Addr} (S : ZipSep2 z TI TO i1 i2 [i1] [i2]) :
    Turn P w K (.Tuple elts kk tpos) (Itzs x y) [z, TI, TO, i1, i2] z (fun i h => IsZip h z TI TO .none ∧ IsTupOf2 h TI (.ref i1) (.ref i2) ∧ (∃ a1 a2, IsTupOf2 h TO a1 a2) ∧ h.IsStrIter i1 (strIterType x) x t i ∧ h.IsStrIter i2 (strIterType y) y u i) where
  mem := by simp
  obj := fun i h st c hc => by
    obtain ⟨hz, hTI, ⟨a1, a2, hTO⟩, ⟨o1, e1, _, d1⟩, ⟨o2, e2, _, d2⟩⟩ := st
    rcases (show c = z ∨ c = TI ∨ c = TO ∨ c = i1 ∨ c = i2 by simpa using hc) with q | q | q | q | q
    · rw [q]; exact ⟨_, hz, fun v y => by cases y⟩
    · rw [q]; exact ⟨_, hTI, fun v y => by cases y⟩
    · rw [q]; exact ⟨_, hTO, fun v y => by cases y⟩
    · rw [q]; exact ⟨o1, e1, fun v y => by rw [d1] at y; cases y⟩
    · rw [q]; exact ⟨o2, e2, fun v y => by rw [d2] at y; cases y⟩
  keep := fun i h h' st k => by
    obtain ⟨hz, hTI, ⟨a1, a2, hTO⟩, ⟨o1, e1, r1⟩, ⟨o2, e2, r2⟩⟩ := st
    exact ⟨k z (by simp) _ hz, k TI (by simp) _ hTI, ⟨a1, a2, k TO (by simp) _ hTO⟩, ⟨o1, k i1 (by simp) _ e1, r1⟩, ⟨o2, k i2 (by simp) _ e2, r2⟩⟩
  item := by
    intro X hP hw hK hc i pins s σ H E I hf st hg
    subst hP hw hK
    have hh : X.A.in1.handled = none := I.ok.hd hc
    have G := GoesN.zip2 (elts := elts) (x1 := kk) (pos := tpos) S (Draws.text (prog := X.prog) (w := X.w) (A := X.A.in1) hh i1 x t) (Draws.text (prog := X.prog) (w := X.w) (A := X.A.in1) hh i2 y u)
    have alive : ∀ b ∈ [z, TI, TO, i1, i2], b < s.heap.objs.size := fun b hb => by
      obtain ⟨hz, hTI, ⟨a1, a2, hTO⟩, ⟨o1, e1, _, d1⟩, ⟨o2, e2, _, d2⟩⟩ := st
      rcases (show b = z ∨ b = TI ∨ b = TO ∨ b = i1 ∨ b = i2 by simpa using hb) with q | q | q | q | q
      · rw [q]; exact Heap.lt_size hz
      · rw [q]; exact Heap.lt_size hTI
      · rw [q]; exact Heap.lt_size hTO
      · rw [q]; exact Heap.lt_size e1
      · rw [q]; exact Heap.lt_size e2
    refine wpAny_mono (G.goes i s (fun v s2 => ∃ w H', Inv X pins σ H' s2 ∧ RelV w v ∧ (Itzs x y).yld i H w H' ∧ (IsZip s2.heap z TI TO .none ∧ IsTupOf2 s2.heap TI (.ref i1) (.ref i2) ∧ (∃ a1 a2, IsTupOf2 s2.heap TO a1 a2) ∧ s2.heap.IsStrIter i1 (strIterType x) x t (i + 1) ∧ s2.heap.IsStrIter i2 (strIterType y) y u (i + 1)) ∧ ∀ b ∈ [z, TI, TO, i1, i2], H' b = none) E hg st fun v h' tk hY hst hk htk => ?_)
      (fun r s1 h1 => h1) fun _ _ q => q
    obtain ⟨T, v1, v2, rfl, hT, ⟨c, t1, hc1, rfl⟩, ⟨d, t2, hd1, rfl⟩, hTup⟩ := hY
    have new : ObjOk X.prog X.w (upd H T (.tup [.str ⟨#[c]⟩, .str ⟨#[d]⟩])) h' T (.tup [.str ⟨#[c]⟩, .str ⟨#[d]⟩]) :=
      ⟨by show 2 ≤ sizeLine; decide, [.str ⟨#[c]⟩ t1, .str ⟨#[d]⟩ t2], .cons ⟨t1, rfl⟩ (.cons ⟨t2, rfl⟩ .nil), hTup⟩
    have J := I.turnedNew (t' := tk) (ch := [z, TI, TO, i1, i2]) (fun b o hb q => hk b o (fun m => hb (by
      rcases (show b = z ∨ b = TO ∨ b = i1 ∨ b = i2 by simpa using m) with y | y | y | y <;> simp [y])) q) hf hT new
    refine ⟨.ref T, _, J, rfl, ⟨T, c, d, rfl, I.hok.fresh hT, rfl, hc1, hd1⟩, hst, fun b hb => ?_⟩
    rw [upd_ne (Nat.ne_of_lt (Nat.lt_of_lt_of_le (alive b hb) hT))]
    exact (hf b hb).1
  done := by
    intro X hP hw hK hc i pins s σ H E I hf st hg
    subst hP hw hK
    have hh : X.A.in1.handled = none := I.ok.hd hc
    have G := GoesN.zip2 (elts := elts) (x1 := kk) (pos := tpos) S (Draws.text (prog := X.prog) (w := X.w) (A := X.A.in1) hh i1 x t) (Draws.text (prog := X.prog) (w := X.w) (A := X.A.in1) hh i2 y u)
    have hi : i = min x.cps.size y.cps.size := hg
    subst hi
    exact G.stops s (fun s1 => Inv X pins σ H s1) E st fun h' tk hk _ => I.turnedL (t' := tk) (ch := [z, TI, TO, i1, i2]) (fun b o hb q => hk b o (fun m => hb (by
      rcases (show b = z ∨ b = TO ∨ b = i1 ∨ b = i2 by simpa using m) with y | y | y | y <;> simp [y])) q) hf
  self := fun A i s Q E st h => wpAny_pyIter_zip st.1 h
def iZipS (ta : TA) : TI := fun σ H R => ta σ H fun vs H1 => ∃ x y, vs = [.str x, .str y] ∧ R (Itzs x y) H1
theorem pi_zipS {X : Cx} {e e2 : Expr} {ta : TA} {p pos tpos : Pos} {elts : List Expr} {kk : Nat} (hg : Gl X "zip") (hm : X.mg "zip" = none) (ha : PA X [e, e2] ta)
    (hs : starEach [e, e2] X.env = (false, eval e X.env) :: starEach [e2] X.env := by rfl) (hpl : (backTo pos (starEach [e2] X.env)).any (·.1) = false := by rfl) :
    PI X (.Tuple elts kk tpos) (.Call (.Name "zip" p) [e, e2] [] pos) (iZipS ta) := ⟨fun pins s σ H R I h => by
  refine Call_ (ld_blt I hg hm PyProof.Rows.boot_zip (PyProof.Rows.callWith_type1 (thn (ha.run pos pins s σ H _ I h) fun us s1 w => ?_) hs hpl))
  obtain ⟨vs, H1, J, r, x, y, rfl, q⟩ := w
  cases r with
  | cons r rr =>
    cases rr with
    | cons r' rr =>
      cases rr
      obtain ⟨t, rfl⟩ := r
      obtain ⟨u, rfl⟩ := r'
      refine zip_begins2 (begins_text x t) (begins_text y u) trivial trivial fun h' hz hTI hTO h1 h2 hsz hk => wpAny_pyIter_zip hz ?_
      refine ⟨s1.heap.objs.size + 4, [s1.heap.objs.size + 4, s1.heap.objs.size + 2, s1.heap.objs.size + 3, s1.heap.objs.size, s1.heap.objs.size + 1], _, _, H1, rfl, J.kept (t' := s1.toks) hk,
        turn_zipS (x := x) (y := y) (t := t) (u := u) (zip_sep2 (fp1 := []) (fp2 := []) (by simp) (by simp)), ⟨hz, hTI, ⟨_, _, hTO⟩, ⟨_, h1, rfl, rfl⟩, ⟨_, h2, rfl, rfl⟩⟩, fun b hb => ?_, q⟩
      have le : s1.heap.objs.size ≤ b := by
        rcases (show b = s1.heap.objs.size + 4 ∨ b = s1.heap.objs.size + 2 ∨ b = s1.heap.objs.size + 3 ∨ b = s1.heap.objs.size ∨ b = s1.heap.objs.size + 1 by simpa using hb) with w | w | w | w | w
        · rw [w]; exact Nat.le_add_right _ _
        · rw [w]; exact Nat.le_add_right _ _
        · rw [w]; exact Nat.le_add_right _ _
        · rw [w]; exact Nat.le_refl _
        · rw [w]; exact Nat.le_add_right _ _
      exact J.fpOk le (J.hok.fresh le)⟩
end DL

set_option maxHeartbeats 1000000
namespace DL
open PySem PySem.Spec PyProof.Rows L2
section
variable {X : Cx} {C : Cq} {W : WX} {st : Stmt} {e a b c o tg l : Expr} {es : List Expr} {pos apos cpos : Pos} {F Fa Fb Fc : EF} {G : AF}
def signsOf (x : Str) : List D := x.cps.toList.map fun c => .str ⟨#[c]⟩
def aSigns (F : EF) : AF := fun ρ b => (F ρ b).bind fun d b' => match d with
  | .str x => .ok (signsOf x) b'
  | _ => .stuck
theorem itS {K : PySem.W.Frag} {ba : Option Addr} {S : Hp} (x : Str) : ItD K ba (Its x) (signsOf x) S := fun C hC i S' ρ b σ H e ok => by
  have hl : (signsOf x).length = x.cps.size := by simp [signsOf]
  refine ⟨fun d hd => ?_, fun h => ?_⟩
  · have hi : i < x.cps.size := by rw [← hl]; exact (List.getElem?_eq_some_iff.mp hd).1
    refine ⟨hi, fun v H' y => ?_⟩
    obtain ⟨e1, k, hk, rfl⟩ := y
    subst e1
    have hd' : (signsOf x)[i]? = some (.str ⟨#[k]⟩) := by
      unfold signsOf
      rw [List.getElem?_map, Array.getElem?_toList, hk]
      rfl
    rw [hd] at hd'
    cases hd'
    exact ⟨S', Same.refl _, ok, .str _, fun _ _ z => z⟩
  · show x.cps.size ≤ i
    omega
theorem d_istr (h : PE X l (tD X.K C W F)) : PI X tg l (tDI X.K C W (aSigns F)) := pi_imp (pi_str h) fun σ H R ⟨S, ρ, b, ok, q⟩ => by
  refine ⟨S, ρ, b, ok, q.bind.imp fun d b1 S1 H1 s1 ok1 q1 v r => ?_⟩
  cases d with
  | str x => cases r; exact ⟨x, rfl, q1 S1 H1 (Same.refl _) ok1 _ (itS x)⟩
  | _ => exact q1.elim
def enumOf (ds : List D) : List D := (List.range ds.length).zipWith (fun (k : Nat) d => D.tup [.int k, d]) ds
def aEnumT (G : AF) : AF := fun ρ b => (G ρ b).bind fun ds b' => match ds with
  | [.tup ds] => .ok (enumOf ds) b'
  | _ => .stuck
theorem pair_of {K : PySem.W.Frag} {S : Hp} {ρ : Env} {b : Bag} {σ : L2.St} {H : Hp} {T : Addr} {v w : V} {d e : D} (ok : OkS K C S ρ b σ H) (hT : H T = none) (r1 : DR K C.ba S v d) (r2 : DR K C.ba S w e) :
    Same S (upd S T (.tup [v, w])) ∧ OkS K C (upd S T (.tup [v, w])) ρ b σ (upd H T (.tup [v, w])) ∧ DR K C.ba (upd S T (.tup [v, w])) (.ref T) (.tup [d, e]) :=
  ⟨ok.same hT, ok.alloc hT, .tup upd_same (.cons (r1.up (ok.same hT)) (.cons (r2.up (ok.same hT)) .nil))⟩
theorem keep_upd {H : Hp} {T : Addr} {u : HO} (hT : H T = none) : ∀ p o, H p = some o → upd H T u p = some o := fun p o e => by
  rw [upd_ne (ne_of_none e hT)]; exact e
theorem itE {K : PySem.W.Frag} {ba : Option Addr} {S : Hp} {a : Addr} {xs : List V} {ds : List D} (h : S a = some (.tup xs)) (r : DRs K ba S xs ds) : ItD K ba (Itet K a) (enumOf ds) S := fun C hC i S' ρ b σ H e ok => by
  subst hC
  have hS : SqT K H a xs := seqT (e.trans ok.core.sub) h
  have hl : (enumOf ds).length = ds.length := by simp [enumOf]
  refine ⟨fun d hd => ?_, fun hl' => ⟨xs, hS, by rw [r.length, ← hl]; exact hl'⟩⟩
  have hi : i < ds.length := by rw [← hl]; exact (List.getElem?_eq_some_iff.mp hd).1
  have hdi : ds[i]? = some ds[i] := List.getElem?_eq_getElem hi
  obtain ⟨v, hv, rv⟩ := r.get hdi
  refine ⟨⟨xs, v, hS, hv⟩, fun x H' y => ?_⟩
  obtain ⟨T, x0, rfl, hT, rfl, y⟩ := y
  have hx := y xs hS
  rw [hv] at hx
  cases hx
  have hd' : (enumOf ds)[i]? = some (.tup [.int (i : Nat), ds[i]]) := by
    unfold enumOf
    rw [List.getElem?_zipWith, hdi, List.getElem?_range hi]
  rw [hd] at hd'
  cases hd'
  obtain ⟨p1, p2, p3⟩ := pair_of ok hT (.int (i : Nat)) (rv.up e)
  exact ⟨_, p1, p2, p3, keep_upd hT⟩
theorem d_ienumT {elts : List Expr} {kk : Nat} {p tpos : Pos} (hg : Gl X "enumerate") (hm : X.mg "enumerate" = none) (ha : PA X [a] (tDA X.K C W G)) (hs : starEach [a] X.env = [(false, eval a X.env)] := by rfl) :
    PI X (.Tuple elts kk tpos) (.Call (.Name "enumerate" p) [a] [] pos) (tDI X.K C W (aEnumT G)) := pi_imp (pi_enumT hg hm ha hs) fun σ H R ⟨S, ρ, b, ok, q⟩ => by
  refine ⟨S, ρ, b, ok, q.bind.imp fun ds b1 S1 H1 s1 ok1 q1 vs r => ?_⟩
  split at q1
  · cases r with
    | cons r1 r2 =>
      cases r2
      cases r1 with
      | tup h1 h2 => exact ⟨_, _, rfl, seqT ok1.core.sub h1, q1 S1 H1 (Same.refl _) ok1 _ (itE h1 h2)⟩
  · exact q1.elim
def zipOf (xs ys : List D) : List D := xs.zipWith (fun d e => D.tup [d, e]) ys
def aZipS (G : AF) : AF := fun ρ b => (G ρ b).bind fun ds b' => match ds with
  | [.str x, .str y] => .ok (zipOf (signsOf x) (signsOf y)) b'
  | _ => .stuck
theorem itZ {K : PySem.W.Frag} {ba : Option Addr} {S : Hp} (x y : Str) : ItD K ba (Itzs x y) (zipOf (signsOf x) (signsOf y)) S := fun C hC i S' ρ b σ H e ok => by
  subst hC
  have hl : (zipOf (signsOf x) (signsOf y)).length = min x.cps.size y.cps.size := by simp [zipOf, signsOf]
  refine ⟨fun d hd => ?_, fun h => ?_⟩
  · have hi : i < min x.cps.size y.cps.size := by rw [← hl]; exact (List.getElem?_eq_some_iff.mp hd).1
    refine ⟨hi, fun v H' w => ?_⟩
    obtain ⟨T, k, m, rfl, hT, rfl, hk, hm⟩ := w
    have hd' : (zipOf (signsOf x) (signsOf y))[i]? = some (.tup [.str ⟨#[k]⟩, .str ⟨#[m]⟩]) := by
      unfold zipOf signsOf
      rw [List.getElem?_zipWith, List.getElem?_map, List.getElem?_map, Array.getElem?_toList, Array.getElem?_toList, hk, hm]
      rfl
    rw [hd] at hd'
    cases hd'
    obtain ⟨p1, p2, p3⟩ := pair_of ok hT (.str ⟨#[k]⟩) (.str ⟨#[m]⟩)
    exact ⟨_, p1, p2, p3, keep_upd hT⟩
  · show i = min x.cps.size y.cps.size
    omega
theorem d_izipS {elts : List Expr} {kk : Nat} {p tpos : Pos} (hg : Gl X "zip") (hm : X.mg "zip" = none) (ha : PA X [a, b] (tDA X.K C W G)) (hs : starEach [a, b] X.env = (false, eval a X.env) :: starEach [b] X.env := by rfl) (hpl : (backTo pos (starEach [b] X.env)).any (·.1) = false := by rfl) :
    PI X (.Tuple elts kk tpos) (.Call (.Name "zip" p) [a, b] [] pos) (tDI X.K C W (aZipS G)) := pi_imp (pi_zipS hg hm ha hs hpl) fun σ H R ⟨S, ρ, b, ok, q⟩ => by
  refine ⟨S, ρ, b, ok, q.bind.imp fun ds b1 S1 H1 s1 ok1 q1 vs r => ?_⟩
  split at q1
  · cases r with
    | cons r1 r2 =>
      cases r2 with
      | cons r2 r3 => cases r3; cases r1; cases r2; exact ⟨_, _, rfl, q1 S1 H1 (Same.refl _) ok1 _ (itZ _ _)⟩
  · exact q1.elim
def anySeq : D → Option (List D)
  | .lst ds => some ds
  | .fl ds => some ds
  | .tup ds => some ds
  | _ => none
def aStar (F : EF) (G : AF) : AF := fun ρ b => (F ρ b).bind fun d b1 => match anySeq d with
  | some xs => (G ρ b1).bind fun ds b2 => .ok (xs ++ ds) b2
  | none => .stuck
theorem d_astar {p : Pos} (he : PE X e (tD X.K C W F)) (hr : PA X es (tDA X.K C W G)) (hs : starEach (.Starred e p :: es) X.env = (true, eval e X.env) :: starEach es X.env := by rfl) : PA X (.Starred e p :: es) (tDA X.K C W (aStar F G)) :=
  pa_imp (StX.pa_star he hr hs) fun σ H Q ⟨S, ρ, b, ok, q⟩ => by
  refine ⟨S, ρ, b, ok, q.bind.imp fun d b1 S1 H1 s1 ok1 q1 v r => ?_⟩
  cases hx : anySeq d with
  | none => rw [hx] at q1; exact q1.elim
  | some xs =>
    rw [hx] at q1
    have key : ∃ a ys, v = .ref a ∧ (SqT X.K H1 a ys ∨ SqL X.K H1 a ys) ∧ DRs X.K C.ba S1 ys xs := by
      cases d <;> simp [anySeq] at hx
      · subst hx
        cases r with
        | tup h1 h2 => exact ⟨_, _, rfl, .inl (seqT ok1.core.sub h1), h2⟩
      · subst hx
        cases r with
        | lst h1 h2 => exact ⟨_, _, rfl, .inr (SqL.of (ok1.core.sub _ _ h1)), h2⟩
      · subst hx
        cases r with
        | fl h1 h2 => exact ⟨_, _, rfl, .inr (ok1.core.sub.seq h1), h2⟩
    obtain ⟨a, ys, rfl, h1, h2⟩ := key
    exact ⟨a, ys, rfl, h1, S1, ρ, b1, ok1, q1.bind.imp fun ds b2 S2 H2 s2 ok2 q2 vs rs => q2 S2 H2 (Same.refl _) ok2 _ ((h2.up s2).app rs)⟩
theorem tChain_of {r r' : R2} {f f' : D → D → Option D} (hf : Op2 X.K C r f) (hf' : Op2 X.K C r' f') {σ : L2.St} {H : Hp} {Q : VK} (h : tD X.K C W (e3 f f' Fa Fb Fc) σ H Q) : tChain r r' (tD X.K C W Fa) (tD X.K C W Fb) (tD X.K C W Fc) σ H Q := by
  obtain ⟨S, ρ, b, ok, q⟩ := h
  refine ⟨S, ρ, b, ok, q.bind.imp fun x b1 S1 H1 s1 ok1 q1 v r1 => ⟨S1, ρ, b1, ok1, q1.bind.imp fun y b2 S2 H2 s2 ok2 q2 w r2 => ?_⟩⟩
  split at q2
  · rename_i hz
    refine hf S2 ρ b2 σ H2 v w x y _ _ ok2 (r1.up s2) r2 hz fun u S3 H3 e3 o3 r3 => ?_
    cases r3
    refine ⟨true, rfl, ?_⟩
    rw [if_pos rfl]
    refine ⟨S3, ρ, b2, o3, (OutG.up q2 e3).bind.imp fun z b3 S4 H4 s4 ok4 q4 w' r4 => ?_⟩
    obtain ⟨z', hz', q5⟩ := q4.pureO
    exact hf' S4 ρ b3 σ H4 w w' y z z' Q ok4 (r2.up (e3.trans s4)) r4 hz' fun u S5 H5 e5 o5 r5 => q5 S5 H5 e5 o5 u r5
  · rename_i hz
    refine hf S2 ρ b2 σ H2 v w x y _ _ ok2 (r1.up s2) r2 hz fun u S3 H3 e3 o3 r3 => ?_
    cases r3
    refine ⟨false, rfl, ?_⟩
    rw [if_neg (by decide)]
    exact q2 S3 H3 e3 o3 _ (.bl _)
  · exact q2.elim
theorem d_chain {op op' : CmpOp} {r r' : R2} {f f' : D → D → Option D} (ho : OpR X (compareOp op) r) (ho' : OpR X (compareOp op') r') (hf : Op2 X.K C r f) (hf' : Op2 X.K C r' f') (ha : PE X a (tD X.K C W Fa)) (hb : PE X b (tD X.K C W Fb)) (hc : PE X c (tD X.K C W Fc))
    (hm : lastMarks [op, op'] [b, c] = false := by with_unfolding_all rfl) : PE X (.Compare a [op, op'] [b, c] pos) (tD X.K C W (e3 f f' Fa Fb Fc)) := pe_imp (pe_chain ho ho' ha hb hc hm) fun _ _ _ h => tChain_of hf hf' h
theorem t_chain {op op' : CmpOp} {r r' : R2} {f f' : D → D → Option D} (ho : OpR X (compareOp op) r) (ho' : OpR X (compareOp op') r') (hf : Op2 X.K C r f) (hf' : Op2 X.K C r' f') (ha : PE X a (tD X.K C W Fa)) (hb : PE X b (tD X.K C W Fb)) (hc : PE X c (tD X.K C W Fc))
    (hm : lastMarks [op, op'] [b, c] = false := by with_unfolding_all rfl) : PT X (.Compare a [op, op'] [b, c] pos) (tDt X.K C W (bB (e3 f f' Fa Fb Fc))) := pt_imp (pt_chain ho ho' ha hb hc hm) fun _ _ _ h => by
  have h' := tTest_of h
  exact tChain_of hf hf' h'
theorem t_lele (ha : PE X a (tD X.K C W Fa)) (hb : PE X b (tD X.K C W Fb)) (hc : PE X c (tD X.K C W Fc)) (hm : lastMarks [.LtE, .LtE] [b, c] = false := by with_unfolding_all rfl) : PT X (.Compare a [.LtE, .LtE] [b, c] pos) (tDt X.K C W (bB (e3 leF leF Fa Fb Fc))) := t_chain o_le o_le d_le2 d_le2 ha hb hc hm
theorem d_lele (ha : PE X a (tD X.K C W Fa)) (hb : PE X b (tD X.K C W Fb)) (hc : PE X c (tD X.K C W Fc)) (hm : lastMarks [.LtE, .LtE] [b, c] = false := by with_unfolding_all rfl) : PE X (.Compare a [.LtE, .LtE] [b, c] pos) (tD X.K C W (e3 leF leF Fa Fb Fc)) := d_chain o_le o_le d_le2 d_le2 ha hb hc hm
end
end DL

set_option maxHeartbeats 1000000
namespace DL
open PySem PySem.Spec PyProof.Rows L2
section
variable {X : Cx} {C : Cq} {W : WX} {st : Stmt} {e a b c o tg l : Expr} {es : List Expr} {pos apos cpos : Pos} {F Fa Fb Fc : EF} {G : AF}
theorem d_tyn {x : Str} {n : String} (hg : Gl X x) (hm : X.mg x = none) (hv : bootBuiltins x = some (.type n)) (hn : x ≠ "__name__" := by decide) (hd : (x == ("__debug__" : Str)) = false := by decide) : PE X (.Name x pos) (tD X.K C W (eC (.obj (.ty n)))) :=
  d_const (pe_bltn (v := .ty n) hg hm hv rfl hn hd) fun _ => .obj _
theorem d_clsn {x : Str} {A : Addr} (hg : Gl X x) (hm : X.mg x = some (.ref A)) (hd : (x == ("__debug__" : Str)) = false := by decide) : PE X (.Name x pos) (tD X.K C W (eC (.obj (.ref A)))) :=
  d_const (pe_glob (v := .ref A) hg hm rfl hd) fun _ => .obj _
theorem d_intn {x : Str} {i : Int} {t : Tok} (hg : Gl X x) (hm : X.mg x = some (.int i t)) (hd : (x == ("__debug__" : Str)) = false := by decide) : PE X (.Name x pos) (tD X.K C W (eC (.int i))) :=
  d_const (v := .int i) (pe_glob hg hm ⟨_, rfl⟩ hd) fun _ => .int _
theorem d_strn {x y : Str} {t : Tok} (hg : Gl X x) (hm : X.mg x = some (.str y t)) (hd : (x == ("__debug__" : Str)) = false := by decide) : PE X (.Name x pos) (tD X.K C W (eC (.str y))) :=
  d_const (v := .str y) (pe_glob hg hm ⟨_, rfl⟩ hd) fun _ => .str _
structure ClsI (K : PySem.W.Frag) (C : Addr) : Prop where
  cl : Cls K C
  ha : PySem.W.findIn K (.ref C) "__class__" = some (some (.builtin "object.__class__"))
  hn : PySem.W.specialIn K (.builtin "object.__class__") "__get__" = some (some (.builtin "getset_descriptor.__get__"))
  htk : PySem.W.takesIn K (.builtin "object.__class__") = some true
  hm : PySem.W.mroIn K C (.type "object") = some true
@[simp] def tyD : D → Option (String ⊕ Addr)
  | .non => some (.inl "NoneType")
  | .bl _ => some (.inl "bool")
  | .int _ => some (.inl "int")
  | .str _ => some (.inl "str")
  | .tup _ => some (.inl "tuple")
  | .lst _ => some (.inl "list")
  | .fl _ => some (.inl "list")
  | .ins C _ _ => some (.inr C)
  | .obj _ => none
  | .bag => none
  | .dct _ _ => none
  | .dtp _ _ => none
def isiF (c : V) (kb : String → Option Bool) (own : Addr → Option Bool) : List D → Option D
  | [d, .obj c'] => if c' = c then (match tyD d with
    | some (.inl n) => (kb n).map .bl
    | some (.inr A) => (own A).map .bl
    | none => none) else none
  | _ => none
theorem tyx_seqT {K : PySem.W.Frag} {H : Hp} {a : Addr} {xs : List V} (h : SqT K H a xs) : TyX K H (.ref a) (.type "tuple") := by
  rcases h with (h | ⟨o, h⟩) | ⟨o, _, _, h1, h2, _⟩
  · exact .base (.tup h)
  · exact .fTuple h
  · exact .kTuple h1 h2
theorem tyx_seqL {K : PySem.W.Frag} {H : Hp} {a : Addr} {xs : List V} (h : SqL K H a xs) : TyX K H (.ref a) (.type "list") := by
  rcases h with (h | ⟨o, h⟩) | ⟨o, _, _, h1, h2, _⟩
  · exact .base (.lst h)
  · exact .base (.frz h)
  · exact .kList h1 h2
theorem c_isi {K : PySem.W.Frag} {c : V} {u : Value} {kb : String → Option Bool} {own : Addr → Option Bool} (hc : ClsV c u) (hb : ∀ n b, kb n = some b → PySem.W.kitOne K (.type n) u = some b) (ho : ∀ A b, own A = some b → ClsI K A ∧ PySem.W.kitOne K (.ref A) u = some b) : CallD K C (rIsi K) (isiF c kb own) := by
  intro S ρ b σ H vs ds z Q ok rs hz q
  unfold isiF at hz
  split at hz
  · rename_i d c'
    split at hz
    · rename_i hcc
      subst hcc
      cases rs with
      | cons r1 r2 =>
        cases r2 with
        | cons r2 r3 =>
          cases r3; cases r2
          have base : ∀ (n : String), tyD d = some (.inl n) → (∀ v, DR K C.ba S v d → TyX K H v (.type n)) → ∃ (x c : V) (t u : Value) (b : Bool), [_, c'] = [x, c] ∧ ClsV c u ∧ TyX K H x t ∧ PySem.W.kitOne K t u = some b ∧ Q (.bl b) H := fun n hn hty => by
            rw [hn] at hz
            simp only [Option.map_eq_some_iff] at hz
            obtain ⟨k, hk, rfl⟩ := hz
            exact ⟨_, _, _, _, k, rfl, hc, hty _ r1, hb _ _ hk, q _ S H (Same.refl _) ok (.bl _)⟩
          cases d with
          | non => exact base _ rfl fun v r => by cases r; exact .base .non
          | bl k => exact base _ rfl fun v r => by cases r; exact .base (.bl _)
          | int k => exact base _ rfl fun v r => by cases r; exact .base (.int _)
          | str k => exact base _ rfl fun v r => by cases r; exact .base (.str _)
          | tup ds => exact base _ rfl fun v r => (by
              cases r with
              | tup h1 h2 => exact tyx_seqT (seqT ok.core.sub h1))
          | lst ds => exact base _ rfl fun v r => (by
              cases r with
              | lst h1 h2 => exact tyx_seqL (SqL.of (ok.core.sub _ _ h1)))
          | fl ds => exact base _ rfl fun v r => (by
              cases r with
              | fl h1 h2 => exact tyx_seqL (ok.core.sub.seq h1))
          | ins A ns ds =>
            simp only [tyD, Option.map_eq_some_iff] at hz
            obtain ⟨k, hk, rfl⟩ := hz
            obtain ⟨i, hi⟩ := ho _ _ hk
            cases r1 with
            | ins h1 h2 h3 => exact ⟨_, _, _, _, k, rfl, hc, .base (.ins (ok.core.sub _ _ h1) i.cl i.ha i.hn i.htk i.hm), hi, q _ S H (Same.refl _) ok (.bl _)⟩
          | obj v => simp [tyD] at hz
          | bag => simp [tyD] at hz
          | dct _ _ => simp [tyD] at hz
          | dtp _ _ => simp [tyD] at hz
    · cases hz
  · cases hz
theorem d_isi {p : Pos} {cv : V} {u : Value} {kb : String → Option Bool} {own : Addr → Option Bool} (hc : ClsV cv u) (hb : ∀ n b, kb n = some b → PySem.W.kitOne X.K (.type n) u = some b) (ho : ∀ A b, own A = some b → ClsI X.K A ∧ PySem.W.kitOne X.K (.ref A) u = some b)
    (hg : Gl X "isinstance") (hm : X.mg "isinstance" = none) (ha : PA X [a, b] (tDA X.K C W G)) (he : starEach [a, b] X.env = (false, eval a X.env) :: starEach [b] X.env := by rfl) (hpl : (backTo pos (starEach [b] X.env)).any (·.1) = false := by rfl) :
    PE X (.Call (.Name "isinstance" p) [a, b] [] pos) (tD X.K C W (eB (isiF cv kb own) G)) := d_callB call_isi (c_isi hc hb ho) hg hm PyProof.Rows.boot_isinstance ha (by decide) (by decide) he hpl
def inF : D → D → Option D
  | .str x, .str z => match x.cps.toList with
    | [c] => some (.bl (decide (c ∈ z.cps.toList)))
    | _ => none
  | _, _ => none
theorem one_cp {x : Str} {c : Nat} (h : x.cps.toList = [c]) : x = ⟨#[c]⟩ := by
  cases x with
  | mk cps =>
    have h : cps.toList = [c] := h
    have : cps = #[c] := by
      apply Array.ext'
      exact h
    rw [this]
theorem in2 {K : PySem.W.Frag} : Op2 K C (fun x y H Q => ∃ (c : Nat) (z : Str), x = .str ⟨#[c]⟩ ∧ y = .str z ∧ Q (.bl (decide (c ∈ z.cps.toList))) H) inF := by
  intro S ρ b σ H v w d e z Q ok r1 r2 hz q
  unfold inF at hz
  split at hz
  · split at hz
    · rename_i hc
      cases hz; cases r1; cases r2
      exact ⟨_, _, by rw [one_cp hc], rfl, q _ S H (Same.refl _) ok (.bl _)⟩
    · cases hz
  · cases hz
theorem d_in (ha : PE X a (tD X.K C W Fa)) (hb : PE X b (tD X.K C W Fb)) (hm : behindInMarks .In b = false := by with_unfolding_all rfl) : PE X (.Compare a [.In] [b] pos) (tD X.K C W (e2 inF Fa Fb)) := d_cmp op_in_sign in2 ha hb hm
def eM (f : Str → List D → Option D) (Fo : EF) (G : AF) : EF := fun ρ b => (Fo ρ b).bind fun d b1 => match d with
  | .str x => (G ρ b1).bind fun ds b2 => Out.pureO (f x ds) b2
  | _ => .stuck
def MtD (K : PySem.W.Frag) (C : Cq) (r : V → List V → Hp → VK → Prop) (f : Str → List D → Option D) : Prop := ∀ (S : Hp) (ρ : Env) (b : Bag) (σ : L2.St) (H : Hp) (x : Str) (vs : List V) (ds : List D) (z : D) (Q : VK), OkS K C S ρ b σ H → DRs K C.ba S vs ds → f x ds = some z →
  (∀ u S' H', Same S S' → OkS K C S' ρ b σ H' → DR K C.ba S' u z → Q u H') → r (.str x) vs H Q
theorem d_bm {name : Str} {id : String} {r : V → List V → Hp → VK → Prop} {f : Str → List D → Option D} (slot : Slot "str" name id) (hty : typeOf (.builtin id) = pure (.type "method_descriptor")) (hm : MtR X id r) (hf : MtD X.K C r f) (ho : PE X o (tD X.K C W F)) (ha : PA X (e :: es) (tDA X.K C W G))
    (hbase : attributeBase o name X.env (eval o X.env) = eval o X.env := by rfl)
    (hfew : ((backTo cpos (starEach (e :: es) X.env)).all (fun x => !x.1) && (backToKw cpos (keywordEach [] X.env)).all (fun x => x.1.isSome)
      && decide ((e :: es).length + ([] : List Keyword).length + (if ([] : List Keyword).isEmpty then 0 else 1) < 30)) = true := by rfl)
    (hline : (apos.endLine == cpos.line) = true := by rfl) (hs : starEach (e :: es) X.env = (false, eval e X.env) :: starEach es X.env := by rfl) (hplain : (backTo cpos (starEach es X.env)).any (·.1) = false := by rfl) :
    PE X (.Call (.Attribute o name apos) (e :: es) [] cpos) (tD X.K C W (eM f F G)) :=
  pe_imp (pe_bm PySem.F.plainAttrs_str slot hty hm ho ha hbase hfew hline hs hplain) fun σ H Q ⟨S, ρ, b, ok, q⟩ => by
  refine ⟨S, ρ, b, ok, q.bind.imp fun d b1 S1 H1 s1 ok1 q1 v r => ?_⟩
  cases d with
  | str x =>
    cases r
    refine ⟨rfl, S1, ρ, b1, ok1, q1.bind.imp fun ds b2 S2 H2 s2 ok2 q2 vs rs => ?_⟩
    obtain ⟨z, hz, q3⟩ := q2.pureO
    exact hf S2 ρ b2 σ H2 x vs ds z Q ok2 rs hz fun u S' H' e o r => q3 S' H' e o u r
  | _ => exact q1.elim
def strsD : List D → Option (List Str)
  | [] => some []
  | .str x :: ds => (strsD ds).map (x :: ·)
  | _ :: _ => none
def seqD : D → Option (List D)
  | .lst ds => some ds
  | .tup ds => some ds
  | .fl ds => some ds
  | _ => none
def joinF (x : Str) : List D → Option D
  | [d] => (seqD d).bind fun ds => (strsD ds).bind fun ys => if (ys.map (·.length)).sum + ys.length * x.length ≤ 16777216 then some (.str (Txt.join x ys)) else none
  | _ => none
theorem strsD_dr {K : PySem.W.Frag} {ba : Option Addr} {S : Hp} : ∀ {ds : List D} {vs : List V} {ys : List Str}, DRs K ba S vs ds → strsD ds = some ys → vs = ys.map V.str
  | [], _, _, r, h => by cases r; cases h; rfl
  | .str x :: ds, _, _, r, h => by
    simp only [strsD, Option.map_eq_some_iff] at h
    obtain ⟨ks, h1, rfl⟩ := h
    cases r with
    | cons r1 r2 => cases r1; rw [strsD_dr r2 h1]; rfl
  | .non :: _, _, _, _, h => by cases h
  | .int _ :: _, _, _, _, h => by cases h
  | .bl _ :: _, _, _, _, h => by cases h
  | .tup _ :: _, _, _, _, h => by cases h
  | .lst _ :: _, _, _, _, h => by cases h
  | .fl _ :: _, _, _, _, h => by cases h
  | .ins _ _ _ :: _, _, _, _, h => by cases h
  | .obj _ :: _, _, _, _, h => by cases h
  | .bag :: _, _, _, _, h => by cases h
  | .dct _ _ :: _, _, _, _, h => by cases h
  | .dtp _ _ :: _, _, _, _, h => by cases h
theorem m_join {K : PySem.W.Frag} : MtD K C (fun x xs H Q => ∃ a p, ∃ ys : List Str, x = .str a ∧ xs = [.ref p] ∧ (SqL K H p (ys.map V.str) ∨ SqT K H p (ys.map V.str)) ∧
    (ys.map (·.length)).sum + ys.length * a.length ≤ 16777216 ∧ Q (.str (Txt.join a ys)) H) joinF := by
  intro S ρ b σ H x vs ds z Q ok rs hz q
  unfold joinF at hz
  split at hz
  · rename_i d
    simp only [Option.bind_eq_some_iff] at hz
    obtain ⟨ds, h1, ys, h2, hz⟩ := hz
    split at hz
    · rename_i hl
      cases hz
      cases rs with
      | @cons v0 _ _ _ r1 r2 =>
        cases r2
        have key : ∃ p xs, v0 = V.ref p ∧ (SqL K H p xs ∨ SqT K H p xs) ∧ DRs K C.ba S xs ds := by
          cases d <;> simp [seqD] at h1
          · subst h1
            cases r1 with
            | tup g1 g2 => exact ⟨_, _, rfl, .inr (seqT ok.core.sub g1), g2⟩
          · subst h1
            cases r1 with
            | lst g1 g2 => exact ⟨_, _, rfl, .inl (SqL.of (ok.core.sub _ _ g1)), g2⟩
          · subst h1
            cases r1 with
            | fl g1 g2 => exact ⟨_, _, rfl, .inl (ok.core.sub.seq g1), g2⟩
        obtain ⟨p, xs, e0, g1, g2⟩ := key
        have := strsD_dr g2 h2
        subst this
        subst e0
        exact ⟨x, p, ys, rfl, rfl, g1, hl, q _ S H (Same.refl _) ok (.str _)⟩
    · cases hz
  · cases hz
def lkD : List Str → List D → Str → Option D
  | n :: ns, d :: ds, f => if (f == n) = true then some d else lkD ns ds f
  | _, _, _ => none
theorem lk_dr {K : PySem.W.Frag} {ba : Option Addr} {S : Hp} {f : Str} : ∀ {fs : List (Str × V)} {ns : List Str} {ds : List D} {d : D}, fs.map (·.1) = ns → DRs K ba S (fs.map (·.2)) ds → lkD ns ds f = some d → ∃ v, fs.lookup f = some v ∧ DR K ba S v d
  | [], _, _, _, h, r, e => by subst h; cases r; simp [lkD] at e
  | (n, v) :: fs, _, ds, d, h, r, e => by
    subst h
    cases r with
    | cons r1 r2 =>
      simp only [List.map_cons, lkD] at e
      unfold List.lookup
      split at e
      · rename_i hh
        cases e
        exact ⟨v, by rw [hh], r1⟩
      · rename_i hh
        have hh : (f == n) = false := by simpa using hh
        rw [hh]
        exact lk_dr rfl r2 e
def fldF (A : Addr) (f : Str) : D → Option D
  | .ins A' ns ds => if A' = A then lkD ns ds f else none
  | _ => none
theorem ins_of {K : PySem.W.Frag} {ba : Option Addr} {S : Hp} {A : Addr} {f : Str} {d z : D} {v : V} (r : DR K ba S v d) (h : fldF A f d = some z) : ∃ a dx fs u, v = .ref a ∧ S a = some (.ins A dx fs) ∧ fs.lookup f = some u ∧ DR K ba S u z := by
  cases d with
  | ins A' ns ds =>
    simp only [fldF] at h
    split at h
    · rename_i hA
      subst hA
      cases r with
      | ins h1 h2 h3 =>
        obtain ⟨u, h4, h5⟩ := lk_dr h2 h3 h
        exact ⟨_, _, _, u, rfl, h1, h4, h5⟩
    · cases h
  | _ => cases h
theorem d_fld {A : Addr} {f : Str} (he : PE X e (tD X.K C W F)) (c : Cls X.K A) (n : NoAttr X.K A f) (hb : attributeBase e f X.env (eval e X.env) = eval e X.env := by rfl) : PE X (.Attribute e f pos) (tD X.K C W (e1 (fldF A f) F)) := pe_imp (pe_fld he hb) fun σ H Q ⟨S, ρ, b, ok, q⟩ => by
  refine ⟨S, ρ, b, ok, q.bind.imp fun d b1 S1 H1 s1 ok1 q1 v r => ?_⟩
  obtain ⟨z, hz, q2⟩ := q1.pureO
  obtain ⟨a, dx, fs, u, rfl, h1, h2, h3⟩ := ins_of r hz
  exact ⟨a, A, dx, fs, u, rfl, ok1.core.sub _ _ h1, c, n, h2, q2 S1 H1 (Same.refl _) ok1 u h3⟩
theorem d_prop {A p g : Addr} {f pr : Str} {fd : FuncData} {k : Nat} (he : PE X e (tD X.K C W F)) (c : Cls X.K A) (hp : PropOf X.K A pr p g) (FO : FnOk X.prog X.w X.K X.mg X.base CX0 k g fd ["self"] (getSp A f)) (hr : Room (k + 1) X.A) (hb : Binds X.K fd ["self"] [])
    (hab : attributeBase e pr X.env (eval e X.env) = eval e X.env := by rfl) : PE X (.Attribute e pr pos) (tD X.K C W (e1 (fldF A f) F)) := pe_imp (pe_prop he c hp FO hr hb .nil pass0 hab) fun σ H Q ⟨S, ρ, b, ok, q⟩ => by
  refine ⟨S, ρ, b, ok, q.bind.imp fun d b1 S1 H1 s1 ok1 q1 v r => ?_⟩
  obtain ⟨z, hz, q2⟩ := q1.pureO
  obtain ⟨a, dx, fs, u, rfl, h1, h2, h3⟩ := ins_of r hz
  exact ⟨a, dx, fs, rfl, ok1.core.sub _ _ h1, a, dx, fs, u, rfl, ok1.core.sub _ _ h1, h2, q2 S1 H1 (Same.refl _) ok1 u h3⟩
end
end DL

set_option maxHeartbeats 1000000
namespace DL
open PySem PySem.Spec PyProof.Rows L2
theorem FnG.fnok {P : Program} {w : World} {K : PySem.W.Frag} {mg : Str → Option Value} {base : Heap} {k : Nat} {f : Addr} {fd : FuncData} {ps : List Str} {sp : Sp} (F : FnG P w K mg base (fun _ => True) k f fd ps sp) : FnOk P w K mg base (L2.CX P w) k f fd ps sp :=
  ⟨F.many, fun A fr s H ar us vs Q E hr he hb hv hs => F.go A fr s H ar us vs Q E hr trivial he hb hv hs⟩
section
variable {K : PySem.W.Frag} {C : Cq} {S S' H H' : Hp} {ρ : Env} {b : Bag} {σ : L2.St} {p : Addr} {u u' : HO}
theorem OkF.setU (o : OkF K C S ρ b σ H p u) : OkF K C S ρ b σ (upd H p u') p u' := by
  obtain ⟨c, h1, h2, h3, h4, O, s, w, n⟩ := o
  refine ⟨c.write h2 h3 h4, upd_same, h2, h3, h4, O, s.mono (Same.refl _) (fun q hq v h => ?_), w, n⟩
  rw [upd_ne (fun z => n (by rw [← z]; exact hq))]
  exact h
theorem OkF.setSh {v : V} {d : D} {i : Nat} (o : OkF K C S ρ b σ H p u) (r : DR K C.ba S v d) : OkF K C S (ρ.set i (some (.sh d))) b (σ.set i (some v)) H p u := by
  obtain ⟨c, h1, h2, h3, h4, O, s, w, n⟩ := o
  obtain ⟨O', s', l⟩ := s.setSh r (i := i)
  exact ⟨c, h1, h2, h3, h4, O', s', w.sub l, fun z => n (l.subset z)⟩
/-- what was run in an inner run, its names otherwise, is ours again -/
theorem OkF.again {ρ' : Env} {b' : Bag} {σ' : L2.St} (o : OkF K C S ρ b σ H p u) (d : OkS K (inner C S H) S' ρ' b' σ' H') (nt : ∀ xs, u ≠ .tup xs := by first | (intro _ z; cases z; done) | (intro _ z; subst z; cases ‹ODR _ _ _ (.tup _) _›)) : OkF K C S' ρ' b' σ' H' p u := by
  obtain ⟨c, h1, h2, h3, h4, O, s, w, n⟩ := o
  obtain ⟨dc, O', s', w'⟩ := d
  have sp' : S' p = none := by
    cases z : S' p with
    | none => rfl
    | some v =>
      rcases dc.new p v z with y | y | ⟨ys, y⟩
      · have y' : S p = some v := y
        rw [h2] at y'; cases y'
      · have y' : H p = none := y
        rw [h1] at y'; cases y'
      · have y' := dc.sub _ _ z
        rw [dc.fr p u h1 h4, y] at y'
        exact absurd (Option.some.inj y') (nt ys)
  have hin : ∀ q ∈ O', H q = none := fun q hq => (w'.al q hq).2.1
  refine ⟨c.outer dc, dc.fr p u h1 h4, sp', h3, h4, O', s', ⟨w'.nd, fun q hq => ⟨(w'.al q hq).1, ?_, (w'.al q hq).2.2⟩⟩, fun z => ?_⟩
  · exact c.h0 (hin q hq)
  · rw [hin p z] at h1; cases h1
end
abbrev IF := Env → Bag → List Str → List D → IO
def isMe (x : Addr) (ρ : Env) : Bool := match (ρ[0]? : Option (Option SD)) with
  | some (some (.sh (.obj (.ref y)))) => y == x
  | _ => false
/-- the rows of an __init__ -/
def tI (K : PySem.W.Frag) (C : Cq) (W : WX) (A x : Addr) (F : IF) : TS := fun E σ H => ∃ S ρ b dx fs ns ds, OkF K C S ρ b σ H x (.ins A dx fs) ∧ isMe x ρ = true ∧ fs.map (·.1) = ns ∧ DRs K C.ba S (fs.map (·.2)) ds ∧ IOk K C W A x S E (F ρ b ns ds)
def iNil : IF := fun _ b ns ds => .ok (ns, ds) b
def iSeq (x : Addr) (G : SF) (F : IF) : IF := fun ρ b ns ds => match G (unown ρ) b with
  | .nx ρ' b' => if isMe x ρ' = true then F ρ' b' ns ds else .stuck
  | .ex _ c es xs => .ex c es xs
  | _ => .stuck
def iSt (f : Str) (Fe : EF) (F : IF) : IF := fun ρ b ns ds => match Fe (unown ρ) b with
  | .ok d b' => if ns.contains f = true ∨ 900 < ns.length then .stuck else F ρ b' (ns ++ [f]) (ds ++ [d])
  | _ => .stuck
theorem me_slot {K : PySem.W.Frag} {C : Cq} {S H : Hp} {ρ : Env} {b : Bag} {σ : L2.St} {x : Addr} (ok : OkS K C S ρ b σ H) (h : isMe x ρ = true) : σ[0]? = some (some (.ref x)) := by
  unfold isMe at h
  split at h
  · rename_i y hr
    obtain ⟨v, hv, r⟩ := ok.get hr
    have hy : y = x := by simpa using h
    subst hy
    cases r
    exact hv
  · cases h
theorem putF_new {f : Str} {v : V} : ∀ {fs : List (Str × V)}, (fs.map (·.1)).contains f = false → putF f v fs = fs ++ [(f, v)]
  | [], _ => rfl
  | (n, w) :: fs, h => by
    simp only [List.map_cons, List.contains_cons, Bool.or_eq_false_iff] at h
    unfold putF
    rw [putF_new h.2]
    have hne : n ≠ f := fun z => by
      subst z
      have := h.1
      simp at this
    simp [hne]
section
variable {X : Cx} {C : Cq} {W : WX} {st : Stmt} {sts : List Stmt} {e : Expr} {pos : Pos} {A x : Addr} {G : SF} {F : IF} {Fe : EF}
theorem i_nil : PSs X [] (tI X.K C W A x iNil) := pss_imp pss_nil fun E σ H ⟨S, ρ, b, dx, fs, ns, ds, o, hme, hn, hd, q⟩ => q S σ H dx fs (Same.refl _) o.core o.at_ o.sn hn hd
theorem i_cons (h1 : ∀ C, PS X st (tDS X.K C W G)) (h2 : PSs X sts (tI X.K C W A x F)) : PSs X (st :: sts) (tI X.K C W A x (iSeq x G F)) :=
  pss_imp (pss_cons (t := fun E σ H => ∃ C, tDS X.K C W G E σ H) ⟨fun pins s σ H D I ⟨C, h⟩ => (h1 C).run pins s σ H D I h⟩ h2) fun E σ H ⟨S, ρ, b, dx, fs, ns, ds, o, hme, hn, hd, q⟩ => by
  have s0 : OkS X.K (inner C S H) S (unown ρ) b σ H := o.ok.inner
  refine ⟨inner C S H, S, unown ρ, b, s0, ?_⟩
  unfold iSeq at q
  split at q
  · rename_i ρ' b' hG
    rw [hG]
    intro S' σ' H' e ok
    split at q
    · rename_i hme'
      exact ⟨S', ρ', b', dx, fs, ns, ds, o.again ok, hme', hn, hd.up e, q.up e⟩
    · exact q.elim
  · rename_i ρ' c es xs hG
    rw [hG]
    exact fun dx S' σ' H' b' e ok xr => q dx S' σ' H' b' e (o.core.outer ok.core) xr
  · exact q.elim
theorem i_store {f : Str} {pos' p0 : Pos} {sx : Str} (h0 : PE X (.Name sx p0) (tVar 0)) (he : ∀ C, PE X e (tD X.K C W0 Fe)) (c : Cls X.K A) (n : NoAttr X.K A f) (h2 : PSs X sts (tI X.K C W A x F)) (hs : swapsWith e (some (.Attribute (.Name sx p0) f pos')) pos.line X.env = pure false := by rfl) :
    PSs X (.Assign [.Attribute (.Name sx p0) f pos'] e pos :: sts) (tI X.K C W A x (iSt f Fe F)) :=
  pss_imp (pss_cons (ps_fld (tv := fun σ H Q => ∃ C, tD X.K C W0 Fe σ H Q) h0 ⟨fun pins s σ H Q I ⟨C, h⟩ => (he C).run pins s σ H Q I h⟩ hs) h2) fun E σ H ⟨S, ρ, b, dx, fs, ns, ds, o, hme, hn, hd, q⟩ => by
  refine ⟨inner C S H, S, unown ρ, b, o.ok.inner, ?_⟩
  unfold iSt at q
  split at q
  · rename_i d b' hF
    rw [hF]
    intro S' H' e' ok v r
    have o' : OkF X.K C S' ρ b' σ H' x (.ins A dx fs) := o.frame ok.core e'
    split at q
    · exact q.elim
    · rename_i hc
      have hc1 : ns.contains f = false := by
        cases hh : ns.contains f with
        | false => rfl
        | true => exact absurd (Or.inl hh) hc
      have hc2 : ns.length ≤ 900 := by
        by_cases hh : 900 < ns.length
        · exact absurd (Or.inr hh) hc
        · omega
      refine ⟨_, me_slot o'.ok hme, x, A, dx, fs, rfl, o'.at_, c, n, ?_, ?_⟩
      · have := congrArg List.length hn
        rw [List.length_map] at this
        omega
      · refine ⟨S', ρ, b', dx, fs ++ [(f, v)], ns ++ [f], ds ++ [d], ?_, hme, ?_, ?_, q.up e'⟩
        · rw [putF_new (by rw [hn]; exact hc1)]
          exact o'.setU
        · rw [List.map_append, hn]
          rfl
        · rw [List.map_append]
          exact (hd.up e').app (.cons r .nil)
  · exact q.elim
end
def OutI (K : PySem.W.Frag) (C : Cq) (A x : Addr) (S : Hp) (Q : VK) (E : XK) : IO → Prop
  | .ok z b => ∀ S' H dx fs, Same S S' → Core C S' b H → H x = some (.ins A dx fs) → S' x = none → fs.map (·.1) = z.1 → DRs K C.ba S' (fs.map (·.2)) z.2 → Q .non H
  | .ex c ns ds => ∀ (dx : Option Addr) S' H b, Same S S' → Core C S' b H → XR K C.ba S' dx ns ds → E (.ref c) dx H
  | .stuck => False
def spI (K : PySem.W.Frag) (A : Addr) (Fn : Addr → List D → Bag → IO) : Sp := fun vs H Q E => ∃ (H1 S : Hp) (ba : Option Addr) (b : Bag) (ds : List D) (x dx : Addr) (ws : List V), vs = .ref x :: ws ∧ H = upd (upd H1 dx (.own x)) x (.ins A dx []) ∧ H1 x = none ∧ H1 dx = none ∧ dx ≠ x ∧
  Core ⟨H1, S, ba⟩ S b H1 ∧ DRs K ba S ws ds ∧ OutI K ⟨H1, S, ba⟩ A x S Q E (Fn x ds b)
def initF (n m : Nat) (F : Addr → IF) : Addr → List D → Bag → IO := fun x ds b => if ds.length + 1 = m then F x (some (.sh (.obj (.ref x))) :: (ds.map (fun d => some (.sh d)) ++ List.replicate (n - (ds.length + 1)) none)) b [] [] else .stuck
section
variable {P : Program} {w : World} {K : PySem.W.Frag} {mg : Str → Option Value} {base : Heap} {Gd : Around → Prop}
theorem d_init {x qual : Str} {st : Stmt} {f A : Addr} {fd : FuncData} {N ps : List Str} {k : Nat} {F : Addr → IF} (Fu : Fun K x qual st f fd) (Sc : FnScope N ps (defScope st))
    (body : ∀ (y : Addr) (cdv : Value) (Ar : Around) (outer : List PySem.Env) (s : Shared) (H : Hp) (E : XK) (C : Cq), Room k (Ar.deeper (envOfC qual (defScope st) s.heap.objs.size f cdv)) → Gd Ar →
      PSs (cxOf (L2.CX P w) P w K mg base N qual (defScope st) f cdv Ar outer s H E) (defBody st) (tI K C (WD E) A y (F y))) : FnG P w K mg base Gd (k + 1) f fd ps (spI K A (initF N.length ps.length F)) := by
  refine FnG.body Fu Sc (fun vs H Q E h => ?_) (fun cdv Ar outer s H vs Q E hr hg h => ?_)
  · obtain ⟨H1, S, ba, b, ds, y, dx, ws, rfl, rfl, _, _, _, _, r, o⟩ := h
    by_cases hl : ds.length + 1 = ps.length
    · rw [← hl, ← r.length]; rfl
    · unfold initF at o
      rw [if_neg hl] at o
      exact o.elim
  · obtain ⟨H1, S, ba, b, ds, y, dx, ws, rfl, hH, h1, h2, h3, c, r, o⟩ := h
    refine ⟨_, body y cdv Ar outer s H E ⟨H1, S, ba⟩ hr hg, ?_⟩
    unfold initF at o
    by_cases hl : ds.length + 1 = ps.length
    · rw [if_pos hl] at o
      have hx : (upd H1 dx (.own y)) y = none := by rw [upd_ne (fun z => h3 z.symm)]; exact h1
      have cc : Core ⟨H1, S, ba⟩ S b H := by
        rw [hH]
        exact (c.allocH h2).allocH hx
      have sl : Slots K ba S H (L2.start N (.ref y :: ws)) (some (.sh (.obj (.ref y))) :: (ds.map (fun d => some (.sh d)) ++ List.replicate (N.length - (ds.length + 1)) none)) [] := by
        unfold L2.start
        show Slots K ba S H (some (V.ref y) :: (ws.map some ++ List.replicate (N.length - (ws.length + 1)) none)) _ _
        rw [r.length]
        exact .sh (.obj _) (slots_start _ ds ws r)
      refine ⟨S, _, b, dx, [], [], [], ⟨cc, by rw [hH]; exact upd_same, c.sn h1, h1, c.nba h1, [], sl, ⟨List.nodup_nil, fun _ h => by cases h⟩, by simp⟩, by simp [isMe], rfl, .nil, ?_⟩
      cases hF : F y (some (.sh (.obj (.ref y))) :: (ds.map (fun d => some (.sh d)) ++ List.replicate (N.length - (ds.length + 1)) none)) b [] [] with
      | ok z b' => rw [hF] at o; exact fun S' σ H' dx' fs e cc g1 g2 g3 g4 => o S' H' dx' fs e cc g1 g2 g3 g4
      | ex cl ns es => rw [hF] at o; exact fun dx' S' σ H' b' e cc xr => o dx' S' H' b' e cc xr
      | stuck => rw [hF] at o; exact o
    · rw [if_neg hl] at o
      exact o.elim
end
section
variable {X : Cx} {C : Cq} {E : XK} {e : Expr} {es : List Expr} {pos p : Pos} {G : AF} {A f : Addr} {k : Nat} {fd : FuncData} {ps : List Str} {x : Str}
def eMake (A : Addr) (Fm : List D → Bag → IO) (G : AF) : EF := fun ρ b => (G ρ b).bind fun ds b' => (Fm ds b').bind fun z b2 => .ok (.ins A z.1 z.2) b2
theorem make_of {Fx : Addr → List D → Bag → IO} {Fm : List D → Bag → IO} (hF : ∀ y ds b, Fm ds b = .stuck ∨ Fx y ds b = Fm ds b) {S1 : Hp} {ρ : Env} {b1 : Bag} {σ : L2.St} {H1 : Hp} {vs : List V} {ds : List D} {Q : VK} {y dx : Addr} (ok1 : OkS X.K C S1 ρ b1 σ H1) (r : DRs X.K C.ba S1 vs ds)
    (hy : H1 y = none) (hdx : H1 dx = none) (hne : dx ≠ y) (q : OutG X.K C (WD E) S1 ρ σ (fun d _ S' H' => ∀ v, DR X.K C.ba S' v d → Q v H') ((Fm ds b1).bind fun z b2 => .ok (.ins A z.1 z.2) b2)) :
    spI X.K A Fx (.ref y :: vs) (upd (upd H1 dx (.own y)) y (.ins A dx [])) (fun v H2 => v = .non ∧ Q (.ref y) H2) E := by
  refine ⟨H1, S1, C.ba, b1, ds, y, dx, vs, rfl, rfl, hy, hdx, hne, ok1.core.inner, r, ?_⟩
  rcases hF y ds b1 with h | h
  · rw [h] at q; exact q.elim
  · rw [h]
    cases hm : Fm ds b1 with
    | stuck => rw [hm] at q; exact q.elim
    | ex c ns es => rw [hm] at q; exact fun dx' S' H' b' e cc xr => q dx' S' H' b' e (ok1.frame cc e) xr
    | ok z b2 =>
      rw [hm] at q
      intro S' H' dx' fs e cc g1 g2 g3 g4
      have sh := same_upd (u := .ins A dx' fs) g2
      refine ⟨rfl, q (upd S' y (.ins A dx' fs)) H' (e.trans sh) (ok1.frame (cc.share g1 g2 hy (ok1.core.nba hy)) (e.trans sh)) _ (.ins upd_same g3 (g4.up sh))⟩
theorem d_make {Fx : Addr → List D → Bag → IO} {Fm : List D → Bag → IO} (M : Mk X.K A f) (FO : FnOk X.prog X.w X.K X.mg X.base (L2.CX X.prog X.w) k f fd ps (spI X.K A Fx)) (hF : ∀ y ds b, Fm ds b = .stuck ∨ Fx y ds b = Fm ds b) (hr : Room (k + 1) X.A) (hg : Gl X x) (hm : X.mg x = some (.ref A)) (hb : Binds X.K fd ps []) (hx : Passes (L2.CX X.prog X.w) X E)
    (ha : PA X (e :: es) (tDA X.K C (WD E) G)) (hdb : (x == ("__debug__" : Str)) = false := by decide) (he : starEach (e :: es) X.env = (false, eval e X.env) :: starEach es X.env := by rfl) (hpl : (backTo pos (starEach es X.env)).any (·.1) = false := by rfl) :
    PE X (.Call (.Name x p) (e :: es) [] pos) (tD X.K C (WD E) (eMake A Fm G)) := pe_imp (pe_make (dvs := []) M FO hr hg hm hb .nil hx ha hdb he hpl) fun σ H Q ⟨S, ρ, b, ok, q⟩ => by
  refine ⟨S, ρ, b, ok, q.bind.imp fun ds b1 S1 H1 s1 ok1 q1 vs r y dx hy hdx hne => ?_⟩
  rw [List.append_nil]
  exact make_of hF ok1 r hy hdx hne q1
theorem d_knil {W : WX} : PK X [] (tDA X.K C W aNil) := ⟨fun pos pins s σ H Q I ⟨S, ρ, b, ok, q⟩ => pk_nil.run pos pins s σ H Q I (q S H (Same.refl _) ok [] .nil)⟩
theorem d_kcons {W : WX} {F : EF} {kws : List Keyword} {nm : Option Str} {kpos : Pos} (he : PE X e (tD X.K C W F)) (hr : PK X kws (tDA X.K C W G)) : PK X (⟨nm, e, kpos⟩ :: kws) (tDA X.K C W (aCons F G)) :=
  ⟨fun pos pins s σ H Q I ⟨S, ρ, b, ok, q⟩ => (pk_cons he hr).run pos pins s σ H Q I
    ⟨S, ρ, b, ok, q.bind.imp fun d b1 S1 H1 s1 ok1 q1 v r => ⟨S1, ρ, b1, ok1, q1.bind.imp fun ds b2 S2 H2 s2 ok2 q2 vs rs => q2 S2 H2 (Same.refl _) ok2 _ (.cons (r.up s2) rs)⟩⟩⟩
end
section
variable {X : Cx} {C : Cq} {W : WX} {pos : Pos} {body : List Stmt} {h₀ : ExceptHandler} {hs : List ExceptHandler} {G : SF}
def sThru (G : SF) : SF := fun ρ b => match G ρ b with
  | .ex _ _ _ _ => .stuck
  | o => o
theorem d_thru (hb : PSs X.nox body (tDS X.K C W0 G)) : PS X (.Try body (h₀ :: hs) [] [] pos) (tDS X.K C W (sThru G)) := ps_imp (ps_try_thru0 hb) fun E σ H ⟨S, ρ, b, ok, q⟩ => by
  refine ⟨S, ρ, b, ok, ?_⟩
  unfold sThru at q
  cases hG : G ρ b with
  | ex _ _ _ _ => rw [hG] at q; exact q.elim
  | nx _ _ => rw [hG] at q; exact q
  | rt _ _ => rw [hG] at q; exact q
  | ro _ _ => rw [hG] at q; exact q
  | bk _ _ => rw [hG] at q; exact q
  | ct _ _ => rw [hG] at q; exact q
  | stuck => rw [hG] at q; exact q.elim
theorem d_in3 {e : Expr} {F : EF} (h : ∀ C, PE X e (tD X.K C W0 F)) : PE X e (tDin X.K F) := ⟨fun pins s σ H Q I ⟨C, z⟩ => (h C).run pins s σ H Q I z⟩
end
end DL

set_option maxHeartbeats 1000000
namespace DL
open PySem PySem.Spec PyProof.Rows L2
section
variable {X : Cx} {C : Cq} {W : WX} {st : Stmt} {e a b c o tg l : Expr} {es : List Expr} {pos apos cpos : Pos} {F Fa Fb Fc : EF} {G : AF}
@[simp] def allOf : D → Option (List D)
  | .lst ds => some ds
  | .fl ds => some ds
  | .tup ds => some ds
  | .str x => some (signsOf x)
  | _ => none
@[simp] def aAny (F : EF) : AF := fun ρ b => (F ρ b).bind fun d b' => Out.pureO (allOf d) b'
theorem aAny_cases (F : EF) (ρ : Env) (b : Bag) : aAny F ρ b = aSeq F ρ b ∨ aAny F ρ b = aTup F ρ b ∨ aAny F ρ b = aSigns F ρ b := by
  unfold aAny aSeq aTup aSigns
  cases F ρ b with
  | ok d b' => cases d <;> first | exact .inl rfl | exact .inr (.inl rfl) | exact .inr (.inr rfl)
  | ex c ns ds => exact .inl rfl
  | stuck => exact .inl rfl
theorem d_iany (h : PE X l (tD X.K C W F)) : PI X tg l (tDI X.K C W (aAny F)) := ⟨fun pins s σ H R I ⟨S, ρ, b, ok, q⟩ => by
  rcases aAny_cases F ρ b with e | e | e
  · rw [e] at q; exact (d_ilist h).run pins s σ H R I ⟨S, ρ, b, ok, q⟩
  · rw [e] at q; exact (d_ituple h).run pins s σ H R I ⟨S, ρ, b, ok, q⟩
  · rw [e] at q; exact (d_istr h).run pins s σ H R I ⟨S, ρ, b, ok, q⟩⟩
@[simp] def bYes : BF := fun _ b => .ok true b
theorem d_tsnil : PTs X [] (tDt X.K C W bYes) := ⟨fun pins s σ H Q I ⟨S, ρ, b, ok, q⟩ => pts_nil.run pins s σ H Q I (q S H (Same.refl _) ok)⟩
theorem d_inte {x : Str} {i : Int} (hg : Gl X x) (hm : ∃ t, X.mg x = some (.int i t)) (hd : (x == ("__debug__" : Str)) = false := by decide) : PE X (.Name x pos) (tD X.K C W (eC (.int i))) := by
  obtain ⟨t, hm⟩ := hm
  exact d_intn hg hm hd
theorem d_stre {x y : Str} (hg : Gl X x) (hm : ∃ t, X.mg x = some (.str y t)) (hd : (x == ("__debug__" : Str)) = false := by decide) : PE X (.Name x pos) (tD X.K C W (eC (.str y))) := by
  obtain ⟨t, hm⟩ := hm
  exact d_strn hg hm hd
def Has (P : Program) (w : World) (K : PySem.W.Frag) (mg : Str → Option Value) (base : Heap) (Gd : Around → Prop) (k : Nat) (x : Str) (ps : List Str) (sp : Sp) : Prop :=
  ∃ f fd, FnG P w K mg base Gd k f fd ps sp ∧ mg x = some (.ref f) ∧ PySem.W.keepIn K (.ref f) = true ∧ Binds K fd ps []
theorem d_callH {Gd : Around → Prop} {j k : Nat} {ps : List Str} {Fn : DFn} {x : Str} {p : Pos} (h : Has X.prog X.w X.K X.mg X.base Gd j x ps (spD X.K Fn)) (hr : Room k X.A) (hj : j ≤ k) (hgd : Gd X.A) (hg : Gl X x)
    (tk : Takes X W) (ha : PA X (e :: es) (tDA X.K C W G)) (hdb : (x == ("__debug__" : Str)) = false := by decide) (he : starEach (e :: es) X.env = (false, eval e X.env) :: starEach es X.env := by rfl)
    (hpl : (backTo pos (starEach es X.env)).any (·.1) = false := by rfl) : PE X (.Call (.Name x p) (e :: es) [] pos) (tD X.K C W (eCall Fn G)) := by
  obtain ⟨f, fd, FO, hm, hk, hb⟩ := h
  exact d_call FO (hr.mono hj) hgd hg hm hk hb tk ha hdb he hpl
theorem d_callHB {Gd Gd' : Around → Prop} {j jb k : Nat} {ps psb : List Str} {Fn Bn : DFn} {x xb : Str} {p pb posb : Pos} {e2 : Expr} (h : Has X.prog X.w X.K X.mg X.base Gd j x ps (spD X.K Fn)) (h' : Has X.prog X.w X.K X.mg X.base Gd' jb xb psb (spDF X.K Bn)) (hr : Room k X.A) (hj : j ≤ k) (hjb : jb ≤ k) (hgd : Gd X.A) (hgd' : Gd' X.A) (hg : Gl X x) (hgb : Gl X xb)
    (tk : Takes X W) (ha : PA X (e2 :: es) (tDA X.K C W G)) (hdb : (x == ("__debug__" : Str)) = false := by decide) (hdb2 : (xb == ("__debug__" : Str)) = false := by decide)
    (he2 : starEach (e2 :: es) X.env = (false, eval e2 X.env) :: starEach es X.env := by rfl) (hpl2 : (backTo posb (starEach es X.env)).any (·.1) = false := by rfl)
    (he : starEach [.Call (.Name xb pb) (e2 :: es) [] posb] X.env = (false, eval (.Call (.Name xb pb) (e2 :: es) [] posb) X.env) :: starEach [] X.env := by rfl) (hpl : (backTo pos (starEach [] X.env)).any (·.1) = false := by rfl) :
    PE X (.Call (.Name x p) [.Call (.Name xb pb) (e2 :: es) [] posb] [] pos) (tD X.K C W (eBag Fn Bn G)) := by
  obtain ⟨f, fd, FO, hm, hk, hb⟩ := h
  obtain ⟨f', fd', FO', hm', hk', hb'⟩ := h'
  exact d_callBag FO (hr.mono hj) hgd hg hm hk hb tk FO' (hr.mono hjb) hgd' hgb hm' hk' hb' ha hdb hdb2 he2 hpl2 he hpl
theorem d_mid3T {i j l : Nat} {F1 F2 F3 : EF} (h : PS X st (tAsg (tTup (tCons (tD X.K C W F1) (tCons (tDF X.K C W F2) (tCons (tDin X.K F3) tNil)))) (gTup X.K 3 (gCons (gName i) (gCons (gName j) (gCons (gName l) gNil)))))) : PS X st (tDS X.K C W (sMid i j l F1 F2 F3)) := ps_imp h fun E σ H z =>
  mid_of (R := fun xs H1 => xs.length ≤ sizeLine ∧ ∀ p, H1 p = none → gTup X.K 3 (gCons (gName i) (gCons (gName j) (gCons (gName l) gNil))) (.ref p) σ (upd H1 p (.tup xs)) E.nx) z fun S ρ b H v1 v3 d1 d2 d3 p u o r1 r2 r3 fin => ⟨by show 3 ≤ sizeLine; decide, fun q hq => ⟨q, _, rfl, SqT.of upd_same, rfl, _, _, rfl, _, _, rfl, _, _, rfl, rfl, fin S _ _ (Same.refl _) ((((o.allocH hq).setSh r1).setOw r2).setSh r3)⟩⟩
end
end DL

set_option maxHeartbeats 1000000
namespace DL
open PySem PySem.Spec PyProof.Rows L2
section
variable {fn : List QD} {ex : PySem.W.Frag → Bool} {K : PySem.W.Frag}
theorem ex_of (c : obK fn ex K = vaK fn) : ex K = true := by
  have := congrArg (fun z : QA => z.1) c
  have h : (ex K && fn.all fun d => d.ok K) = true := this
  rw [Bool.and_eq_true] at h
  exact h.1
theorem fun_of (c : obK fn ex K = vaK fn) (i : Nat) {d : QD} (h : fn[i]? = some d := by rfl) : ∃ fd, Fun K d.name d.qual d.st (d.at_ K) fd := by
  have h1 : (ex K && fn.all fun d => d.ok K) = true := congrArg (fun z : QA => z.1) c
  have h2 : (fn.map fun d => fnV K (d.at_ K)) = fn.map QD.val := congrArg (fun z : QA => z.2) c
  rw [Bool.and_eq_true] at h1
  have h3 : (fn.map fun d => fnV K (d.at_ K))[i]? = (fn.map QD.val)[i]? := by rw [h2]
  rw [List.getElem?_map, List.getElem?_map, h] at h3
  exact QD.get (Option.some.inj h3) (List.all_eq_true.mp h1.2 d (List.mem_of_getElem? h))
end
abbrev GK : Around → Prop := fun A => A.guards = some []
abbrev GT : Around → Prop := fun _ => True
abbrev Fine (s₁ : Shared) (r : Result) (t : Shared) : Prop := r = .ok (.ret (.bool true)) ∧ OldK s₁.heap t.heap ∧ t.os = s₁.os ∧ AllBare t.gens
section
variable {P : Program} {w : World} {K : PySem.W.Frag} {mg mb : Str → Option Value} {k : Nat} {fa a : Addr} {fd : FuncData} {x : Str} {sp : Sp} {s₁ : Shared} {vs : List Value} {ns : List Int}
/-- seen from an abstract heap T that holds at most the script, as a known object -/
theorem call_from (T : Hp) (kin : K.In s₁.heap) (gl : s₁.heap.Ns mainGlobals mg) (bl : s₁.heap.Ns builtinsNs mb) (bb : ∀ x : Str, x ≠ "__name__" → mb x = bootBuiltins x) (nl : s₁.heap.NoLimit) (gn : s₁.gens = #[])
    (at_ : s₁.heap.get? a = some { cls := .type "list", data := .seq vs.toArray }) (room : Room k callerA) (F : ∀ base : Heap, K.In base → base.Ns mainGlobals mg → FnG P w K mg base GK k fa fd [x] sp) (bt : ∀ (s : Shared) (u : Value), BindsTo s fd ⟨[u], []⟩ [(x, u)])
    (on : Only T) (go : sp [.ref a] T (fun v _ => v = .bl true) fun _ _ _ => False) (fine : HOk P w T s₁.heap) (one : ∀ b, T b ≠ none → b = a) (out : T a ≠ none → K.lookup a = none) : codeAny (model P w) callerA (.call (.ref fa) ⟨[.ref a], []⟩) (Fine s₁) s₁ := by
  have keep : ∀ {b : Addr} {o : Obj}, s₁.heap.get? b = some o → T b = none → (hidT s₁.heap T).get? b = some o := fun g n => hidT_get g n
  have free : ∀ {b : Addr} {o : Obj} {es : Array DictEntry} {n : Nat}, s₁.heap.get? b = some o → o.data = .dict es n → T b = none := by
    intro b o es n g dd
    by_cases hz : T b = none
    · exact hz
    · have hb := one b hz
      rw [hb, at_] at g
      injection g with g
      rw [← g] at dd
      nomatch (show Data.seq vs.toArray _ = Data.dict es n from dd)
  have spaces : ∀ {b : Addr} {m : Str → Option Value}, s₁.heap.Ns b m → (hidT s₁.heap T).Ns b m := by
    rintro b m ⟨o, es, n, g, dd, rest⟩
    exact ⟨o, es, n, keep g (free g dd), dd, rest⟩
  have kin' : K.In (hidT s₁.heap T) := by
    intro b o g
    refine keep (kin b o g) ?_
    by_cases hz : T b = none
    · exact hz
    · have hb := one b hz
      rw [hb] at g hz
      rw [out hz] at g
      cases g
  have md : Mod K mg (hidT s₁.heap T) := by
    refine ⟨kin', spaces gl, ⟨mb, spaces bl, bb⟩, ?_⟩
    obtain ⟨mc, g1, g2⟩ := nl
    exact ⟨mc, spaces g1, g2⟩
  have env : Env0 P w K mg (hidT s₁.heap T) callerA [] s₁ T := by
    refine ⟨rfl, md, fun b o g => of_hidT g, Nat.le_of_eq (hidT_size _ _), trivial, fun b hb => ?_, fine, .of_eq gn⟩
    cases hb
  refine codeAny_mono ((F _ kin' (spaces gl)).go callerA [] s₁ T ⟨[.ref a], []⟩ [.ref a] [.ref a] _ _ room rfl env (bt s₁ (.ref a)) (.cons rfl .nil) go) fun r t h => ?_
  match r, h with
  | .error e, h =>
    obtain ⟨_, _, _, _, _, _, _, _, _, _, _, _, z⟩ := h
    exact z.elim
  | .ok (.ret u), h =>
    obtain ⟨v, T', h1, h2, un, fine', rv, hv⟩ := h
    have hv : v = .bl true := hv
    rw [hv] at rv
    have hu : u = Value.bool true := rv
    refine ⟨by rw [hu], OldK.of_keep fun b o g => ?_, h1, h2⟩
    by_cases hz : T b = none
    · exact un.keep b o g hz (fun z => by cases z) (by simp)
    · rcases on b with z | ⟨ob, xs, z⟩
      · exact absurd z hz
      · have z' := un.frzs b ob _ z
        obtain ⟨g1, _⟩ := fine b _ z
        obtain ⟨g2, _⟩ := fine' b _ z'
        rw [g] at g1
        rw [Option.some.inj g1]
        exact g2
  | .ok .next, h => exact False.elim h
  | .ok .brk, h => exact False.elim h
  | .ok .cont, h => exact False.elim h
theorem law_go (kin : K.In s₁.heap) (gl : s₁.heap.Ns mainGlobals mg) (bl : s₁.heap.Ns builtinsNs mb) (bb : ∀ x : Str, x ≠ "__name__" → mb x = bootBuiltins x) (nl : s₁.heap.NoLimit) (gn : s₁.gens = #[])
    (at_ : s₁.heap.get? a = some { cls := .type "list", data := .seq vs.toArray }) (iar : IntsAre vs ns) (size : ns.length ≤ sizeLine) (room : Room k callerA) (F : ∀ base : Heap, K.In base → base.Ns mainGlobals mg → FnG P w K mg base GK k fa fd [x] sp) (bt : ∀ (s : Shared) (u : Value), BindsTo s fd ⟨[u], []⟩ [(x, u)])
    (go : ∀ T : Hp, Only T → SqL K T a (ns.map V.int) → sp [.ref a] T (fun v _ => v = .bl true) fun _ _ _ => False) : codeAny (model P w) callerA (.call (.ref fa) ⟨[.ref a], []⟩) (Fine s₁) s₁ := by
  have rv := vals_ints iar
  have sz : vs.toArray.size ≤ sizeLine := by rw [List.size_toArray, iar.length]; exact size
  by_cases hk : K.lookup a = none
  · have on : Only (fun b => if b = a then some (.frz { cls := .type "list", data := .seq vs.toArray } (.lst (ns.map V.int))) else none) := fun b => by
      by_cases hb : b = a
      · right; exact ⟨_, _, if_pos hb⟩
      · left; exact if_neg hb
    refine call_from _ kin gl bl bb nl gn at_ room F bt on (go _ on (Or.inl (Or.inr ⟨_, if_pos rfl⟩))) (fun b u z => ?_) (fun b z => ?_) fun _ => hk
    · by_cases hb : b = a
      · rw [if_pos hb] at z
        injection z with z
        rw [hb, ← z]
        exact ⟨at_, by rw [List.length_map]; exact size, vs, _, rv, at_⟩
      · rw [if_neg hb] at z; cases z
    · by_cases hb : b = a
      · exact hb
      · exact absurd (if_neg hb) z
  · obtain ⟨o, ho⟩ := Option.ne_none_iff_exists'.mp hk
    have g := kin a o ho
    rw [at_] at g
    injection g with g
    rw [← g] at ho
    refine call_from (fun _ => none) kin gl bl bb nl gn at_ room F bt (fun _ => Or.inl rfl) (go _ (fun _ => Or.inl rfl) (Or.inr ⟨_, vs.toArray, _, ho, rfl, rfl, rfl, sz, rv⟩)) (fun b u z => by cases z) (fun b z => absurd rfl z) fun z => absurd rfl z
end
/-- a law, from its promise of data -/
theorem walkG {l : PySem.W.OpenLaw} {n k : Nat} {q : Program} {loose : List Str} {XP : (Str → Option Value) → Heap → Prop} {YP : World → Heap → Prop} {d : DefRec} {x : Str} (hn : l.most = some n) (hs : n ≤ sizeLine) (hd : d.params.defaults = []) (room : Room k callerA)
    (F : ∀ (w : World) (mg : Str → Option Value) (fa : Addr) (h : Heap), YP w h → h.Ns mainGlobals mg → mg d.name = some (.ref fa) → ∃ (K : PySem.W.Frag) (fd : FuncData) (Fn : DFn), K.In h ∧ (∀ (s : Shared) (u : Value), BindsTo s fd ⟨[u], []⟩ [(x, u)]) ∧
      (∀ ns : List Int, ns.length ≤ n → ∃ b', Fn [.fl (ns.map D.int)] ⟨0, 0, 0⟩ = .ok (.bl true) b') ∧ ∀ base : Heap, K.In base → base.Ns mainGlobals mg → FnG l.prog w K mg base GK k fa fd [x] (spD K Fn)) :
    PySem.W.WalkO q loose XP YP l.row.toRowW d [] (fun f vs => PySem.call f vs) := by
  refine Att.attach_call hn hd fun w s0 s1 mg mb fa o pm cd doc a vs ns G Y ho hdict hcode hname hobj iar len gens => ?_
  obtain ⟨K, fd, Fn, kin, bt, val, go⟩ := F w mg fa _ Y G.T.g hname
  refine law_go kin G.T.g G.T.b G.T.builtins G.T.nolimit gens hobj iar (Nat.le_trans len hs) room go bt fun T on sq => ?_
  obtain ⟨b', hv⟩ := val ns len
  -- what is shared: the script alone
  refine ⟨T, none, ⟨0, 0, 0⟩, [.fl (ns.map D.int)], ⟨Same.refl _, fun _ _ e _ => e, fun _ e => (by cases e), fun _ _ e => .inl e⟩, .cons (.fl sq ?_) .nil, ?_⟩
  · have : ∀ ms : List Int, DRs K none T (ms.map V.int) (ms.map D.int) := fun ms => by
      induction ms with
      | nil => exact .nil
      | cons m ms ih => exact .cons (.int m) ih
    exact this ns
  · rw [hv]
    intro S' H v _ _ r
    cases r
    rfl
end DL

set_option maxHeartbeats 1000000
namespace DL
open PySem PySem.Spec PyProof.Rows L2
section
variable {α β : Type} {a : α} {b : Bag} {k : α → Bag → Out β} {c : Addr} {ns : List Str} {ds : List D} {ρ : Env} {ks : α → Bag → SO} {kr : Env → Bag → SO} {d : D}
@[simp] theorem bind_ok_ : (Out.ok a b).bind k = k a b := rfl
@[simp] theorem bind_ex_ : (Out.ex c ns ds : Out α).bind k = .ex c ns ds := rfl
@[simp] theorem bind_st_ : (Out.stuck : Out α).bind k = .stuck := rfl
@[simp] theorem pureO_some_ : Out.pureO (some a) b = .ok a b := rfl
@[simp] theorem pureO_none_ : Out.pureO (none : Option α) b = .stuck := rfl
@[simp] theorem st_ok_ : (Out.ok a b).st ρ ks = ks a b := rfl
@[simp] theorem st_ex_ : (Out.ex c ns ds : Out α).st ρ ks = .ex ρ c ns ds := rfl
@[simp] theorem st_st_ : (Out.stuck : Out α).st ρ ks = .stuck := rfl
@[simp] theorem seq_nx_ : (SO.nx ρ b).seq kr = kr ρ b := rfl
@[simp] theorem seq_rt_ : (SO.rt d b).seq kr = .rt d b := rfl
@[simp] theorem seq_ro_ : (SO.ro d b).seq kr = .ro d b := rfl
@[simp] theorem out_rt_ : (SO.rt d b).out = .ok d b := rfl
@[simp] theorem out_nx_ : (SO.nx ρ b).out = .ok .non b := rfl
@[simp] theorem outF_ro_ : (SO.ro d b).outF = .ok d b := rfl
@[simp] theorem noex_ok_ : (Out.ok a b).noex = .ok a b := rfl
@[simp] theorem atI_0 {x : α} {xs : List α} : atI (x :: xs) 0 = some x := by
  simp [atI, ixN]
@[simp] theorem atI_1 {x y : α} {xs : List α} : atI (x :: y :: xs) 1 = some y := by
  have : (1 : Int) < (xs.length : Int) + 1 + 1 := by omega
  simp [atI, ixN, this]
@[simp] theorem atI_2 {x y z : α} {xs : List α} : atI (x :: y :: z :: xs) 2 = some z := by
  have : (2 : Int) < (xs.length : Int) + 1 + 1 + 1 := by omega
  simp [atI, ixN, this]
@[simp] theorem atI_3 {x0 x1 x2 x3 : α} {xs : List α} : atI (x0 :: x1 :: x2 :: x3 :: xs) 3 = some x3 := by
  have : (3 : Int) < (xs.length : Int) + 1 + 1 + 1 + 1 := by omega
  simp [atI, ixN, this]
@[simp] theorem atI_4 {x0 x1 x2 x3 x4 : α} {xs : List α} : atI (x0 :: x1 :: x2 :: x3 :: x4 :: xs) 4 = some x4 := by
  have : (4 : Int) < (xs.length : Int) + 1 + 1 + 1 + 1 + 1 := by omega
  simp [atI, ixN, this]
@[simp] theorem atI_5 {x0 x1 x2 x3 x4 x5 : α} {xs : List α} : atI (x0 :: x1 :: x2 :: x3 :: x4 :: x5 :: xs) 5 = some x5 := by
  have : (5 : Int) < (xs.length : Int) + 1 + 1 + 1 + 1 + 1 + 1 := by omega
  simp [atI, ixN, this]
@[simp] theorem atI_6 {x0 x1 x2 x3 x4 x5 x6 : α} {xs : List α} : atI (x0 :: x1 :: x2 :: x3 :: x4 :: x5 :: x6 :: xs) 6 = some x6 := by
  have : (6 : Int) < (xs.length : Int) + 1 + 1 + 1 + 1 + 1 + 1 + 1 := by omega
  simp [atI, ixN, this]
@[simp] theorem atI_7 {x0 x1 x2 x3 x4 x5 x6 x7 : α} {xs : List α} : atI (x0 :: x1 :: x2 :: x3 :: x4 :: x5 :: x6 :: x7 :: xs) 7 = some x7 := by
  have : (7 : Int) < (xs.length : Int) + 1 + 1 + 1 + 1 + 1 + 1 + 1 + 1 := by omega
  simp [atI, ixN, this]
theorem sh_int (i : Int) : SeqAt.shaped (.int i) = true := by simp [SeqAt.shaped, PyData.canLay0, PyData.depth]
theorem sh_str {x : Str} (h : PyData.strOk x = true) : SeqAt.shaped (.str x) = true := by simp [SeqAt.shaped, PyData.canLay0, PyData.depth, h]
theorem int_eqv (i j : Int) : PyData.eqv (.int i) (.int j) = decide (i = j) := by simp [PyData.eqv]; rfl
theorem str_eqv (x : Str) : PyData.eqv (.str x) (.str x) = true := by simp [PyData.eqv]
@[simp] theorem eqF_int {i j : Int} : eqF (.int i) (.int j) = some (.bl (decide (i = j))) := by
  simp only [eqF, D.pd, sh_int, int_eqv, and_self, if_true]
@[simp] theorem neF_int {i j : Int} : neF (.int i) (.int j) = some (.bl (!decide (i = j))) := by
  simp only [neF, D.pd, sh_int, int_eqv, and_self, if_true]
theorem neF_str {x : Str} (h : PyData.strOk x = true) : neF (.str x) (.str x) = some (.bl false) := by
  simp only [neF, D.pd, sh_str h, str_eqv, and_self, if_true, Bool.not_true]
theorem atI_nat {xs : List α} {i : Nat} {x : α} (h : xs[i]? = some x) : atI xs (i : Int) = some x := by
  have hl : i < xs.length := (List.getElem?_eq_some_iff.mp h).1
  have : (i : Int) < (xs.length : Int) := by omega
  simp [atI, ixN, this, h]
end
end DL

set_option maxHeartbeats 1000000
namespace DL
open PySem PySem.Spec PyProof.Rows L2
section
variable {X : Cx} {CX : CXT} {k : Nat} {A f : Addr} {fd : FuncData} {ps : List Str} {sp : Sp}
def rLenO (A : Addr) (sp : Sp) : List V → Hp → VK → Prop := fun xs H Q => ∃ a dx fs, xs = [.ref a] ∧ H a = some (.ins A dx fs) ∧ sp [.ref a] H (fun v H' => ∃ n : Int, v = .int n ∧ (0 ≤ n ∧ n < 2 ^ 63) ∧ Q (.int n) H') E0
theorem call_lenO (hs : PySem.W.findIn X.K (.ref A) "__len__" = some (some (.ref f))) (hf : PySem.W.isFn X.K (.ref f) = true) (F : FnOk X.prog X.w X.K X.mg X.base CX k f fd ps sp) (hr : Room (k + 1) X.A) (hb : Binds X.K fd ps []) (hx : Passes CX X E0) : CallR X (.builtin "len") (rLenO A sp) := by
  intro pins s σ H xs us Q I r h
  obtain ⟨a, dx, fs, rfl, ea, q⟩ := h
  have hu : us = [Value.ref a] := by
    cases r with
    | cons r1 r2 => cases r2; cases r1; rfl
  subst hu
  obtain ⟨mA, O, _⟩ := ins_get I.hok ea
  obtain ⟨od, J, _⟩ := O.look
  have hl : ([Value.ref a] ++ []).length = ps.length := by rw [← F.len _ _ _ _ q]; rfl
  refine PySem.Calls.call_function_entry kind_len plain_len entry_len (args_len1 _) ?_
  unfold PySem.Builtin.«len»
  refine wpAny_bind (m := oneArg "len" _) (wpAny_pure ?_)
  refine wpAny_bind (m := callSpecial? (.ref a) (Str.ofString "__len__")) (PySem.W.special_fn I.kIn J hs (beq_iff_eq.mp hf) (wpAny_call (codeAny_mono (F.run X.A.in1 X.stack s H ⟨[.ref a], []⟩ ([Value.ref a] ++ []) [.ref a] _ E0 hr.in1 I.env0.in1 (hb s [.ref a] I.kIn hl) (.cons rfl .nil) q) fun r s' hq => ?_)))
  cases r with
  | error er => exact hx pins σ H s er s' I hq
  | ok fl =>
    cases fl with
    | ret u =>
      obtain ⟨v, H', I3, rv, n, e, ⟨h0, h1⟩, q3⟩ := I.after hq
      subst e
      obtain ⟨t, rfl⟩ := rv
      refine wpAny_bind (wpAny_holding (wpAny_pure ?_))
      refine wpAny_bind (wpAny_letGo ?_)
      have n1 : ¬ n < 0 := Int.not_lt.mpr h0
      have n2 : ¬ n ≥ 2 ^ 63 := Int.not_le.mpr h1
      simp only [n1, n2, if_false]
      exact wpAny_bind (wpAny_mkInt (wpAny_pure ⟨_, rfl, .int n, H', I3.tok _, ⟨_, rfl⟩, q3⟩))
    | next => exact False.elim hq
    | brk => exact False.elim hq
    | cont => exact False.elim hq
end
section
variable {X : Cx} {C : Cq} {W : WX} {k : Nat} {A f : Addr} {fd : FuncData} {ps : List Str} {a : Expr} {pos p : Pos} {G : AF} {Fn : DFn}
/-- len(e), e an object of the class A whose __len__ is Fn -/
@[simp] def eLenO (A : Addr) (Fn : DFn) (G : AF) : EF := fun ρ b => (G ρ b).bind fun ds b1 => match ds with
  | [.ins A' ns es] => if A' = A then (match Fn [.ins A' ns es] b1 with
    | .ok (.int n) b2 => if 0 ≤ n ∧ n < 2 ^ 63 then .ok (.int n) b2 else .stuck
    | _ => .stuck) else .stuck
  | _ => .stuck
theorem d_lenO (hs : PySem.W.findIn X.K (.ref A) "__len__" = some (some (.ref f))) (hf : PySem.W.isFn X.K (.ref f) = true) (F : FnOk X.prog X.w X.K X.mg X.base (L2.CX X.prog X.w) k f fd ps (spD X.K Fn)) (hr : Room (k + 1) X.A) (hb : Binds X.K fd ps [])
    (hg : Gl X "len") (hm : X.mg "len" = none) (ha : PA X [a] (tDA X.K C W G)) (he : starEach [a] X.env = (false, eval a X.env) :: starEach [] X.env := by rfl) (hpl : (backTo pos (starEach [] X.env)).any (·.1) = false := by rfl) :
    PE X (.Call (.Name "len" p) [a] [] pos) (tD X.K C W (eLenO A Fn G)) := pe_imp (pe_callB (call_lenO hs hf F hr hb passL) hg hm PySem.boot_len ha (by decide) (by decide) he hpl) fun σ H Q ⟨S, ρ, b, ok, q⟩ => by
  refine ⟨S, ρ, b, ok, q.bind.imp fun ds b1 S1 H1 s1 ok1 q1 vs r => ?_⟩
  split at q1
  · rename_i A' ns es
    split at q1
    · rename_i hA
      subst hA
      split at q1
      · rename_i n b2 hF
        split at q1
        · rename_i hn
          cases r with
          | cons r1 r2 =>
            cases r2
            cases r1 with
            | ins h1 h2 h3 =>
              refine ⟨_, _, _, rfl, ok1.core.sub _ _ h1, spD_of (W := W0) ok1 (.cons (.ins h1 h2 h3) .nil) ?_⟩
              rw [hF]
              intro S2 H2 e2 ok2 v r
              cases r
              exact ⟨n, rfl, hn, q1 S2 H2 e2 ok2 _ (.int n)⟩
        · exact q1.elim
      · exact q1.elim
    · exact q1.elim
  · exact q1.elim
end
end DL

set_option maxHeartbeats 1000000
namespace DL
open PySem PySem.Spec PyProof.Rows L2
@[simp] def flatD : D → Option V
  | .non => some .non
  | .bl b => some (.bl b)
  | .int i => some (.int i)
  | .str x => some (.str x)
  | _ => none
@[simp] def flatsD : List D → Option (List V)
  | [] => some []
  | d :: ds => (flatD d).bind fun v => (flatsD ds).map (v :: ·)
section
variable {X : Cx} {C : Cq} {W : WX} {o e a b : Expr} {es : List Expr} {pos apos cpos : Pos} {F Fa Fb : EF} {G : AF}
@[simp] def eML (f : List D → List D → Option D) (Fo : EF) (G : AF) : EF := fun ρ b => (Fo ρ b).bind fun d b1 => match seqOf d with
  | some xs => (G ρ b1).bind fun ds b2 => Out.pureO (f xs ds) b2
  | none => .stuck
@[simp] def inQ : D → D → Option D
  | d, .lst es => (flatD d).bind fun y => (flatsD es).map fun ys => .bl (inV y ys)
  | d, .fl es => (flatD d).bind fun y => (flatsD es).map fun ys => .bl (inV y ys)
  | d, .tup es => (flatD d).bind fun y => (flatsD es).map fun ys => .bl (inV y ys)
  | _, _ => none
@[simp] def ninQ : D → D → Option D
  | d, .lst es => (flatD d).bind fun y => (flatsD es).map fun ys => .bl (!inV y ys)
  | d, .fl es => (flatD d).bind fun y => (flatsD es).map fun ys => .bl (!inV y ys)
  | d, .tup es => (flatD d).bind fun y => (flatsD es).map fun ys => .bl (!inV y ys)
  | _, _ => none
end
end DL

set_option maxHeartbeats 1000000
namespace DL
open PySem PySem.Spec PyProof.Rows L2
section
variable {X : Cx} {C : Cq} {W : WX} {o e a b : Expr} {es : List Expr} {pos apos cpos p : Pos} {F Fa Fb : EF} {G : AF} {st : Stmt}
@[simp] def shlF : D → D → Option D
  | .int i, .int j => if 0 ≤ j ∧ j ≤ 1000 ∧ i.natAbs < 2 ^ 64 then some (.int (i * 2 ^ j.toNat)) else none
  | _, _ => none
@[simp] def shrF : D → D → Option D
  | .int i, .int j => if 0 ≤ j then some (.int (i / 2 ^ j.toNat)) else none
  | _, _ => none
@[simp] def bandF : D → D → Option D
  | .int i, .int j => some (.int (Builtin.bitAnd i j))
  | _, _ => none
@[simp] def borF : D → D → Option D
  | .int i, .int j => some (.int (Builtin.bitOr i j))
  | _, _ => none
@[simp] def isNF : D → Option D
  | .obj _ => none
  | .non => some (.bl true)
  | _ => some (.bl false)
@[simp] def truD : D → Option Bool
  | .non => some false
  | .bl k => some k
  | .int i => some (i != 0)
  | .str x => if x.length ≤ 100000 then some ((x.length : Int) != 0) else none
  | .lst ds => some (!ds.isEmpty)
  | .fl ds => some (!ds.isEmpty)
  | .tup ds => some (!ds.isEmpty)
  | _ => none
@[simp] def bT (F : EF) : BF := fun ρ b => (F ρ b).bind fun d b' => match truD d with
  | some k => .ok k b'
  | none => .stuck
/-- len(x) -/
@[simp] def eLenOw (i : Nat) : EF := fun ρ b => match ρ[i]? with
  | some (some (.ow (.lst ds))) => .ok (.int ds.length) b
  | some (some (.sh (.lst ds))) => .ok (.int ds.length) b
  | _ => .stuck
/-- x[e] -/
@[simp] def eIxOw (i : Nat) (F : EF) : EF := fun ρ b => match ρ[i]? with
  | some (some (.ow (.lst ds))) => (F ρ b).bind fun d b1 => match d with
    | .int k => Out.pureO (atI ds k) b1
    | _ => .stuck
  | some (some (.sh (.lst ds))) => (F ρ b).bind fun d b1 => match d with
    | .int k => Out.pureO (atI ds k) b1
    | _ => .stuck
  | _ => .stuck
/-- e in x, e not in x -/
@[simp] def eInOw (neg : Bool) (i : Nat) (F : EF) : EF := fun ρ b => match ρ[i]? with
  | some (some (.ow (.lst ds))) => (F ρ b).bind fun d b1 => match flatD d, flatsD ds with
    | some y, some ys => .ok (.bl (if neg then !inV y ys else inV y ys)) b1
    | _, _ => .stuck
  | _ => .stuck
/-- x, as a test -/
@[simp] def bOw (i : Nat) : BF := fun ρ b => match ρ[i]? with
  | some (some (.ow (.lst ds))) => .ok (!ds.isEmpty) b
  | _ => .stuck
@[simp] def sPop (i j : Nat) : SF := fun ρ b => match ρ[i]? with
  | some (some (.ow (.lst ds))) => match ds[ds.length - 1]? with
    | some d => .nx ((ρ.set i (some (.ow (.lst ds.dropLast)))).set j (some (.sh d))) b
    | none => .stuck
  | _ => .stuck
end
end DL

set_option maxHeartbeats 1000000
namespace DL
open PySem PySem.Spec PyProof.Rows L2
@[simp] def keyD : D → Option Key
  | .int i => some (.inl i)
  | .str x => some (.inr x)
  | _ => none
def lookK : List Key → List D → Key → Option D
  | k :: ks, d :: ds, j => if k = j then some d else lookK ks ds j
  | _, _, _ => none
/-- the values behind a store of one that is there -/
def setK : List Key → List D → Key → D → List D
  | k :: ks, d :: ds, j, e => (if k = j then e else d) :: setK ks ds j e
  | _, ds, _, _ => ds
def putD (ks : List Key) (ds : List D) (j : Key) (e : D) : D := if ks.any (fun k => decide (k = j)) then .dct ks (setK ks ds j e) else .dct (ks ++ [j]) (ds ++ [e])
section
variable {X : Cx} {C : Cq} {W : WX} {o e a b : Expr} {es : List Expr} {pos pos' apos cpos p : Pos} {F Fa Fb Fk Fv : EF} {G : AF} {st : Stmt}
/-- {} -/
@[simp] def eDnew : EF := fun _ b => .ok (.dct [] []) b
/-- x[k] = v, x owned -/
@[simp] def sDput (i : Nat) (Fk Fv : EF) : SF := fun ρ b => match ρ[i]? with
  | some (some (.ow (.dct ks ds))) => (Fv ρ b).st ρ fun d b1 => (Fk ρ b1).st ρ fun k b2 => match keyD k with
    | some j => if ks.length ≤ 100000 then .nx (ρ.set i (some (.ow (putD ks ds j d)))) b2 else .stuck
    | none => .stuck
  | _ => .stuck
/-- x[k], x owned -/
@[simp] def eDgOw (i : Nat) (F : EF) : EF := fun ρ b => match ρ[i]? with
  | some (some (.ow (.dct ks ds))) => (F ρ b).bind fun k b1 => match keyD k with
    | some j => Out.pureO (lookK ks ds j) b1
    | none => .stuck
  | _ => .stuck
/-- d[k] -/
@[simp] def eDg (Fo F : EF) : EF := fun ρ b => (Fo ρ b).bind fun d b1 => match d with
  | .dct ks ds => (F ρ b1).bind fun k b2 => match keyD k with
    | some j => Out.pureO (lookK ks ds j) b2
    | none => .stuck
  | _ => .stuck
end
end DL

set_option maxHeartbeats 2000000
namespace DL
open PySem PySem.Spec PyProof.Rows L2
def lc2D (g : GF) (Fi1 : AF) (vs1 : List Nat) (g1 : GF) (F : EF) : List D → Env → Bag → Out (List D)
  | [], _, b => .ok [] b
  | d :: ds, ρ, b => match g d ρ b with
    | none => .stuck
    | some z => ((Fi1 (unown z.1) z.2).noex).bind fun es b1 => (lcD g1 bYes F es (wipeE (unown z.1) vs1) b1).bind fun ys b2 => (lc2D g Fi1 vs1 g1 F ds ρ b2).bind fun zs b3 => .ok (ys ++ zs) b3
@[simp] def eLc2 (Fi : AF) (vs : List Nat) (g : GF) (Fi1 : AF) (vs1 : List Nat) (g1 : GF) (F : EF) : EF := fun ρ b => (Fi ρ b).bind fun ds b1 => (lc2D g Fi1 vs1 g1 F ds (wipeE (unown ρ) vs) b1).bind fun ys b2 => if ys.length ≤ 100000 then .ok (.lst ys) b2 else .stuck
end DL

set_option maxHeartbeats 1000000
namespace DL
open PySem PySem.Spec PyProof.Rows L2
section
variable {X : Cx} {C : Cq} {W : WX} {o e a b : Expr} {es : List Expr} {pos pos' p p2 : Pos} {F Fa Fb : EF} {G : AF}
/-- list(range(n)) -/
@[simp] def eLstRg (F : EF) : EF := fun ρ b => (F ρ b).bind fun d b1 => match d with
  | .int n => if 0 ≤ n ∧ n ≤ 100000 then .ok (.lst (rangeOf n)) b1 else .stuck
  | _ => .stuck
/-- list(xs) of a list or a tuple -/
@[simp] def anyL : List D → Option (List D)
  | [.lst ds] => some ds
  | [.fl ds] => some ds
  | [.tup ds] => some ds
  | [.dct ks _] => some (ks.map fun k => match k with | .inl i => .int i | .inr x => .str x)
  | _ => none
end
end DL

set_option maxHeartbeats 2000000
namespace DL
open PySem PySem.Spec PyProof.Rows L2
def ownB (M : Addr) : Addr → Option Bool := fun A => if A = M then some false else none
def kitM (n : String) : Option Bool := if n = "NoneType" ∨ n = "bool" ∨ n = "int" ∨ n = "str" ∨ n = "tuple" ∨ n = "list" then some false else none
def pick {α : Type} (perm : List Nat) (xs : List α) : List α := perm.filterMap fun i => xs[i]?
theorem pick_dr {K : PySem.W.Frag} {ba : Option Addr} {S : Hp} {vs : List V} {ds : List D} (h : DRs K ba S vs ds) : ∀ perm : List Nat, DRs K ba S (pick perm vs) (pick perm ds)
  | [] => .nil
  | i :: perm => by
    unfold pick
    rw [List.filterMap_cons, List.filterMap_cons]
    cases hd : ds[i]? with
    | none =>
      have : vs[i]? = none := by
        rw [List.getElem?_eq_none_iff] at hd ⊢
        rw [h.length]; exact hd
      rw [this]
      exact pick_dr h perm
    | some d =>
      obtain ⟨v, hv, r⟩ := h.get hd
      rw [hv]
      exact .cons r (pick_dr h perm)
end DL

set_option maxHeartbeats 2000000

set_option maxHeartbeats 1000000
namespace DL
open PySem PySem.Spec PyProof.Rows L2
section
variable {X : Cx} {C : Cq} {W : WX} {o e a b c : Expr} {es : List Expr} {pos pos' apos cpos p : Pos} {F Fa Fb Fk Fv : EF} {G : AF} {st : Stmt}
@[simp] def eInDOw (neg : Bool) (i : Nat) (F : EF) : EF := fun ρ b => match ρ[i]? with
  | some (some (.ow (.dct ks ds))) => (F ρ b).bind fun k b1 => match keyD k with
    | some j => .ok (.bl (if neg then !(ks.any fun k => decide (k = j)) else ks.any fun k => decide (k = j))) b1
    | none => .stuck
  | _ => .stuck
@[simp] def sAug (i : Nat) (F : EF) : SF := fun ρ b => match ρ[i]? with
  | some (some (.sh (.int k))) => (F ρ b).st ρ fun d b1 => match d with
    | .int j => .nx (ρ.set i (some (.sh (.int (k + j))))) b1
    | _ => .stuck
  | _ => .stuck
@[simp] def eLstD (F : EF) : EF := fun ρ b => (F ρ b).bind fun d b1 => match d with
  | .dct ks _ => .ok (.lst (ks.map fun k => match k with | .inl i => .int i | .inr x => .str x)) b1
  | _ => .stuck
end
end DL

set_option maxHeartbeats 1000000
namespace DL
open PySem PySem.Spec PyProof.Rows L2
@[simp] def isN2 (d e : D) : Option D := match e with
  | .non => isNF d
  | _ => none
@[simp] def notN2 (d e : D) : Option D := match e with
  | .non => (match isNF d with
    | some (.bl k) => some (.bl (!k))
    | _ => none)
  | _ => none
@[simp] def ninF : D → D → Option D
  | .str x, .str z => match x.cps.toList with
    | [c] => some (.bl (!decide (c ∈ z.cps.toList)))
    | _ => none
  | _, _ => none
def reprN : List D → Option D
  | [.non] => some (.str "None")
  | [.bl b] => some (.str (if b then "True" else "False"))
  | ds => reprF ds
def rReprN (K : PySem.W.Frag) : List V → Hp → VK → Prop := fun vs H Q => rRepr K vs H Q ∨ (vs = [.non] ∧ Q (.str "None") H) ∨ ∃ b : Bool, vs = [.bl b] ∧ Q (.str (if b then "True" else "False")) H
theorem cr_reprN {X : Cx} (hg : X.A.guards = some []) (hu : X.A.units + 64 < cLine) : CallR X (.builtin "repr") (rReprN X.K) := by
  intro pins s σ H xs us Q I r h
  rcases h with h | ⟨rfl, q⟩ | ⟨k, rfl, q⟩
  · exact cr_repr hg hu pins s σ H xs us Q I r h
  · cases r with
    | cons r1 r2 =>
      cases r2
      have e := r1
      cases e
      exact PySem.P.repr_of_none ⟨.str _, H, I.tok _, ⟨_, rfl⟩, q⟩
  · cases r with
    | cons r1 r2 =>
      cases r2
      have e := r1
      cases e
      exact PySem.P.repr_of_bool ⟨.str _, H, I.tok _, ⟨_, by cases k <;> rfl⟩, q⟩
theorem c_reprN {K : PySem.W.Frag} {C : Cq} : CallD K C (rReprN K) reprN := by
  intro S ρ b σ H vs ds z Q ok rs hz q
  unfold reprN at hz
  split at hz
  · cases hz
    cases rs with
    | cons r1 r2 => cases r2; cases r1; exact .inr (.inl ⟨rfl, q _ S H (Same.refl _) ok (.str _)⟩)
  · cases hz
    cases rs with
    | cons r1 r2 => cases r2; cases r1; exact .inr (.inr ⟨_, rfl, q _ S H (Same.refl _) ok (.str _)⟩)
  · exact .inl (c_repr S ρ b σ H vs ds z Q ok rs hz q)
section
variable {X : Cx} {C : Cq} {W : WX} {a : Expr} {pos : Pos} {G : AF}
theorem d_reprN {p : Pos} (hgd : X.A.guards = some []) (hu : X.A.units + 64 < cLine) (hg : Gl X "repr") (hm : X.mg "repr" = none) (ha : PA X [a] (tDA X.K C W G)) (he : starEach [a] X.env = (false, eval a X.env) :: starEach [] X.env := by rfl) (hpl : (backTo pos (starEach [] X.env)).any (·.1) = false := by rfl) :
    PE X (.Call (.Name "repr" p) [a] [] pos) (tD X.K C W (eB reprN G)) := d_callB (cr_reprN hgd hu) c_reprN hg hm (by decide +kernel) ha (by decide) (by decide) he hpl
end
end DL

set_option maxHeartbeats 1000000
namespace DL
open PySem PySem.Spec PyProof.Rows L2
@[simp] def putP : D → D → Option D
  | .dct ks ds, .tup [k, e] => match keyD k with
    | some j => some (putD ks ds j e)
    | none => none
  | _, _ => none
@[simp] def dictP : D → List D → Option D
  | acc, [] => some acc
  | acc, d :: ds => match putP acc d with
    | some a => dictP a ds
    | none => none
@[simp] def eDictP (F : EF) : EF := fun ρ b => (F ρ b).bind fun d b1 => match d with
  | .lst ds => (match dictP (.dct [] []) ds with
    | some z => .ok z b1
    | none => .stuck)
  | _ => .stuck
section
variable {X : Cx} {C : Cq} {W : WX} {a : Expr} {pos p : Pos} {F : EF}
/-- two lists one behind the other, as a fresh list -/
@[simp] def eCat (Fa Fb : EF) : EF := fun ρ b => (Fa ρ b).bind fun x b1 => (Fb ρ b1).bind fun y b2 => match x, y with
  | .lst xs, .lst ys => if xs.length + ys.length ≤ 100000 then .ok (.lst (xs ++ ys)) b2 else .stuck
  | _, _ => .stuck
@[simp] def listOf : D → Option (List D)
  | .str x => if x.length ≤ 100000 then some (signsOf x) else none
  | d => seqD d
@[simp] def eListS (F : EF) : EF := fun ρ b => (F ρ b).bind fun d b1 => match listOf d with
  | some ds => .ok (.lst ds) b1
  | none => .stuck
end
end DL

set_option maxHeartbeats 2000000
namespace DL
open PySem PySem.Spec PyProof.Rows L2
def G_is_letters (M : Addr) : SF := (sSeq (sIf (bOr (bNot (bB (eB (isiF (.ty "str") (fun n => kitB n "str") (ownB M)) (aCons (eV 0) (aCons (eC (.obj (.ty "str"))) aNil))))) (bNot (bB (e3 leF leF (eC (.int 1)) (eB lenF (aCons (eV 0) aNil)) (eC (.int 3)))))) (sRet (eC (.bl false))) sNil) (sSeq (sAsg (eB allF (aCons (eLc (aAny (eV 0)) [2] (gN 2) bYes (e2 inF (eV 2) (eC (.str "abcdefghijklmnopqrstuvwxyz")))) aNil)) (gN 1)) (sRet (eAnd (eV 1) (eB allF (aCons (eLc (aZipS (aCons (eV 0) (aCons (eSl (eV 0) (oSome (eC (.int 1))) oNo) aNil))) [3, 4] (gT 2 (gsC (gN 3) (gsC (gN 4) gsN))) bYes (e2 ltF (eV 3) (eV 4))) aNil))))))
def F_is_letters (M : Addr) : DFn := runD 5 1 (G_is_letters M)
def G_is_number (M : Addr) : SF := (sRet (eAnd (eB (isiF (.ty "int") (fun n => kitB n "int") (ownB M)) (aCons (eV 0) (aCons (eC (.obj (.ty "int"))) aNil))) (eAnd (eNot (eB (isiF (.ty "bool") (fun n => kitB n "bool") (ownB M)) (aCons (eV 0) (aCons (eC (.obj (.ty "bool"))) aNil)))) (e3 leF leF (eC (.int 0)) (eV 0) (eV 1)))))
def F_is_number (M : Addr) : DFn := runD 2 2 (G_is_number M)
def G_is_state (M : Addr) : SF := (sSeq (sIf (bOr (bNot (bB (eB (isiF (.ty "tuple") (fun n => kitB n "tuple") (ownB M)) (aCons (eV 0) (aCons (eC (.obj (.ty "tuple"))) aNil))))) (bB (e2 neF (eB lenF (aCons (eV 0) aNil)) (eC (.int 2))))) (sRet (eC (.bl false))) sNil) (sSeq (sAsg (eV 0) (gT 2 (gsC (gN 3) (gsC (gN 4) gsN)))) (sSeq (sIf (bOr (bNot (bB (eCall (F_is_number M) (aCons (eV 3) (aCons (eC (.int 6)) aNil))))) (bOr (bNot (bB (eB (isiF (.ty "tuple") (fun n => kitB n "tuple") (ownB M)) (aCons (eV 4) (aCons (eC (.obj (.ty "tuple"))) aNil))))) (bB (e2 neF (eB lenF (aCons (eV 4) aNil)) (eV 1))))) (sRet (eC (.bl false))) sNil) (sRet (eB allF (aCons (eLc (aAny (eV 4)) [5] (gN 5) bYes (eCall (F_is_number M) (aCons (eV 5) (aCons (e2 subF (eV 2) (eC (.int 1))) aNil)))) aNil))))))
def F_is_state (M : Addr) : DFn := runD 6 3 (G_is_state M)
def G_first_wrong_state (M : Addr) : SF := (sSeq (sFor (aEnumT (aCons (eV 1) aNil)) (gT 2 (gsC (gN 2) (gsC (gN 3) gsN))) (sIf (bOr (bB (e2 eqF (eV 2) (eC (.int 6)))) (bNot (bB (eCall (F_is_state M) (aCons (eV 3) (aCons (eB lenF (aCons (eV 0) aNil)) (aCons (eB lenF (aCons (eV 1) aNil)) aNil))))))) (sRet (eV 2)) sNil)) (sRet (e1 negF (eC (.int 1)))))
def F_first_wrong_state (M : Addr) : DFn := runD 4 2 (G_first_wrong_state M)
def G_Machine_init (M y : Addr) : IF := (iSeq y (sIf (bNot (bB (eCall (F_is_letters M) (aCons (eV 1) aNil)))) sNever sNil) (iSeq y (sIf (bOr (bNot (bB (eB (isiF (.ty "tuple") (fun n => kitB n "tuple") (ownB M)) (aCons (eV 2) (aCons (eC (.obj (.ty "tuple"))) aNil))))) (bB (e2 eqF (eB lenF (aCons (eV 2) aNil)) (eC (.int 0))))) sNever sNil) (iSeq y (sAsg (eCall (F_first_wrong_state M) (aCons (eV 1) (aCons (eV 2) aNil))) (gN 3)) (iSeq y (sIf (bB (e2 geF (eV 3) (eC (.int 0)))) sNever sNil) (iSt "_letters" (eV 1) (iSt "_states" (eV 2) iNil))))))
def Fx_Machine (M : Addr) : Addr → List D → Bag → IO := initF 4 3 (G_Machine_init M)
/-- what is made, for right letters and states -/
def Fm_Machine (M : Addr) : List D → Bag → IO := fun ds b => match ds with
  | [l, .tup ss] => (match F_is_letters M [l] b with
    | .ok (.bl true) b1 => if ss.length = 0 then .stuck else (match F_first_wrong_state M [l, .tup ss] b1 with
      | .ok (.int i) b2 => if 0 ≤ i then .stuck else .ok (["_letters", "_states"], [l, .tup ss]) b2
      | _ => .stuck)
    | _ => .stuck)
  | _ => .stuck
theorem isi_tup (M : Addr) (ds : List D) : isiF (.ty "tuple") (fun n => kitB n "tuple") (ownB M) [.tup ds, .obj (.ty "tuple")] = some (.bl true) := by kernel_rfl
theorem fm_ok (M y : Addr) (ds : List D) (b : Bag) : Fm_Machine M ds b = .stuck ∨ Fx_Machine M y ds b = Fm_Machine M ds b := by
  unfold Fm_Machine
  split
  · rename_i l ss
    split
    · rename_i b1 h1
      by_cases hs : ss.length = 0
      · left; rw [if_pos hs]
      · rw [if_neg hs]
        split
        · rename_i i b2 h2
          by_cases hi : 0 ≤ i
          · left; rw [if_pos hi]
          · right
            have e0 : isMe y [some (.sh (.obj (.ref y))), some (.sh l), some (.sh (.tup ss)), none] = true := by simp [isMe]
            have e1 : isMe y [some (.sh (.obj (.ref y))), some (.sh l), some (.sh (.tup ss)), some (.sh (.int i))] = true := by simp [isMe]
            rw [if_neg hi]
            unfold Fx_Machine initF G_Machine_init
            have h0 : ¬ ((ss.length : Int) = 0) := by omega
            have hn : ¬ ("_states" : Str) = "_letters" := by decide
            simp [iSeq, iSt, iNil, h1, isi_tup, h2, hi, e0, e1, hs, h0, hn]
        · left; rfl
    · left; rfl
  · left; rfl
def G__law_take : SF := (sSeq (sIf (bB (e2 gtF (eIx (eV 0) (eC (.int 0))) (eC (.int 0)))) (sSeq (sAsg (eB divmodF (aCons (eIx (eV 0) (eC (.int 0))) (aCons (eV 1) aNil))) (gT 2 (gsC (gBag 0 0) (gsC (gN 2) gsN)))) (sRet (eV 2))) sNil) (sSeq (sAsg (e2 addF (eIx (eV 0) (eC (.int 2))) (eC (.int 1))) (gBag 0 2)) (sSeq (sAsg (e2 modF (eB intF (aCons (e2 addF (e2 mulF (eIx (eV 0) (eC (.int 1))) (eC (.int 40099))) (e2 mulF (eC (.int 22003)) (eIx (eV 0) (eC (.int 2))))) aNil)) (eC (.int 2147483489))) (gBag 0 1)) (sRet (e2 modF (eB intF (aCons (e2 fdivF (eIx (eV 0) (eC (.int 1))) (eC (.int 1024))) aNil)) (eV 1))))))
def F__law_take : DFn := runD 3 2 (G__law_take)
def G__law_signs : SF := (sRet (eIx (eLst (aCons (eC (.str "ab")) (aCons (eC (.str "a")) (aCons (eC (.str "abc")) (aCons (eC (.str "xz")) (aCons (eC (.str "q")) (aCons (eC (.str "mno")) (aCons (eC (.str "ab")) (aCons (eC (.str "hy")) aNil))))))))) (eCall (F__law_take) (aCons (eV 0) (aCons (eC (.int 8)) aNil)))))
def F__law_signs : DFn := runD 1 1 (G__law_signs)
def G__law_rows : SF := (sSeq (sMid 3 4 5 (e2 addF (eC (.int 1)) (eCall (F__law_take) (aCons (eV 0) (aCons (eV 2) aNil)))) (eLst aNil) (eIx (eLst (aCons (eC (.int 2)) (aCons (eC (.int 3)) (aCons (eC (.int 4)) (aCons (eC (.int 7)) aNil))))) (eCall (F__law_take) (aCons (eV 0) (aCons (eC (.int 4)) aNil))))) (sSeq (sFor (aRng (aCons (eV 3) aNil)) (gN 6) (sSeq (sAsg (eTup (aCons (eCall (F__law_take) (aCons (eV 0) (aCons (eC (.int 5)) aNil))) (aCons (eCall (F__law_take) (aCons (eV 0) (aCons (eV 5) aNil))) aNil))) (gT 2 (gsC (gN 7) (gsC (gN 8) gsN)))) (sSeq (sOwn (eLc (aAny (eV 1)) [10] (gN 10) bYes (eIf (bB (e2 eqF (eV 7) (eC (.int 0)))) (eV 6) (eCall (F__law_take) (aCons (eV 0) (aCons (eV 3) aNil))))) 9) (sSeq (sIf (bB (e2 eqF (eV 7) (eC (.int 1)))) (sAsg (e2 modF (eB intF (aCons (e2 addF (eV 6) (eC (.int 1))) aNil)) (eV 3)) (gOw 9 fun _ => some 0)) sNil) (sFreeze 9 (sPush 4 (eTup (aCons (eV 8) (aCons (eB tupleF (aCons (eV 9) aNil)) aNil))))))))) (sFreeze 4 (sRet (eB tupleF (aCons (eV 4) aNil))))))
def F__law_rows : DFn := runD 11 3 (G__law_rows)
def G_Machine_len_ (M : Addr) : SF := (sRet (eB lenF (aCons (e1 (fldF M "_states") (eV 0)) aNil)))
def F_Machine_len_ (M : Addr) : DFn := runD 1 1 (G_Machine_len_ M)
def G__law_bag : SF := (sSeq (sAsg (eIf (bB (e2 ltF (eV 1) (eB lenF (aCons (eV 0) aNil)))) (eIx (eV 0) (eV 1)) (e2 addF (e2 mulF (eC (.int 29)) (eV 1)) (eC (.int 8)))) (gN 2)) (sSeq (sAsg (e2 addF (eC (.int 86028121)) (e2 mulF (eC (.int 34019)) (eV 1))) (gN 3)) (sSeq (sFor (aAny (e2 addF (eLst (aCons (eV 2) aNil)) (eSl (eV 0) oNo (oSome (eC (.int 6)))))) (gN 4) (sAsg (e2 modF (eB intF (aCons (e2 addF (e2 mulF (eV 3) (eC (.int 43051))) (eV 4)) aNil)) (eC (.int 2147483489))) (gN 3))) (sRetO (eLst (aCons (eIf (bB (e2 geF (eB absF (aCons (eV 2) aNil)) (e2 powF (eC (.int 10)) (eC (.int 18))))) (eB absF (aCons (eV 2) aNil)) (eC (.int 0))) (aCons (eV 3) (aCons (eC (.int 0)) aNil))))))))
def F__law_bag : DFn := runF 5 2 (G__law_bag)
end DL

set_option maxHeartbeats 2000000

set_option maxHeartbeats 2000000

set_option maxHeartbeats 2000000

set_option maxHeartbeats 2000000

set_option maxHeartbeats 2000000

set_option maxHeartbeats 2000000

set_option maxHeartbeats 2000000

set_option maxHeartbeats 1000000
namespace DL
open PySem PySem.Spec PyProof.Rows L2 RZ
@[simp] def inA (d e : D) : Option D := match e with
  | .str z => inF d (.str z)
  | e => inQ d e
@[simp] def ninA (d e : D) : Option D := match e with
  | .str z => ninF d (.str z)
  | e => ninQ d e
section
variable {X : Cx} {C : Cq} {W : WX} {a b c e o : Expr} {pos p apos cpos : Pos} {Fa Fb Fc F Fo Fk Fd : EF} {G : AF} {st : Stmt}
@[simp] def eGet (Fo Fk Fd : EF) : EF := fun ρ b => (Fo ρ b).bind fun d b1 => match d with
  | .dct ks ds => (Fk ρ b1).bind fun k b2 => (Fd ρ b2).bind fun z b3 => match keyD k with
    | some j => .ok ((lookK ks ds j).getD z) b3
    | none => .stuck
  | _ => .stuck
def unK : Key → D
  | .inl i => .int i
  | .inr x => .str x
end
end DL

set_option maxHeartbeats 1000000
namespace DL
open PySem PySem.Spec PyProof.Rows L2
section
variable {K : PySem.W.Frag} {C : Cq} {ba : Option Addr} {S S' H H' : Hp} {b b' : Bag}
theorem Slots.append {σ' : L2.St} {ρ' : Env} {O' : List Addr} : ∀ {σ : L2.St} {ρ : Env} {O : List Addr}, Slots K ba S H σ ρ O → Slots K ba S H σ' ρ' O' → Slots K ba S H (σ ++ σ') (ρ ++ ρ') (O ++ O')
  | _, _, _, .nil, h' => h'
  | _, _, _, .no s, h' => .no (Slots.append s h')
  | _, _, _, .sh r s, h' => .sh r (Slots.append s h')
  | _, _, _, .ow h1 h2 s, h' => .ow h1 h2 (Slots.append s h')
end
end DL

set_option maxHeartbeats 1000000

set_option maxHeartbeats 1000000
namespace DL
open PySem PySem.Spec PyProof.Rows L2
section
variable {X : Cx} {C : Cq} {W : WX} {a b c e o : Expr} {es : List Expr} {pos p apos cpos pos' p2 : Pos} {Fa Fb Fc F Fo Fk Fv : EF} {G : AF} {st : Stmt}
@[simp] def e1o (f : D → Option D) (F : EF) : EF := fun ρ b => (F ρ b).bind fun d b' => Out.pureO (f d) b'
@[simp] def eTupRg (F : EF) : EF := fun ρ b => (F ρ b).bind fun d b1 => match d with
  | .int n => if 0 ≤ n ∧ n ≤ 100000 then .ok (.tup (rangeOf n)) b1 else .stuck
  | _ => .stuck
end
end DL

set_option maxHeartbeats 1000000

set_option maxHeartbeats 2000000

set_option maxHeartbeats 2000000

set_option maxHeartbeats 1000000

set_option maxHeartbeats 1000000
namespace DL
open PySem PySem.Spec PyProof.Rows L2
section
variable {X : Cx} {C : Cq} {W : WX} {k : Nat} {A f : Addr} {fd : FuncData} {ps : List Str} {a b : Expr} {pos p : Pos} {Fa Fb : EF} {Fn : DFn}
@[simp] def eEqO (A : Addr) (Fn : DFn) (Fa Fb : EF) : EF := fun ρ b => (Fa ρ b).bind fun x b1 => (Fb ρ b1).bind fun y b2 => match x, y with
  | .ins A1 ns es, .ins A2 ns2 es2 => if A1 = A ∧ A2 = A then (match Fn [.ins A1 ns es, .ins A2 ns2 es2] b2 with
    | .ok (.bl t) b3 => .ok (.bl t) b3
    | _ => .stuck) else .stuck
  | _, _ => .stuck
end
end DL

set_option maxHeartbeats 2000000

set_option maxHeartbeats 2000000

set_option maxHeartbeats 4000000

set_option maxHeartbeats 1000000
namespace DL
open PySem PySem.Spec PyProof.Rows L2
open SrtO (lexT Swo Stb Srtd)
def insT (p : Str × Int) : List (Str × Int) → List (Str × Int)
  | [] => [p]
  | q :: l => if lexT q p = true then q :: insT p l else p :: q :: l
def srtT : List (Str × Int) → List (Str × Int)
  | [] => []
  | p :: l => insT p (srtT l)
def tupT (p : Str × Int) : D := .tup [.str p.1, .int p.2]
def keysT : List D → Option (List (Str × Int))
  | [] => some []
  | .tup [.str x, .int i] :: ds => (keysT ds).map ((x, i) :: ·)
  | _ => none
@[simp] theorem keysT_map : ∀ l : List (Str × Int), keysT (l.map tupT) = some l
  | [] => rfl
  | p :: l => by
    rw [List.map_cons]
    unfold tupT
    rw [keysT]
    have := keysT_map l
    unfold tupT at this
    rw [this]
    rfl
/-- sorted(xs) -/
@[simp] def eSrt (F : EF) : EF := fun ρ b => (F ρ b).bind fun d b1 => match d with
  | .lst ds => (match keysT ds with
    | some l => .ok (.lst ((srtT l).map tupT)) b1
    | none => .stuck)
  | _ => .stuck
end DL

set_option maxHeartbeats 1000000
namespace DL
open PySem PySem.Spec PyProof.Rows L2
section
variable {X : Cx} {C : Cq} {W : WX} {pos : Pos}
/-- a, b, .. = a tuple or a list -/
@[simp] def gTL (n : Nat) (gs : GsF) : GF := fun d ρ b => match d with
  | .tup ds => if ds.length = n then gs ds ρ b else none
  | .lst ds => if ds.length = n then gs ds ρ b else none
  | _ => none
end
end DL

set_option maxHeartbeats 2000000

set_option maxHeartbeats 2000000

set_option maxHeartbeats 2000000
namespace DL
open PySem PySem.Spec PyProof.Rows L2
def dcD (g : GF) (T : BF) (Fk Fv : EF) : List D → Env → D → Bag → Out D
  | [], _, acc, b => .ok acc b
  | d :: ds, ρ, acc, b => match g d ρ b with
    | none => .stuck
    | some z => ((T z.1 z.2).noex).bind fun k b1 => if k = true then ((Fk z.1 b1).noex).bind fun y b2 => ((Fv z.1 b2).noex).bind fun w b3 => match acc, keyD y with
      | .dct ks vs, some j => dcD g T Fk Fv ds ρ (putD ks vs j w) b3
      | _, _ => .stuck
      else dcD g T Fk Fv ds ρ acc b1
@[simp] def eDc (Fi : AF) (vs : List Nat) (g : GF) (T : BF) (Fk Fv : EF) : EF := fun ρ b => (Fi ρ b).bind fun ds b1 => if ds.length ≤ 100000 then dcD g T Fk Fv ds (wipeE (unown ρ) vs) (.dct [] []) b1 else .stuck
end DL

set_option maxHeartbeats 2000000

set_option maxHeartbeats 2000000

set_option maxHeartbeats 1000000
namespace DL
open PySem PySem.Spec PyProof.Rows L2
section
variable {X : Cx} {C : Cq} {W : WX} {k : Nat} {A f : Addr} {fd : FuncData} {ps : List Str} {a b : Expr} {pos p : Pos} {Fa Fb : EF} {Fn : DFn}
@[simp] def eNeO (A : Addr) (Fn : DFn) (Fa Fb : EF) : EF := fun ρ b => (Fa ρ b).bind fun x b1 => (Fb ρ b1).bind fun y b2 => match x, y with
  | .ins A1 ns es, .ins A2 ns2 es2 => if A1 = A ∧ A2 = A then (match Fn [.ins A1 ns es, .ins A2 ns2 es2] b2 with
    | .ok (.bl t) b3 => .ok (.bl (!t)) b3
    | _ => .stuck) else .stuck
  | _, _ => .stuck
end
end DL

set_option maxHeartbeats 1000000
namespace DL
open PySem PySem.Spec PyProof.Rows L2
section
variable {X : Cx} {C : Cq} {W : WX} {pos : Pos}
/-- a, b, .. = a text -/
@[simp] def gTX (n : Nat) (gs : GsF) : GF := fun d ρ b => match d with
  | .str x => if x.length = n then gs (signsOf x) ρ b else none
  | _ => none
end
end DL

set_option maxHeartbeats 1000000
namespace DL
open PySem PySem.Spec PyProof.Rows L2
def keysD : List D → Option (List Key)
  | [] => some []
  | d :: ds => match keyD d, keysD ds with
    | some k, some ks => some (k :: ks)
    | _, _ => none
def keyT : D → Option (List Key)
  | .tup ds => keysD ds
  | _ => none
def lookT : List (List Key) → List D → List Key → Option D
  | k :: ks, d :: ds, j => if k = j then some d else lookT ks ds j
  | _, _, _ => none
def setT : List (List Key) → List D → List Key → D → List D
  | k :: ks, d :: ds, j, e => (if k = j then e else d) :: setT ks ds j e
  | _, ds, _, _ => ds
def putT (ks : List (List Key)) (ds : List D) (j : List Key) (e : D) : D := if ks.any (fun k => decide (k = j)) then .dtp ks (setT ks ds j e) else .dtp (ks ++ [j]) (ds ++ [e])
def unKs (k : List Key) : D := .tup (k.map unK)
section
variable {X : Cx} {C : Cq} {W : WX} {o e a b : Expr} {es : List Expr} {pos pos' apos cpos p : Pos} {F Fa Fb Fk Fv : EF} {G : AF} {st : Stmt}
/-- {} -/
@[simp] def eDnewT : EF := fun _ b => .ok (.dtp [] []) b
/-- x[k] = v, x owned -/
@[simp] def sDputT (i : Nat) (Fk Fv : EF) : SF := fun ρ b => match ρ[i]? with
  | some (some (.ow (.dtp ks ds))) => (Fv ρ b).st ρ fun d b1 => (Fk ρ b1).st ρ fun k b2 => match keyT k with
    | some j => if ks.length ≤ 100000 then .nx (ρ.set i (some (.ow (putT ks ds j d)))) b2 else .stuck
    | none => .stuck
  | _ => .stuck
/-- x[k], x owned -/
@[simp] def eDgTOw (i : Nat) (F : EF) : EF := fun ρ b => match ρ[i]? with
  | some (some (.ow (.dtp ks ds))) => (F ρ b).bind fun k b1 => match keyT k with
    | some j => Out.pureO (lookT ks ds j) b1
    | none => .stuck
  | _ => .stuck
/-- d[k] -/
@[simp] def eDgT (Fo F : EF) : EF := fun ρ b => (Fo ρ b).bind fun d b1 => match d with
  | .dtp ks ds => (F ρ b1).bind fun k b2 => match keyT k with
    | some j => Out.pureO (lookT ks ds j) b2
    | none => .stuck
  | _ => .stuck
end
section
variable {X : Cx} {C : Cq} {W : WX} {o e a b : Expr} {pos p : Pos} {F : EF}
@[simp] def eLstT (F : EF) : EF := fun ρ b => (F ρ b).bind fun d b1 => match d with
  | .dtp ks _ => .ok (.lst (ks.map unKs)) b1
  | _ => .stuck
/-- x owned -/
@[simp] def eLstTOw (i : Nat) : EF := fun ρ b => match ρ[i]? with
  | some (some (.ow (.dtp ks _))) => .ok (.lst (ks.map unKs)) b
  | _ => .stuck
end
end DL

set_option maxHeartbeats 2000000

set_option maxHeartbeats 2000000

set_option maxHeartbeats 2000000

set_option maxHeartbeats 2000000

set_option maxHeartbeats 2000000

set_option maxHeartbeats 1000000
namespace DL
open PySem PySem.Spec PyProof.Rows L2
section
variable {X : Cx} {CX : CXT} {k : Nat} {A f : Addr} {fd : FuncData} {ps : List Str} {sp : Sp}
theorem meetsIn_str_new {prog : Program} {w : World} (v : Value) : MeetsIn prog w (Builtin.«str.__new__» ⟨[.type "str", v], []⟩) (fun A R s => wpAny (model prog w) A.in1 (Builtin.Str.strOf v) (fun r s' => R (.ok (.ret r)) s') (fun e s' => R (.error e) s') s) := by
  refine MeetsIn.of_wp fun A R s h => ?_
  rw [str_new_tree v]
  refine wpAny_bind (wpAny_pure ?_)
  refine wpAny_bind (wpAny_of_eq isSubtype_str_str ?_)
  exact wpAny_bind (wpAny_mono h (fun r s' h' => wpAny_pure ⟨_, rfl, h'⟩) fun _ _ e => e)
def rStrO (A : Addr) (sp : Sp) : List V → Hp → VK → Prop := fun xs H Q => ∃ a dx fs, xs = [.ref a] ∧ H a = some (.ins A dx fs) ∧ sp [.ref a] H (fun v H' => ∃ x : Str, v = .str x ∧ Q (.str x) H') E0
theorem call_strO (hs : PySem.W.findIn X.K (.ref A) "__str__" = some (some (.ref f))) (hf : PySem.W.isFn X.K (.ref f) = true) (F : FnOk X.prog X.w X.K X.mg X.base CX k f fd ps sp) (hr : Room (k + 2) X.A) (hb : Binds X.K fd ps []) (hx : Passes CX X E0) : CallR X (.type "str") (rStrO A sp) := by
  intro pins s σ H xs us Q I r h
  obtain ⟨a, dx, fs, rfl, ea, q⟩ := h
  have hu : us = [Value.ref a] := by
    cases r with
    | cons r1 r2 => cases r2; cases r1; rfl
  subst hu
  obtain ⟨mA, O, _⟩ := ins_get I.hok ea
  obtain ⟨od, J, _⟩ := O.look
  have hl : ([Value.ref a] ++ []).length = ps.length := by rw [← F.len _ _ _ _ q]; rfl
  have hr2 : Room k X.A.in1.in1 := (show Room (k + 1) X.A.in1 from Room.in1 hr).in1
  refine callType_newIn PySem.F.called_str (by decide) (PySem.F.typeCall_str_1 _) (PySem.F.newCall_str_1 _) (fun obj => PySem.F.args_object_init_2 obj _) PySem.F.entry_str_new (meetsIn_str_new (.ref a)) ?_
  show wpAny _ X.A.in1.in1 (Builtin.Str.strOf (.ref a)) _ _ s
  unfold Builtin.Str.strOf
  refine wpAny_ite_false rfl ?_
  refine wpAny_bind (wpAny_cRoomFor hr2.units0 ?_)
  refine wpAny_bind (m := callSpecial? (.ref a) (Str.ofString "__str__")) (PySem.W.special_fn I.kIn J hs (beq_iff_eq.mp hf) (wpAny_call (codeAny_mono (F.run X.A.in1.in1 X.stack s H ⟨[.ref a], []⟩ ([Value.ref a] ++ []) [.ref a] _ E0 hr2 I.env0.in1.in1 (hb s [.ref a] I.kIn hl) (.cons rfl .nil) q) fun r s' hq => ?_)))
  cases r with
  | error er => exact hx pins σ H s er s' I hq
  | ok fl =>
    cases fl with
    | ret u =>
      obtain ⟨v, H', I3, rv, x, e, q3⟩ := I.after hq
      subst e
      obtain ⟨t, rfl⟩ := rv
      refine wpAny_bind (wpAny_pure ?_)
      refine wpAny_ite_false rfl ?_
      exact wpAny_pure ⟨typeIs_str _ _ _, .str x, H', I3, ⟨t, rfl⟩, q3⟩
    | next => exact False.elim hq
    | brk => exact False.elim hq
    | cont => exact False.elim hq
end
section
variable {X : Cx} {C : Cq} {W : WX} {k : Nat} {A f : Addr} {fd : FuncData} {ps : List Str} {a e : Expr} {es : List Expr} {pos p apos : Pos} {F Fa Fb : EF} {G : AF} {Fn : DFn}
/-- str(e), e an object of the class A whose __str__ is Fn -/
@[simp] def eStrO (A : Addr) (Fn : DFn) (G : AF) : EF := fun ρ b => (G ρ b).bind fun ds b1 => match ds with
  | [.ins A' ns es] => if A' = A then (match Fn [.ins A' ns es] b1 with
    | .ok (.str x) b2 => .ok (.str x) b2
    | _ => .stuck) else .stuck
  | _ => .stuck
theorem d_strO (hs : PySem.W.findIn X.K (.ref A) "__str__" = some (some (.ref f))) (hf : PySem.W.isFn X.K (.ref f) = true) (F : FnOk X.prog X.w X.K X.mg X.base (L2.CX X.prog X.w) k f fd ps (spD X.K Fn)) (hr : Room (k + 2) X.A) (hb : Binds X.K fd ps [])
    (hg : Gl X "str") (hm : X.mg "str" = none) (ha : PA X [a] (tDA X.K C W G)) (he : starEach [a] X.env = (false, eval a X.env) :: starEach [] X.env := by rfl) (hpl : (backTo pos (starEach [] X.env)).any (·.1) = false := by rfl) :
    PE X (.Call (.Name "str" p) [a] [] pos) (tD X.K C W (eStrO A Fn G)) := pe_imp (pe_callTy (call_strO hs hf F hr hb passL) hg hm (by decide +kernel) ha (by decide) (by decide) he hpl) fun σ H Q ⟨S, ρ, b, ok, q⟩ => by
  refine ⟨S, ρ, b, ok, q.bind.imp fun ds b1 S1 H1 s1 ok1 q1 vs r => ?_⟩
  split at q1
  · rename_i A' ns es
    split at q1
    · rename_i hA
      subst hA
      split at q1
      · rename_i x b2 hF
        cases r with
        | cons r1 r2 =>
          cases r2
          cases r1 with
          | ins h1 h2 h3 =>
            refine ⟨_, _, _, rfl, ok1.core.sub _ _ h1, spD_of (W := W0) ok1 (.cons (.ins h1 h2 h3) .nil) ?_⟩
            rw [hF]
            intro S3 H3 e3 ok3 v r
            cases r
            exact ⟨x, rfl, q1 S3 H3 e3 ok3 _ (.str x)⟩
      · exact q1.elim
    · exact q1.elim
  · exact q1.elim
/-- str(e), e an int or a text -/
@[simp] def strF : List D → Option D
  | [.int i] => if i.natAbs.log2 < 1920 then some (.str (toString i)) else none
  | [.str x] => some (.str x)
  | _ => none
theorem d_str1 (hg : Gl X "str") (hm : X.mg "str" = none) (ha : PA X [a] (tDA X.K C W G)) (he : starEach [a] X.env = (false, eval a X.env) :: starEach [] X.env := by rfl) (hpl : (backTo pos (starEach [] X.env)).any (·.1) = false := by rfl) :
    PE X (.Call (.Name "str" p) [a] [] pos) (tD X.K C W (eB strF G)) := pe_imp (pe_callTy (call_str_int.or SkE.call_str_str) hg hm (by decide +kernel) ha (by decide) (by decide) he hpl) fun σ H Q ⟨S, ρ, b, ok, q⟩ => by
  refine ⟨S, ρ, b, ok, q.bind.imp fun ds b1 S1 H1 s1 ok1 q1 vs r => ?_⟩
  obtain ⟨z, hz, q2⟩ := q1.pureO
  unfold strF at hz
  split at hz
  · rename_i i
    split at hz
    · rename_i hl
      cases hz
      cases r with
      | cons r1 r2 =>
        cases r2; cases r1
        exact .inl ⟨i, rfl, hl, q2 S1 H1 (Same.refl _) ok1 _ (.str _)⟩
    · cases hz
  · rename_i x
    cases hz
    cases r with
    | cons r1 r2 =>
      cases r2; cases r1
      exact .inr ⟨x, rfl, q2 S1 H1 (Same.refl _) ok1 _ (.str _)⟩
  · cases hz
/-- int(e), e a text -/
@[simp] def intTF : List D → Option D
  | [.str x] => if x.length ≤ 640 then (PySem.intText? x).map D.int else none
  | _ => none
theorem d_intT (hg : Gl X "int") (hm : X.mg "int" = none) (ha : PA X [a] (tDA X.K C W G)) (he : starEach [a] X.env = (false, eval a X.env) :: starEach [] X.env := by rfl) (hpl : (backTo pos (starEach [] X.env)).any (·.1) = false := by rfl) :
    PE X (.Call (.Name "int" p) [a] [] pos) (tD X.K C W (eB intTF G)) := pe_imp (pe_callTy call_int_str hg hm (by decide +kernel) ha (by decide) (by decide) he hpl) fun σ H Q ⟨S, ρ, b, ok, q⟩ => by
  refine ⟨S, ρ, b, ok, q.bind.imp fun ds b1 S1 H1 s1 ok1 q1 vs r => ?_⟩
  obtain ⟨z, hz, q2⟩ := q1.pureO
  unfold intTF at hz
  split at hz
  · rename_i x
    split at hz
    · rename_i hl
      rw [Option.map_eq_some_iff] at hz
      obtain ⟨n, hn, rfl⟩ := hz
      cases r with
      | cons r1 r2 =>
        cases r2; cases r1
        exact ⟨x, n, rfl, hn, hl, q2 S1 H1 (Same.refl _) ok1 _ (.int n)⟩
    · cases hz
  · cases hz
/-- x.split(y) -/
@[simp] def splitF : Str → List D → Option D
  | x, [.str y] => if (y.length == 0) = false ∧ x.length ≤ 100000 then some (.lst ((Txt.split x y).map D.str)) else none
  | _, _ => none
theorem strs_dr {K : PySem.W.Frag} {ba : Option Addr} {S : Hp} : ∀ xs : List Str, DRs K ba S (xs.map V.str) (xs.map D.str)
  | [] => .nil
  | x :: xs => .cons (.str x) (strs_dr xs)
theorem m_split {K : PySem.W.Frag} : MtD K C (fun x xs H Q => ∃ a b, x = .str a ∧ xs = [.str b] ∧ (b.length == 0) = false ∧ a.length + 2 ≤ sizeLine ∧ rNewStrs (Txt.split a b) H Q) splitF := by
  intro S ρ b σ H x vs ds z Q ok r hz q
  unfold splitF at hz
  split at hz
  · rename_i y
    split at hz
    · rename_i hl
      cases hz
      cases r with
      | cons r1 r2 =>
        cases r2; cases r1
        refine ⟨x, y, rfl, rfl, hl.1, by rw [sizeLine_eq]; omega, fun p hp => ?_⟩
        exact q _ _ _ (ok.same hp) (ok.alloc hp) (.lst upd_same (strs_dr _))
    · cases hz
  · cases hz
/-- f"{..}{..}" of two texts or ints -/
@[simp] def fmtD : D → Option Str
  | .str x => if x.length ≤ 100000 then some x else none
  | .int i => if i.natAbs.log2 < 1920 then some (toString i) else none
  | _ => none
def eJ2 (Fa Fb : EF) : EF := fun ρ b => (Fa ρ b).bind fun d b1 => match d with
  | .str x => if x.length ≤ 100000 then (Fb ρ b1).bind fun z b2 => (match fmtD z with
    | some y => if (x ++ y).length ≤ 200000 then .ok (.str (x ++ y)) b2 else .stuck
    | none => .stuck) else .stuck
  | _ => .stuck
theorem empty_app (x : Str) : (Str.empty ++ x) = x := by
  show (⟨#[] ++ x.cps⟩ : Str) = x
  rw [Array.empty_append]
theorem d_j2 {c : Expr} {vpos : Pos} (ha : PE X a (tD X.K C W Fa)) (hb : PE X c (tD X.K C W Fb)) : PE X (.JoinedStr [a, .FormattedValue c (-1) none vpos] pos) (tD X.K C W (eJ2 Fa Fb)) := pe_imp (pe_joined (.cons ha (.cons (pe_fmt hb) .nil))) fun σ H Q ⟨S, ρ, b, ok, q⟩ => by
  refine ⟨S, ρ, b, ok, q.bind.imp fun d b1 S1 H1 s1 ok1 q1 v r => ?_⟩
  split at q1
  · rename_i x
    cases r
    split at q1
    · rename_i hx
      refine ⟨x, rfl, by rw [empty_app, sizeLine_eq]; omega, S1, ρ, b1, ok1, q1.bind.imp fun z b2 S2 H2 s2 ok2 q2 w rw' => ?_⟩
      split at q2
      · rename_i y hz
        split at q2
        · rename_i hl
          have fin : ∃ y', V.str y = V.str y' ∧ ((Str.empty ++ x) ++ y').length ≤ sizeLine ∧ tJs [] ((Str.empty ++ x) ++ y') σ H2 fun out H1 => Q (.str out) H1 := by
            refine ⟨y, rfl, by rw [empty_app, sizeLine_eq]; omega, ?_⟩
            show Q (.str ((Str.empty ++ x) ++ y)) H2
            rw [empty_app]
            exact q2 S2 H2 (Same.refl _) ok2 _ (.str _)
          unfold fmtD at hz
          split at hz
          · rename_i y0
            split at hz
            · rename_i hy
              cases hz
              cases rw'
              exact .inl ⟨_, rfl, by rw [sizeLine_eq]; omega, fin⟩
            · cases hz
          · rename_i i
            split at hz
            · rename_i hy
              cases hz
              cases rw'
              exact .inr ⟨_, rfl, hy, fin⟩
            · cases hz
          · cases hz
        · exact q2.elim
      · exact q2.elim
    · exact q1.elim
  · exact q1.elim
end
section
variable {X : Cx} {C : Cq} {W : WX} {E : XK} {k i : Nat} {A f : Addr} {fd : FuncData} {ps : List Str} {e : Expr} {es : List Expr} {pos p : Pos} {G : AF} {x : Str}
def eMakeL (i : Nat) (A : Addr) (Fm : List D → Bag → IO) (G : AF) : EF := fun ρ b => match ρ[i]? with
  | some (some (.sh (.obj (.ref A')))) => if A' = A then eMake A Fm G ρ b else .stuck
  | _ => .stuck
theorem d_makeL {Fx : Addr → List D → Bag → IO} {Fm : List D → Bag → IO} (M : Mk X.K A f) (FO : FnOk X.prog X.w X.K X.mg X.base (L2.CX X.prog X.w) k f fd ps (spI X.K A Fx)) (hF : ∀ y ds b, Fm ds b = .stuck ∨ Fx y ds b = Fm ds b) (hr : Room (k + 1) X.A) (hN : X.N[i]? = some x) (hv : Vis X.env.scope x) (hb : Binds X.K fd ps []) (hx : Passes (L2.CX X.prog X.w) X E)
    (ha : PA X (e :: es) (tDA X.K C (WD E) G)) (hdb : (x == ("__debug__" : Str)) = false := by decide) (hcd : (x == ("__classdict__" : Str)) = false := by decide) (he : starEach (e :: es) X.env = (false, eval e X.env) :: starEach es X.env := by rfl) (hpl : (backTo pos (starEach es X.env)).any (·.1) = false := by rfl) :
    PE X (.Call (.Name x p) (e :: es) [] pos) (tD X.K C (WD E) (eMakeL i A Fm G)) := ⟨fun pins s σ H Q I ⟨S, ρ, b, ok, q⟩ => by
  unfold eMakeL at q
  split at q
  · rename_i A' hρ
    split at q
    · rename_i hA
      subst hA
      obtain ⟨v, hs, rv⟩ := ok.get hρ
      cases rv
      refine wpAny_Call_Name_kw (thn ((pe_var (pos := p) hN hv hdb hcd).run pins s σ H (fun v H1 => v = .ref A' ∧ H1 = H) I ⟨.ref A', hs, rfl, rfl⟩) fun u s1 ⟨v, H1, I1, r1, q1⟩ => ?_)
      obtain ⟨rfl, rfl⟩ := q1
      cases r1
      refine PySem.W.callWith_K (h₀ := X.base) I.ok.mod.kin M.kp (thn (ha.run pos pins s1 σ _ (fun vs H1 => ∀ y dx, H1 y = none → H1 dx = none → dx ≠ y → spI X.K A' Fx (.ref y :: (vs ++ [])) (upd (upd H1 dx (.own y)) y (.ins A' dx [])) (fun v H2 => v = .non ∧ Q (.ref y) H2) E) I1 ⟨S, ρ, b, ok, q.bind.imp fun ds b1 S1 H1 s1 ok1 q1 vs r y dx hy hdx hne => ?_⟩) fun us s2 ⟨vs, H2, I2, r, q2⟩ => ⟨I2.kIn, ?_⟩) he hpl
      · rw [List.append_nil]
        exact make_of hF ok1 r hy hdx hne q1
      · exact run_make (dvs := []) M FO hr hb .nil hx I2 r q2
    · exact q.elim
  · exact q.elim⟩
def eMakeK (m : Nat) (A : Addr) (Fm : List D → Bag → IO) (gD : List D → List D) (G : AF) : EF := fun ρ b => (G ρ b).bind fun ds b' => if ds.length = m then (Fm (gD ds) b').bind fun z b2 => .ok (.ins A z.1 z.2) b2 else .stuck
theorem d_makeK {Fx : Addr → List D → Bag → IO} {Fm : List D → Bag → IO} {ks : List Str} {g : List Value → List Value → List Value} {gV : List V → List V → List V} {gD : List D → List D} {kws : List Keyword} (M : Mk X.K A f) (FO : FnOk X.prog X.w X.K X.mg X.base (L2.CX X.prog X.w) k f fd ps (spI X.K A Fx)) (hF : ∀ y ds b, Fm ds b = .stuck ∨ Fx y ds b = Fm ds b) (hr : Room (k + 1) X.A) (hg : Gl X x) (hm : X.mg x = some (.ref A))
    (hb : KBn X.K fd ps 1 ks g gV) (hgD : ∀ ba S y vs ds, DRs X.K ba S vs ds → ∃ ws, gV [y] vs = y :: ws ∧ DRs X.K ba S ws (gD ds)) (hx : Passes (L2.CX X.prog X.w) X E)
    (hkw : PK X kws (tDA X.K C (WD E) G)) (hall : (backToKw pos (keywordEach kws X.env)).all (·.1.isSome) = true := by rfl) (hks : (backToKw pos (keywordEach kws X.env)).filterMap (·.1) = ks := by rfl)
    (hdb : (x == ("__debug__" : Str)) = false := by decide) (hpl : ((backTo pos (starEach [] X.env)).any (·.1) || (backToKw pos (keywordEach kws X.env)).any (·.1.isNone)) = false := by rfl) :
    PE X (.Call (.Name x p) [] kws pos) (tD X.K C (WD E) (eMakeK ks.length A Fm gD G)) := ⟨fun pins s σ H Q I ⟨S, ρ, b, ok, q⟩ =>
  wpAny_Call_Name_kw (ld_glob I hg hm (PySem.W.callWith_KW0 (h₀ := X.base) I.ok.mod.kin M.kp hall (thn (hkw.run pos pins s σ H (fun vs H1 => vs.length = ks.length ∧ ∀ y dx, H1 y = none → H1 dx = none → dx ≠ y → spI X.K A Fx (gV (.ref y :: []) vs) (upd (upd H1 dx (.own y)) y (.ins A dx [])) (fun v H2 => v = .non ∧ Q (.ref y) H2) E) I ⟨S, ρ, b, ok, q.bind.imp fun ds b1 S1 H1 s1 ok1 q1 vs r => by
      by_cases hl : ds.length = ks.length
      · rw [if_pos hl] at q1
        refine ⟨by rw [r.length, hl], fun y dx hy hdx hne => ?_⟩
        obtain ⟨ws, e, rw'⟩ := hgD _ _ (.ref y) _ _ r
        rw [e]
        exact make_of hF ok1 rw' hy hdx hne q1
      · rw [if_neg hl] at q1
        exact q1.elim⟩) fun us s1 z => by
    obtain ⟨vs, H1, J, r, hl, q⟩ := z
    refine ⟨J.kIn, ?_⟩
    rw [hks]
    exact run_makeN (us := []) (vs := []) (n := 0) M FO hr hb hx J .nil r rfl hl q) hpl) hdb)⟩
end
section
variable {P : Program} {w : World} {K : PySem.W.Frag} {mg : Str → Option Value} {base : Heap} {k : Nat} {f : Addr} {fd : FuncData} {ps : List Str} {sp : Sp}
theorem FnG.fnr (F : FnG P w K mg base GT k f fd ps sp) (hb : Binds K fd ps []) : FnR P w K mg base (L2.CX P w) k f sp := fun A outer s H us vs Q E hr e0 r hs => by
  have old : ∀ b o, base.get? b = some o → s.heap.get? b = some o := fun b o q => (e0.bs b o q).1
  have hl : (us ++ []).length = ps.length := by rw [List.append_nil, ← r.length]; exact F.many _ _ _ _ hs
  have bt := hb s us (e0.mod.kin.keeps old) hl
  rw [List.append_nil] at bt
  exact F.go A outer s H ⟨us, []⟩ us vs Q E hr trivial e0 bt r hs
end
section
variable {X : Cx} {C : Cq} {W : WX} {k : Nat} {A f q : Addr} {mc : Value} {fd : FuncData} {ps : List Str} {o e : Expr} {es : List Expr} {pos apos : Pos} {G : AF} {Fo : EF} {Fn : DFn} {m : Str} {pl : Sem Bool}
/-- C.m(e, ..), m a classmethod -/
def eCM (A : Addr) (Fn : DFn) (Fo : EF) (G : AF) : EF := fun ρ b => (Fo ρ b).bind fun d b1 => match d with
  | .obj (.ref A') => if A' = A then (G ρ b1).bind fun ds b2 => Fn (.obj (.ref A) :: ds) b2 else .stuck
  | _ => .stuck
theorem d_cmeth {E : XK} (ho : PE X o (tD X.K C (WD E) Fo)) (r : ClX.CRead X.K A mc) (c : ClX.CMet X.K A mc m q f) (FO : FnG X.prog X.w X.K X.mg X.base GT k f fd ps (spD X.K Fn)) (hb : Binds X.K fd ps []) (hr : Room k X.A) (hx : Passes (L2.CX X.prog X.w) X E) (ha : PA X (e :: es) (tDA X.K C (WD E) G))
    (hst : starEach (e :: es) X.env = (false, eval e X.env) :: starEach es X.env := by rfl) (hpl : (backTo pos (starEach es X.env)).any (·.1) = false := by rfl)
    (ht : eval (.Call (.Attribute o m apos) (e :: es) [] pos) X.env = (do
      let ov ← eval o X.env
      standAt apos.atName
      let (f, first) ← holding [ov] (getMethod ov m pl)
      callWith pos f first (backTo pos (starEach (e :: es) X.env)) (backToKw pos (keywordEach [] X.env))) := by rfl) :
    PE X (.Call (.Attribute o m apos) (e :: es) [] pos) (tD X.K C (WD E) (eCM A Fn Fo G)) := pe_imp (ClX.pe_cmeth (pl := pl) ho r c (FO.fnr hb) hr hx ha hst hpl ht) fun σ H Q ⟨S, ρ, b, ok, q⟩ => by
  refine ⟨S, ρ, b, ok, q.bind.imp fun d b1 S1 H1 s1 ok1 q1 v rv => ?_⟩
  split at q1
  · rename_i A'
    split at q1
    · rename_i hA
      subst hA
      cases rv
      exact ⟨rfl, S1, ρ, b1, ok1, q1.bind.imp fun ds b2 S2 H2 s2 ok2 q2 vs rs => spD_of (W := WD E) ok2 (.cons (.obj _) rs) q2⟩
    · exact q1.elim
  · exact q1.elim
/-- C.m(k = e, ..) -/
def eCMK (n : Nat) (A : Addr) (Fn : DFn) (gD : List D → List D) (Fo : EF) (G : AF) : EF := fun ρ b => (Fo ρ b).bind fun d b1 => match d with
  | .obj (.ref A') => if A' = A then (G ρ b1).bind fun ds b2 => if ds.length = n then Fn (.obj (.ref A) :: gD ds) b2 else .stuck else .stuck
  | _ => .stuck
theorem d_cmethK {E : XK} {ks : List Str} {g : List Value → List Value → List Value} {gV : List V → List V → List V} {gD : List D → List D} {kws : List Keyword} (ho : PE X o (tD X.K C (WD E) Fo)) (r : ClX.CRead X.K A mc) (c : ClX.CMet X.K A mc m q f) (FO : FnG X.prog X.w X.K X.mg X.base GT k f fd ps (spD X.K Fn)) (hb : KBn X.K fd ps 1 ks g gV) (hr : Room k X.A) (hx : Passes (L2.CX X.prog X.w) X E)
    (hgD : ∀ ba S y vs ds, DRs X.K ba S vs ds → ∃ ws, gV [y] vs = y :: ws ∧ DRs X.K ba S ws (gD ds)) (hkw : PK X kws (tDA X.K C (WD E) G)) (hall : (backToKw pos (keywordEach kws X.env)).all (·.1.isSome) = true := by rfl) (hks : (backToKw pos (keywordEach kws X.env)).filterMap (·.1) = ks := by rfl)
    (hpl : ((backTo pos (starEach [] X.env)).any (·.1) || (backToKw pos (keywordEach kws X.env)).any (·.1.isNone)) = false := by rfl)
    (ht : eval (.Call (.Attribute o m apos) [] kws pos) X.env = (do
      let ov ← eval o X.env
      standAt apos.atName
      let (f, first) ← holding [ov] (getMethod ov m pl)
      callWith pos f first (backTo pos (starEach [] X.env)) (backToKw pos (keywordEach kws X.env))) := by rfl) :
    PE X (.Call (.Attribute o m apos) [] kws pos) (tD X.K C (WD E) (eCMK ks.length A Fn gD Fo G)) := ⟨fun pins s σ H Q I h => by
  refine PySem.W.methodCall_KW (pl := pl) (thn (ho.run pins s σ H (fun v H1 => v = .ref A ∧ (tDA X.K C (WD E) G) σ H1 fun vs H2 => vs.length = ks.length ∧ spD X.K Fn (gV [.ref A] vs) H2 Q E) I ?_) fun u s1 ⟨x, H1, I1, rx, ex, q1⟩ => ?_) ht
  · obtain ⟨S, ρ, b, ok, q⟩ := h
    refine ⟨S, ρ, b, ok, q.bind.imp fun d b1 S1 H1 s1 ok1 q1 v rv => ?_⟩
    split at q1
    · rename_i A'
      split at q1
      · rename_i hA
        subst hA
        cases rv
        refine ⟨rfl, S1, ρ, b1, ok1, q1.bind.imp fun ds b2 S2 H2 s2 ok2 q2 vs rs => ?_⟩
        by_cases hl : ds.length = ks.length
        · rw [if_pos hl] at q2
          obtain ⟨ws, e, rw'⟩ := hgD _ _ (.ref A') _ _ rs
          rw [e]
          exact ⟨by rw [rs.length, hl], spD_of (W := WD E) ok2 (.cons (.obj _) rw') q2⟩
        · rw [if_neg hl] at q2
          exact q2.elim
      · exact q1.elim
    · exact q1.elim
  · subst ex
    obtain rfl : u = Value.ref A := rx
    refine ClX.getmethcm_ok I1 r c fun s2 I2 => ?_
    refine PySem.W.callWith_of (P := PySem.W.MethP X.K s1.heap.objs.size f (.ref A)) hpl (PySem.W.keeps_M c.fi) (evalArgs_kw2_nil hall (thn (hkw.run pos _ s2 σ H1 _ I2 q1) fun us s3 ⟨vs, H2, I3, rv, hl, q2⟩ => ⟨⟨ClX.pin_at I3, I3.kIn⟩, ?_⟩))
    rw [hks]
    have bt := hb.to s3 [.ref A] us I3.kIn rfl (by rw [← rv.length]; exact hl)
    have rz := hb.rel (vs := [.ref A]) (us := [.ref A]) (.cons rfl .nil) rv
    have z : wpAny (model X.prog X.w) X.A (call (.ref s1.heap.objs.size) [] (ks.zip us)) (EP X ((s1.heap.objs.size, PySem.W.methodObj (.ref f) (.ref A)) :: pins) σ Q) X.xe s3 := by
      refine wpAny_call (PySem.W.method_call (ClX.pin_at I3) (codeAny_mono (FO.go X.A X.stack s3 H2 ⟨[.ref A], ks.zip us⟩ _ _ Q E hr trivial I3.env0 bt rz q2) fun r s' hq => ?_))
      cases r with
      | error er => exact hx _ σ H2 s3 er s' I3 hq
      | ok fl =>
        cases fl with
        | ret u => exact I3.after hq
        | next => exact False.elim hq
        | brk => exact False.elim hq
        | cont => exact False.elim hq
    exact thn z fun _ _ y => ClX.unpinE y⟩
end
end DL

set_option maxHeartbeats 2000000
namespace DL
open PySem PySem.Spec PyProof.Rows L2
def G_state_row : SF := (sRet (eM joinF (eC (.str " ")) (aCons (eLst (aCons (eC (.str "state")) (aCons (eB strF (aCons (eIx (eV 0) (eC (.int 0))) aNil)) (aStar (eLc (aAny (eIx (eV 0) (eC (.int 1)))) [1] (gN 1) bYes (eB strF (aCons (eV 1) aNil))) aNil)))) aNil)))
def F_state_row : DFn := runD 2 1 (G_state_row)
def G_Machine_str_ (M : Addr) : SF := (sRet (eM joinF (eC (.str "\n")) (aCons (eLst (aCons (eJ2 (eC (.str "machine ")) (e1 (fldF M "_letters") (eV 0))) (aStar (eLc (aAny (e1 (fldF M "_states") (eV 0))) [1] (gN 1) bYes (eCall (F_state_row) (aCons (eV 1) aNil))) aNil))) aNil)))
def F_Machine_str_ (M : Addr) : DFn := runD 2 1 (G_Machine_str_ M)
def G_told_letters : SF := (sSeq (sAsg (eM splitF (eV 0) (aCons (eC (.str " ")) aNil)) (gN 1)) (sSeq (sIf (bOr (bB (e2 neF (eIx (eV 1) (eC (.int 0))) (eC (.str "machine")))) (bB (e2 neF (eB lenF (aCons (eV 1) aNil)) (eC (.int 2))))) (sRet (eC .non)) sNil) (sRet (eIx (eV 1) (eC (.int 1))))))
def F_told_letters : DFn := runD 2 1 (G_told_letters)
def G_told_state : SF := (sSeq (sAsg (eM splitF (eV 0) (aCons (eC (.str " ")) aNil)) (gN 1)) (sSeq (sIf (bOr (bB (e2 neF (eIx (eV 1) (eC (.int 0))) (eC (.str "state")))) (bB (e2 ltF (eB lenF (aCons (eV 1) aNil)) (eC (.int 2))))) (sRet (eC .non)) sNil) (sSeq (sIf (bNot (bB (eB allF (aCons (eLc (aAny (eSl (eV 1) (oSome (eC (.int 1))) oNo)) [3] (gN 3) bYes (eAnd (e2 eqF (eB lenF (aCons (eV 3) aNil)) (eC (.int 1))) (e2 inF (eV 3) (eC (.str "0123456789"))))) aNil)))) (sRet (eC .non)) sNil) (sSeq (sAsg (eLc (aAny (eSl (eV 1) (oSome (eC (.int 1))) oNo)) [3] (gN 3) bYes (eB intTF (aCons (eV 3) aNil))) (gN 2)) (sRet (eTup (aCons (eIx (eV 2) (eC (.int 0))) (aCons (eB tupleF (aCons (eSl (eV 2) (oSome (eC (.int 1))) oNo) aNil)) aNil))))))))
def F_told_state : DFn := runD 4 1 (G_told_state)
def G_Machine_read (M : Addr) : SF := (sSeq (sIf (bNot (bB (eB (isiF (.ty "str") (fun n => kitB n "str") (ownB M)) (aCons (eV 1) (aCons (eC (.obj (.ty "str"))) aNil))))) sNever sNil) (sSeq (sAsg (eM splitF (eV 1) (aCons (eC (.str "\n")) aNil)) (gN 2)) (sSeq (sAsg (eCall (F_told_letters) (aCons (eIx (eV 2) (eC (.int 0))) aNil)) (gN 3)) (sSeq (sAsg (eB tupleF (aCons (eLc (aAny (eSl (eV 2) (oSome (eC (.int 1))) oNo)) [5] (gN 5) bYes (eCall (F_told_state) (aCons (eV 5) aNil))) aNil)) (gN 4)) (sSeq (sIf (bOr (bNot (bB (eCall (F_is_letters M) (aCons (eV 3) aNil)))) (bOr (bB (e2 eqF (eB lenF (aCons (eV 4) aNil)) (eC (.int 0)))) (bB (e2 geF (eCall (F_first_wrong_state M) (aCons (eV 3) (aCons (eV 4) aNil))) (eC (.int 0)))))) sNever sNil) (sRet (eMakeL 0 M (Fm_Machine M) (aCons (eV 3) (aCons (eV 4) aNil)))))))))
def F_Machine_read (M : Addr) : DFn := runD 6 2 (G_Machine_read M)
def G__law_page : SF := (sSeq (sOwn (eLst (aCons (e2 addF (eC (.str "machine ")) (eV 0)) aNil)) 2) (sSeq (sFor (aAny (eV 1)) (gT 2 (gsC (gN 3) (gsC (gN 4) gsN))) (sPush 2 (eM joinF (eC (.str " ")) (aCons (e2 addF (eLst (aCons (eC (.str "state")) (aCons (eB strF (aCons (eV 3) aNil)) aNil))) (eLc (aAny (eV 4)) [5] (gN 5) bYes (eB strF (aCons (eV 5) aNil)))) aNil)))) (sFreeze 2 (sRet (eM joinF (eC (.str "\n")) (aCons (eV 2) aNil))))))
def F__law_page : DFn := runD 6 2 (G__law_page)
end DL

set_option maxHeartbeats 1000000
namespace DL
open PySem PySem.Spec PyProof.Rows L2
theorem meetsIn_bool_new {prog : Program} {w : World} (v : Value) : MeetsIn prog w (Builtin.«bool.__new__» ⟨[.type "bool", v], []⟩) (fun A R s => wpAny (model prog w) A.in1 (truthy v) (fun b s' => R (.ok (.ret (.bool b))) s') (fun e s' => R (.error e) s') s) := by
  refine MeetsIn.of_wp fun A R s hs => ?_
  have f1 := PySem.F.conv_sub_bool
  obtain ⟨hp, g, d, tk, os⟩ := s
  repeat (any_goals (first | assumption | (with_reducible refine wpAny_bind (wpAny_mono hs (fun b s' h => ?_) fun _ _ e => e)) | wp_step))
  all_goals first | exact ⟨_, rfl, h⟩ | skip
section
variable {X : Cx} {CX : CXT} {k : Nat} {A f : Addr} {fd : FuncData} {ps : List Str} {sp : Sp}
def rBoolO (A : Addr) (sp : Sp) : List V → Hp → VK → Prop := fun xs H Q => ∃ a dx fs, xs = [.ref a] ∧ H a = some (.ins A dx fs) ∧ sp [.ref a] H (fun v H' => ∃ n : Int, v = .int n ∧ (0 ≤ n ∧ n < 2 ^ 63) ∧ Q (.bl (n != 0)) H') E0
theorem call_boolO (hn : PySem.W.findIn X.K (.ref A) "__bool__" = some none) (hs : PySem.W.findIn X.K (.ref A) "__len__" = some (some (.ref f))) (hf : PySem.W.isFn X.K (.ref f) = true) (F : FnOk X.prog X.w X.K X.mg X.base CX k f fd ps sp) (hr : Room (k + 3) X.A) (hb : Binds X.K fd ps []) (hx : Passes CX X E0) : CallR X (.type "bool") (rBoolO A sp) := by
  intro pins s σ H xs us Q I r h
  obtain ⟨a, dx, fs, rfl, ea, q⟩ := h
  have hu : us = [Value.ref a] := by
    cases r with
    | cons r1 r2 => cases r2; cases r1; rfl
  subst hu
  obtain ⟨mA, O, _⟩ := ins_get I.hok ea
  obtain ⟨od, J, _⟩ := O.look
  have hl : ([Value.ref a] ++ []).length = ps.length := by rw [← F.len _ _ _ _ q]; rfl
  have hr1 : Room (k + 1) X.A.in1.in1 := (show Room (k + 2) X.A.in1 from Room.in1 hr).in1
  refine callType_newIn PySem.F.called_bool PySem.F.newNe_bool (PySem.F.typeCall_bool_1 _) (PySem.F.newCall_bool_1 _) (fun obj => PySem.F.args_object_init_2 obj _) PySem.F.entry_bool_new (meetsIn_bool_new (.ref a)) ?_
  show wpAny _ X.A.in1.in1 (truthy (.ref a)) _ _ s
  have key : wpAny (model X.prog X.w) X.A.in1.in1 (runValue (.builtin "len" ⟨[.ref a], []⟩)) (fun r s' => ∃ (n : Int) (t : Tok), r = .int n t ∧ EP X pins σ Q (.bool (n != 0)) s') X.xe s := by
    refine wpAny_runValue (codeAny_builtin entry_len ?_)
    rw [Around.under_plainId plain_len _]
    unfold PySem.Builtin.«len»
    refine wpAny_bind (m := oneArg "len" _) (wpAny_pure ?_)
    refine wpAny_bind (m := callSpecial? (.ref a) (Str.ofString "__len__")) (PySem.W.special_fn I.kIn J hs (beq_iff_eq.mp hf) (wpAny_call (codeAny_mono (F.run X.A.in1.in1.in1 X.stack s H ⟨[.ref a], []⟩ ([Value.ref a] ++ []) [.ref a] _ E0 hr1.in1 I.env0.in1.in1.in1 (hb s [.ref a] I.kIn hl) (.cons rfl .nil) q) fun r s' hq => ?_)))
    cases r with
    | error er => exact hx pins σ H s er s' I hq
    | ok fl =>
      cases fl with
      | ret u =>
        obtain ⟨v, H', I3, rv, n, e, ⟨h0, h1⟩, q3⟩ := I.after hq
        subst e
        obtain ⟨t, rfl⟩ := rv
        refine wpAny_bind (wpAny_holding (wpAny_pure ?_))
        refine wpAny_bind (wpAny_letGo ?_)
        have n1 : ¬ n < 0 := Int.not_lt.mpr h0
        have n2 : ¬ n ≥ 2 ^ 63 := Int.not_le.mpr h1
        simp only [n1, n2, if_false]
        exact wpAny_bind (wpAny_mkInt (wpAny_pure ⟨n, _, rfl, .bl (n != 0), H', I3.tok _, rfl, q3⟩))
      | next => exact False.elim hq
      | brk => exact False.elim hq
      | cont => exact False.elim hq
  have hsp : ∀ {Q' : Option Value → Shared → Prop}, Q' (some (.ref f)) s → wpAny (model X.prog X.w) X.A.in1.in1 (specialOf (.ref a) "__len__") Q' X.xe s := fun q => by
    unfold specialOf
    exact wpAny_bind (J.type.here ((PySem.W.looks_findIn I.kIn hs).here q))
  unfold truthy
  first
    | refine wpAny_bind (DSub.special_no (name := Str.ofString "__bool__") I.kIn J hn ?_)
    | refine wpAny_bind (wpAny_pure (wpAny_bind (DSub.special_no (name := Str.ofString "__bool__") I.kIn J hn ?_)))
  first
    | refine wpAny_bind (hsp ?_)
    | refine wpAny_bind (wpAny_pure (wpAny_bind (hsp ?_)))
  first
    | refine wpAny_bind (wpAny_mono key (fun r s' h' => ?_) fun _ _ e => e)
    | refine wpAny_bind (wpAny_pure (wpAny_bind (wpAny_mono key (fun r s' h' => ?_) fun _ _ e => e)))
  obtain ⟨n, t, rfl, hq⟩ := h'
  exact wpAny_pure ⟨by first | exact typeIs_bool _ _ | rfl, hq⟩
end
section
variable {X : Cx} {C : Cq} {W : WX} {k : Nat} {A f : Addr} {fd : FuncData} {ps : List Str} {a : Expr} {pos p : Pos} {G : AF} {Fn : DFn}
/-- bool(e), e an object of the class A whose __len__ is Fn -/
@[simp] def eBoolO (A : Addr) (Fn : DFn) (G : AF) : EF := fun ρ b => (G ρ b).bind fun ds b1 => match ds with
  | [.ins A' ns es] => if A' = A then (match Fn [.ins A' ns es] b1 with
    | .ok (.int n) b2 => if 0 ≤ n ∧ n < 2 ^ 63 then .ok (.bl (n != 0)) b2 else .stuck
    | _ => .stuck) else .stuck
  | _ => .stuck
theorem d_boolO (hn : PySem.W.findIn X.K (.ref A) "__bool__" = some none) (hs : PySem.W.findIn X.K (.ref A) "__len__" = some (some (.ref f))) (hf : PySem.W.isFn X.K (.ref f) = true) (F : FnOk X.prog X.w X.K X.mg X.base (L2.CX X.prog X.w) k f fd ps (spD X.K Fn)) (hr : Room (k + 3) X.A) (hb : Binds X.K fd ps [])
    (hg : Gl X "bool") (hm : X.mg "bool" = none) (ha : PA X [a] (tDA X.K C W G)) (he : starEach [a] X.env = (false, eval a X.env) :: starEach [] X.env := by rfl) (hpl : (backTo pos (starEach [] X.env)).any (·.1) = false := by rfl) :
    PE X (.Call (.Name "bool" p) [a] [] pos) (tD X.K C W (eBoolO A Fn G)) := pe_imp (pe_callTy (call_boolO hn hs hf F hr hb passL) hg hm (by decide +kernel) ha (by decide) (by decide) he hpl) fun σ H Q ⟨S, ρ, b, ok, q⟩ => by
  refine ⟨S, ρ, b, ok, q.bind.imp fun ds b1 S1 H1 s1 ok1 q1 vs r => ?_⟩
  split at q1
  · rename_i A' ns es
    split at q1
    · rename_i hA
      subst hA
      split at q1
      · rename_i n b2 hF
        split at q1
        · rename_i hn
          cases r with
          | cons r1 r2 =>
            cases r2
            cases r1 with
            | ins h1 h2 h3 =>
              refine ⟨_, _, _, rfl, ok1.core.sub _ _ h1, spD_of (W := W0) ok1 (.cons (.ins h1 h2 h3) .nil) ?_⟩
              rw [hF]
              intro S3 H3 e3 ok3 v r
              cases r
              exact ⟨n, rfl, hn, q1 S3 H3 e3 ok3 _ (.bl _)⟩
        · exact q1.elim
      · exact q1.elim
    · exact q1.elim
  · exact q1.elim
end
end DL

set_option maxHeartbeats 2000000
namespace DL
open PySem PySem.Spec PyProof.Rows L2
def Getter (K : PySem.W.Frag) (M : Addr) (pr fl : Str) : Prop := ∃ p g fd, PropOf K M pr p g ∧ (∀ P w mg base, FnOk P w K mg base CX0 1 g fd ["self"] (getSp M fl)) ∧ Binds K fd ["self"] []
structure Facts (K : PySem.W.Frag) (mg : Str → Option Value) (M : Addr) : Prop where
  m_abs : mg "abs" = none
  m_all : mg "all" = none
  m_bool : mg "bool" = none
  m_divmod : mg "divmod" = none
  m_enumerate : mg "enumerate" = none
  m_int : mg "int" = none
  m_isinstance : mg "isinstance" = none
  m_len : mg "len" = none
  m_max : mg "max" = none
  m_min : mg "min" = none
  m_range : mg "range" = none
  m_repr : mg "repr" = none
  m_str : mg "str" = none
  m_tuple : mg "tuple" = none
  m_zip : mg "zip" = none
  m_MOST_COLOUR : ∃ t, mg "MOST_COLOUR" = some (.int 6 t)
  m_MOST_LETTERS : ∃ t, mg "MOST_LETTERS" = some (.int 3 t)
  m_MOST_STATES : ∃ t, mg "MOST_STATES" = some (.int 6 t)
  m_ALPHABET : ∃ t, mg "ALPHABET" = some (.str "abcdefghijklmnopqrstuvwxyz" t)
  m_DIGITS : ∃ t, mg "DIGITS" = some (.str "0123456789" t)
  m_Machine : mg "Machine" = some (.ref M)
  cM : Cls K M
  iM : ClsI K M
  n_letters : NoAttr K M "_letters"
  n_states : NoAttr K M "_states"
  g_letters : Getter K M "letters" "_letters"
  g_states : Getter K M "states" "_states"
  k_str : PySem.W.kitOne K (.ref M) (.type "str") = some false
  k_int : PySem.W.kitOne K (.ref M) (.type "int") = some false
  k_bool : PySem.W.kitOne K (.ref M) (.type "bool") = some false
  k_tuple : PySem.W.kitOne K (.ref M) (.type "tuple") = some false
  k_M : PySem.W.kitOne K (.ref M) (.ref M) = some true
  k_b : ∀ n, kitM n = some false → PySem.W.kitOne K (.type n) (.ref M) = some false
theorem Facts.own {K : PySem.W.Frag} {mg : Str → Option Value} {M : Addr} (T : Facts K mg M) {u : Value} (h : PySem.W.kitOne K (.ref M) u = some false) {A : Addr} {b : Bool} (e : ownB M A = some b) : ClsI K A ∧ PySem.W.kitOne K (.ref A) u = some b := by
  unfold ownB at e
  split at e
  · rename_i hA; subst hA; cases e; exact ⟨T.iM, h⟩
  · cases e
theorem Facts.kitM {K : PySem.W.Frag} {mg : Str → Option Value} {M : Addr} (T : Facts K mg M) {n : String} {b : Bool} (e : DL.kitM n = some b) : PySem.W.kitOne K (.type n) (.ref M) = some b := by
  have : b = false := by
    unfold DL.kitM at e
    split at e
    · cases e; rfl
    · cases e
  subst this
  exact T.k_b n e
section
variable {X : Cx} {C : Cq} {W : WX} {E : XK} {e : Expr} {es : List Expr} {pos p : Pos} {F : EF} {G : AF} {x : Str}
theorem d_propG {A : Addr} {f pr : Str} {k : Nat} (he : PE X e (tD X.K C W F)) (c : Cls X.K A) (h : Getter X.K A pr f) (hr : Room k X.A) (hj : 2 ≤ k) (hab : attributeBase e pr X.env (eval e X.env) = eval e X.env := by rfl) : PE X (.Attribute e pr pos) (tD X.K C W (e1 (fldF A f) F)) := by
  obtain ⟨pp, g, fd, hp, FO, hb⟩ := h
  exact d_prop he c hp (FO _ _ _ _) (hr.mono hj) hb hab
end
section
variable {P : Program} {w : World} {K : PySem.W.Frag} {mg : Str → Option Value} {base : Heap} {M fa : Addr} {fd : FuncData}
def N_is_letters : List Str := ["value", "in_bounds", "letter", "low", "high"]
def P_is_letters : List Str := ["value"]
theorem sc_is_letters : FnScope N_is_letters P_is_letters (defScope s_is_letters) := ⟨rfl, rfl, rfl, by decide +kernel, rfl, by decide +kernel, by decide +kernel⟩
theorem ok_is_letters (T : Facts K mg M) (Fu : Fun K "is_letters" "is_letters" s_is_letters fa fd) : FnG P w K mg base GT 1 fa fd P_is_letters (spD K (F_is_letters M)) := by
  refine d_def (N := N_is_letters) (ps := P_is_letters) (G := G_is_letters M) Fu sc_is_letters fun cdv A outer s H E C hr hg => ?_
  have nd := sc_is_letters.nd
  have hu := hr.units
  exact (d_cons (d_sif (PW.pt (d_or (d_not (d_tval (d_isi (.ty _) (fun _ _ h => kit_ty h) (fun A b h => T.own T.k_str h) rfl T.m_isinstance (d_acons (d_var (pv 0)) (d_acons (d_tyn rfl T.m_str (by decide +kernel)) d_anil))) (fun _ => rfl))) (pw_or1 (d_not (t_lele (d_const pe_int fun _ => .int _) (d_len rfl T.m_len (d_acons (d_var (pv 0)) d_anil)) (d_inte rfl T.m_MOST_LETTERS)))))) (d_one (d_ret (d_const pe_bl fun _ => .bl _))) d_nil) (d_cons (d_set (ps_set (i := 1) nd rfl (Or.inl rfl) (d_all rfl rfl T.m_all (d_acons (d_share (d_lc (ctg_name (i := 2) (by decide)) (pe_lc (own := [("letter", 2)]) rfl nd (d_iany (d_var (pv 0))) (blkOk_by (N := N_is_letters) (sc := defScope s_is_letters) (by decide +kernel)) (fun _ _ _ _ _ => (pg_name (i := 2) nd rfl (Or.inl rfl))) (fun _ _ _ _ _ => d_tsany fun C => d_tsnil) (fun _ _ _ _ _ => d_any fun C => (d_in (d_var (pv 2)) (d_stre rfl T.m_ALPHABET)))))) d_anil)))) (d_one (d_ret (d_eand (d_var (pv 1)) (pe_one (d_all rfl rfl T.m_all (d_acons (d_share (d_lc (ctg_pair (i := 3) (j := 4) (by decide) (by decide)) (pe_lc (own := [("low", 3), ("high", 4)]) rfl nd (d_izipS rfl T.m_zip (d_acons (d_var (pv 0)) (d_acons (d_slice (d_var (pv 0)) (d_osome (d_const pe_int fun _ => .int _)) d_ono) d_anil))) (blkOk_by (N := N_is_letters) (sc := defScope s_is_letters) (by decide +kernel)) (fun _ _ _ _ _ => (pg_tup rfl (pgs_cons (pg_name (i := 3) nd rfl (Or.inl rfl)) (pgs_cons (pg_name (i := 4) nd rfl (Or.inl rfl)) pgs_nil rfl) rfl) rfl rfl)) (fun _ _ _ _ _ => d_tsany fun C => d_tsnil) (fun _ _ _ _ _ => d_any fun C => (d_lt (d_var (pv 3)) (d_var (pv 4))))))) d_anil))))))))
def N_is_number : List Str := ["value", "most"]
def P_is_number : List Str := ["value", "most"]
theorem sc_is_number : FnScope N_is_number P_is_number (defScope s_is_number) := ⟨rfl, rfl, rfl, by decide +kernel, rfl, by decide +kernel, by decide +kernel⟩
theorem ok_is_number (T : Facts K mg M) (Fu : Fun K "is_number" "is_number" s_is_number fa fd) : FnG P w K mg base GT 1 fa fd P_is_number (spD K (F_is_number M)) := by
  refine d_def (N := N_is_number) (ps := P_is_number) (G := G_is_number M) Fu sc_is_number fun cdv A outer s H E C hr hg => ?_
  have nd := sc_is_number.nd
  have hu := hr.units
  exact (d_one (d_ret (d_eand (d_isi (.ty _) (fun _ _ h => kit_ty h) (fun A b h => T.own T.k_int h) rfl T.m_isinstance (d_acons (d_var (pv 0)) (d_acons (d_tyn rfl T.m_int (by decide +kernel)) d_anil))) (d_eand (d_enot (d_isi (.ty _) (fun _ _ h => kit_ty h) (fun A b h => T.own T.k_bool h) rfl T.m_isinstance (d_acons (d_var (pv 0)) (d_acons (d_tyn rfl T.m_bool (by decide +kernel)) d_anil)))) (pe_one (d_lele (d_const pe_int fun _ => .int _) (d_var (pv 0)) (d_var (pv 1))))))))
def N_is_state : List Str := ["value", "width", "count", "colour", "following", "number"]
def P_is_state : List Str := ["value", "width", "count"]
theorem sc_is_state : FnScope N_is_state P_is_state (defScope s_is_state) := ⟨rfl, rfl, rfl, by decide +kernel, rfl, by decide +kernel, by decide +kernel⟩
theorem ok_is_state (T : Facts K mg M) (Fu : Fun K "is_state" "is_state" s_is_state fa fd) (H_is_number : Has P w K mg base GT 1 "is_number" P_is_number (spD K (F_is_number M))) : FnG P w K mg base GT 2 fa fd P_is_state (spD K (F_is_state M)) := by
  refine d_def (N := N_is_state) (ps := P_is_state) (G := G_is_state M) Fu sc_is_state fun cdv A outer s H E C hr hg => ?_
  have nd := sc_is_state.nd
  have hu := hr.units
  exact (d_cons (d_sif (PW.pt (d_or (d_not (d_tval (d_isi (.ty _) (fun _ _ h => kit_ty h) (fun A b h => T.own T.k_tuple h) rfl T.m_isinstance (d_acons (d_var (pv 0)) (d_acons (d_tyn rfl T.m_tuple (by decide +kernel)) d_anil))) (fun _ => rfl))) (pw_or1 (t_ne hu (d_len rfl T.m_len (d_acons (d_var (pv 0)) d_anil)) (d_const pe_int fun _ => .int _))))) (d_one (d_ret (d_const pe_bl fun _ => .bl _))) d_nil) (d_cons (d_asg (d_var (pv 0)) (d_gtup rfl (d_gcons (d_gname (pg_name (i := 3) nd rfl (Or.inl rfl))) (d_gcons (d_gname (pg_name (i := 4) nd rfl (Or.inl rfl))) d_gnil)))) (d_cons (d_sif (PW.pt (d_or (d_not (d_tval (d_callH (k := 1) H_is_number hr (by decide) trivial rfl (takes_of rfl rfl rfl rfl) (d_acons (d_var (pv 3)) (d_acons (d_inte rfl T.m_MOST_COLOUR) d_anil))) (fun _ => rfl))) (d_or (d_not (d_tval (d_isi (.ty _) (fun _ _ h => kit_ty h) (fun A b h => T.own T.k_tuple h) rfl T.m_isinstance (d_acons (d_var (pv 4)) (d_acons (d_tyn rfl T.m_tuple (by decide +kernel)) d_anil))) (fun _ => rfl))) (pw_or1 (t_ne hu (d_len rfl T.m_len (d_acons (d_var (pv 4)) d_anil)) (d_var (pv 1))))))) (d_one (d_ret (d_const pe_bl fun _ => .bl _))) d_nil) (d_one (d_ret (d_all rfl rfl T.m_all (d_acons (d_share (d_lc (ctg_name (i := 5) (by decide)) (pe_lc (own := [("number", 5)]) rfl nd (d_iany (d_var (pv 4))) (blkOk_by (N := N_is_state) (sc := defScope s_is_state) (by decide +kernel)) (fun _ _ _ _ _ => (pg_name (i := 5) nd rfl (Or.inl rfl))) (fun _ _ _ _ _ => d_tsany fun C => d_tsnil) (fun _ _ _ _ _ => d_any fun C => (d_callH (k := 1) H_is_number hr (by decide) trivial rfl takes0 (d_acons (d_var (pv 5)) (d_acons (d_sub (d_var (pv 2)) (d_const pe_int fun _ => .int _)) d_anil))))))) d_anil)))))))
def N_first_wrong_state : List Str := ["letters", "states", "index", "state"]
def P_first_wrong_state : List Str := ["letters", "states"]
theorem sc_first_wrong_state : FnScope N_first_wrong_state P_first_wrong_state (defScope s_first_wrong_state) := ⟨rfl, rfl, rfl, by decide +kernel, rfl, by decide +kernel, by decide +kernel⟩
theorem ok_first_wrong_state (T : Facts K mg M) (Fu : Fun K "first_wrong_state" "first_wrong_state" s_first_wrong_state fa fd) (H_is_state : Has P w K mg base GT 2 "is_state" P_is_state (spD K (F_is_state M))) : FnG P w K mg base GT 3 fa fd P_first_wrong_state (spD K (F_first_wrong_state M)) := by
  refine d_def (N := N_first_wrong_state) (ps := P_first_wrong_state) (G := G_first_wrong_state M) Fu sc_first_wrong_state fun cdv A outer s H E C hr hg => ?_
  have nd := sc_first_wrong_state.nd
  have hu := hr.units
  exact (d_cons (d_for (passes_of rfl) rfl (d_ienumT rfl T.m_enumerate (d_acons (d_var (pv 1)) d_anil)) (d_gtup rfl (d_gcons (d_gname (pg_name (i := 2) nd rfl (Or.inl rfl))) (d_gcons (d_gname (pg_name (i := 3) nd rfl (Or.inl rfl))) d_gnil))) (d_one (d_sif (PW.pt (d_or (t_eq hu (d_var (pv 2)) (d_inte rfl T.m_MOST_STATES)) (pw_or1 (d_not (d_tval (d_callH (k := 2) H_is_state hr (by decide) trivial rfl (takes_of rfl rfl rfl rfl) (d_acons (d_var (pv 3)) (d_acons (d_len rfl T.m_len (d_acons (d_var (pv 0)) d_anil)) (d_acons (d_len rfl T.m_len (d_acons (d_var (pv 1)) d_anil)) d_anil)))) (fun _ => rfl)))))) (d_one (d_ret (d_var (pv 2)))) d_nil))) (d_one (d_ret (d_neg (d_const pe_int fun _ => .int _)))))
def N_Machine_init : List Str := ["self", "letters", "states", "wrong"]
def P_Machine_init : List Str := ["self", "letters", "states"]
theorem sc_Machine_init : FnScope N_Machine_init P_Machine_init (defScope s_Machine_init) := ⟨rfl, rfl, rfl, by decide +kernel, rfl, by decide +kernel, by decide +kernel⟩
theorem ok_Machine_init (T : Facts K mg M) (Fu : Fun K "__init__" "Machine.__init__" s_Machine_init fa fd) (H_first_wrong_state : Has P w K mg base GT 3 "first_wrong_state" P_first_wrong_state (spD K (F_first_wrong_state M))) (H_is_letters : Has P w K mg base GT 1 "is_letters" P_is_letters (spD K (F_is_letters M))) : FnG P w K mg base GT 4 fa fd P_Machine_init (spI K M (Fx_Machine M)) := by
  refine d_init (N := N_Machine_init) (ps := P_Machine_init) (F := G_Machine_init M) Fu sc_Machine_init fun y cdv Ar outer s H E C hr hg => ?_
  have nd := sc_Machine_init.nd
  have hu := hr.units
  exact (i_cons (fun C => (d_sif (d_not (d_tval (d_callH (k := 3) H_is_letters hr (by decide) trivial rfl (takes_of rfl rfl rfl rfl) (d_acons (d_var (pv 1)) d_anil)) (fun _ => rfl))) (d_one d_never) d_nil)) (i_cons (fun C => (d_sif (PW.pt (d_or (d_not (d_tval (d_isi (.ty _) (fun _ _ h => kit_ty h) (fun A b h => T.own T.k_tuple h) rfl T.m_isinstance (d_acons (d_var (pv 2)) (d_acons (d_tyn rfl T.m_tuple (by decide +kernel)) d_anil))) (fun _ => rfl))) (pw_or1 (t_eq hu (d_len rfl T.m_len (d_acons (d_var (pv 2)) d_anil)) (d_const pe_int fun _ => .int _))))) (d_one d_never) d_nil)) (i_cons (fun C => (d_set (ps_set (i := 3) nd rfl (Or.inl rfl) (d_callH (k := 3) H_first_wrong_state hr (by decide) trivial rfl (takes_of rfl rfl rfl rfl) (d_acons (d_var (pv 1)) (d_acons (d_var (pv 2)) d_anil)))))) (i_cons (fun C => (d_sif (t_ge (d_var (pv 3)) (d_const pe_int fun _ => .int _)) (d_one d_never) d_nil)) (i_store (pv 0) (fun C => (d_var (pv 1))) T.cM T.n_letters (i_store (pv 0) (fun C => (d_var (pv 2))) T.cM T.n_states i_nil))))))
def HasM (P : Program) (w : World) (K : PySem.W.Frag) (mg : Str → Option Value) (base : Heap) (M : Addr) : Prop := ∃ f fd, Mk K M f ∧ FnG P w K mg base GT 4 f fd P_Machine_init (spI K M (Fx_Machine M)) ∧ Binds K fd P_Machine_init []
theorem d_makeH {X : Cx} {C : Cq} {E : XK} {e : Expr} {es : List Expr} {pos p : Pos} {G : AF} {k : Nat} {x : Str} (h : HasM X.prog X.w X.K X.mg X.base M) (hr : Room k X.A) (hj : 5 ≤ k) (hg : Gl X x) (hm : X.mg x = some (.ref M)) (hx : Passes (L2.CX X.prog X.w) X E)
    (ha : PA X (e :: es) (tDA X.K C (WD E) G)) (hdb : (x == ("__debug__" : Str)) = false := by decide) (he : starEach (e :: es) X.env = (false, eval e X.env) :: starEach es X.env := by rfl) (hpl : (backTo pos (starEach es X.env)).any (·.1) = false := by rfl) :
    PE X (.Call (.Name x p) (e :: es) [] pos) (tD X.K C (WD E) (eMake M (Fm_Machine M) G)) := by
  obtain ⟨f, fd, hM, FO, hb⟩ := h
  exact d_make hM FO.fnok (fm_ok M) (hr.mono hj) hg hm hb hx ha hdb he hpl
theorem d_makeLH {X : Cx} {C : Cq} {E : XK} {e : Expr} {es : List Expr} {pos p : Pos} {G : AF} {k i : Nat} {x : Str} (h : HasM X.prog X.w X.K X.mg X.base M) (hr : Room k X.A) (hj : 5 ≤ k) (hN : X.N[i]? = some x) (hv : Vis X.env.scope x) (hx : Passes (L2.CX X.prog X.w) X E)
    (ha : PA X (e :: es) (tDA X.K C (WD E) G)) (hdb : (x == ("__debug__" : Str)) = false := by decide) (hcd : (x == ("__classdict__" : Str)) = false := by decide) (he : starEach (e :: es) X.env = (false, eval e X.env) :: starEach es X.env := by rfl) (hpl : (backTo pos (starEach es X.env)).any (·.1) = false := by rfl) :
    PE X (.Call (.Name x p) (e :: es) [] pos) (tD X.K C (WD E) (eMakeL i M (Fm_Machine M) G)) := by
  obtain ⟨f, fd, hM, FO, hb⟩ := h
  exact d_makeL hM FO.fnok (fm_ok M) (hr.mono hj) hN hv hb hx ha hdb hcd he hpl
def HasMK (P : Program) (w : World) (K : PySem.W.Frag) (mg : Str → Option Value) (base : Heap) (M : Addr) (ks : List Str) (perm : List Nat) : Prop := ∃ f fd, Mk K M f ∧ FnG P w K mg base GT 4 f fd P_Machine_init (spI K M (Fx_Machine M)) ∧ KBn K fd P_Machine_init 1 ks (fun us ws => us ++ pick perm ws) (fun vs zs => vs ++ pick perm zs)
theorem d_makeKH {X : Cx} {C : Cq} {E : XK} {kws : List Keyword} {ks : List Str} {perm : List Nat} {pos p : Pos} {G : AF} {k : Nat} {x : Str} (h : HasMK X.prog X.w X.K X.mg X.base M ks perm) (hr : Room k X.A) (hj : 5 ≤ k) (hg : Gl X x) (hm : X.mg x = some (.ref M)) (hx : Passes (L2.CX X.prog X.w) X E)
    (hkw : PK X kws (tDA X.K C (WD E) G)) (hall : (backToKw pos (keywordEach kws X.env)).all (·.1.isSome) = true := by rfl) (hks : (backToKw pos (keywordEach kws X.env)).filterMap (·.1) = ks := by rfl)
    (hdb : (x == ("__debug__" : Str)) = false := by decide) (hpl : ((backTo pos (starEach [] X.env)).any (·.1) || (backToKw pos (keywordEach kws X.env)).any (·.1.isNone)) = false := by rfl) :
    PE X (.Call (.Name x p) [] kws pos) (tD X.K C (WD E) (eMakeK ks.length M (Fm_Machine M) (pick perm) G)) := by
  obtain ⟨f, fd, hM, FO, hb⟩ := h
  exact d_makeK hM FO.fnok (fm_ok M) (hr.mono hj) hg hm hb (fun _ _ y vs ds rz => ⟨pick perm vs, rfl, pick_dr rz perm⟩) hx hkw hall hks hdb hpl
def N_Machine_len_ : List Str := ["self"]
def P_Machine_len_ : List Str := ["self"]
theorem sc_Machine_len_ : FnScope N_Machine_len_ P_Machine_len_ (defScope s_Machine_len_) := ⟨rfl, rfl, rfl, by decide +kernel, rfl, by decide +kernel, by decide +kernel⟩
theorem ok_Machine_len_ (T : Facts K mg M) (Fu : Fun K "__len__" "Machine.__len__" s_Machine_len_ fa fd) : FnG P w K mg base GT 1 fa fd P_Machine_len_ (spD K (F_Machine_len_ M)) := by
  refine d_def (N := N_Machine_len_) (ps := P_Machine_len_) (G := G_Machine_len_ M) Fu sc_Machine_len_ fun cdv A outer s H E C hr hg => ?_
  have nd := sc_Machine_len_.nd
  have hu := hr.units
  exact (d_one (d_ret (d_len rfl T.m_len (d_acons (d_fld (d_var (pv 0)) T.cM T.n_states) d_anil))))
def HasLen (P : Program) (w : World) (K : PySem.W.Frag) (mg : Str → Option Value) (base : Heap) (M : Addr) : Prop := ∃ f fd, PySem.W.findIn K (.ref M) "__len__" = some (some (.ref f)) ∧ PySem.W.isFn K (.ref f) = true ∧ FnG P w K mg base GT 1 f fd P_Machine_len_ (spD K (F_Machine_len_ M)) ∧ Binds K fd P_Machine_len_ []
theorem d_lenH {X : Cx} {C : Cq} {W : WX} {a : Expr} {pos p : Pos} {G : AF} {k : Nat} (h : HasLen X.prog X.w X.K X.mg X.base M) (hr : Room k X.A) (hj : 2 ≤ k) (hg : Gl X "len") (hm : X.mg "len" = none) (ha : PA X [a] (tDA X.K C W G)) (he : starEach [a] X.env = (false, eval a X.env) :: starEach [] X.env := by rfl)
    (hpl : (backTo pos (starEach [] X.env)).any (·.1) = false := by rfl) : PE X (.Call (.Name "len" p) [a] [] pos) (tD X.K C W (eLenO M (F_Machine_len_ M) G)) := by
  obtain ⟨f, fd, hs, hf, FO, hb⟩ := h
  exact d_lenO hs hf FO.fnok (hr.mono hj) hb hg hm ha he hpl
theorem d_boolH {X : Cx} {C : Cq} {W : WX} {a : Expr} {pos p : Pos} {G : AF} {k : Nat} (h : HasLen X.prog X.w X.K X.mg X.base M) (hn : PySem.W.findIn X.K (.ref M) "__bool__" = some none) (hr : Room k X.A) (hj : 4 ≤ k) (hg : Gl X "bool") (hm : X.mg "bool" = none) (ha : PA X [a] (tDA X.K C W G)) (he : starEach [a] X.env = (false, eval a X.env) :: starEach [] X.env := by rfl)
    (hpl : (backTo pos (starEach [] X.env)).any (·.1) = false := by rfl) : PE X (.Call (.Name "bool" p) [a] [] pos) (tD X.K C W (eBoolO M (F_Machine_len_ M) G)) := by
  obtain ⟨f, fd, hs, hf, FO, hb⟩ := h
  exact d_boolO hn hs hf FO.fnok (hr.mono hj) hb hg hm ha he hpl
def N_state_row : List Str := ["state", "number"]
def P_state_row : List Str := ["state"]
theorem sc_state_row : FnScope N_state_row P_state_row (defScope s_state_row) := ⟨rfl, rfl, rfl, by decide +kernel, rfl, by decide +kernel, by decide +kernel⟩
theorem ok_state_row (T : Facts K mg M) (Fu : Fun K "state_row" "state_row" s_state_row fa fd) : FnG P w K mg base GT 1 fa fd P_state_row (spD K (F_state_row)) := by
  refine d_def (N := N_state_row) (ps := P_state_row) (G := G_state_row) Fu sc_state_row fun cdv A outer s H E C hr hg => ?_
  have nd := sc_state_row.nd
  have hu := hr.units
  exact (d_one (d_ret (d_bm PySem.F.slot_str_join PySem.F.type_str_join mt_join m_join (d_const pe_str fun _ => .str _) (d_acons (d_share (d_lst (d_acons (d_const pe_str fun _ => .str _) (d_acons (d_str1 rfl T.m_str (d_acons (d_ix (d_var (pv 0)) (d_const pe_int fun _ => .int _) (fun _ _ => rfl)) d_anil)) (d_astar (d_share (d_lc (ctg_name (i := 1) (by decide)) (pe_lc (own := [("number", 1)]) rfl nd (d_iany (d_ix (d_var (pv 0)) (d_const pe_int fun _ => .int _) (fun _ _ => rfl))) (blkOk_by (N := N_state_row) (sc := defScope s_state_row) (by decide +kernel)) (fun _ _ _ _ _ => (pg_name (i := 1) nd rfl (Or.inl rfl))) (fun _ _ _ _ _ => d_tsany fun C => d_tsnil) (fun _ _ _ _ _ => d_any fun C => (d_str1 rfl T.m_str (d_acons (d_var (pv 1)) d_anil)))))) d_anil))))) d_anil))))
def N_Machine_str_ : List Str := ["self", "state"]
def P_Machine_str_ : List Str := ["self"]
theorem sc_Machine_str_ : FnScope N_Machine_str_ P_Machine_str_ (defScope s_Machine_str_) := ⟨rfl, rfl, rfl, by decide +kernel, rfl, by decide +kernel, by decide +kernel⟩
theorem ok_Machine_str_ (T : Facts K mg M) (Fu : Fun K "__str__" "Machine.__str__" s_Machine_str_ fa fd) (H_state_row : Has P w K mg base GT 1 "state_row" P_state_row (spD K (F_state_row))) : FnG P w K mg base GT 2 fa fd P_Machine_str_ (spD K (F_Machine_str_ M)) := by
  refine d_def (N := N_Machine_str_) (ps := P_Machine_str_) (G := G_Machine_str_ M) Fu sc_Machine_str_ fun cdv A outer s H E C hr hg => ?_
  have nd := sc_Machine_str_.nd
  have hu := hr.units
  exact (d_one (d_ret (d_bm PySem.F.slot_str_join PySem.F.type_str_join mt_join m_join (d_const pe_str fun _ => .str _) (d_acons (d_share (d_lst (d_acons (d_j2 (d_const pe_str fun _ => .str _) (d_fld (d_var (pv 0)) T.cM T.n_letters)) (d_astar (d_share (d_lc (ctg_name (i := 1) (by decide)) (pe_lc (own := [("state", 1)]) rfl nd (d_iany (d_fld (d_var (pv 0)) T.cM T.n_states)) (blkOk_by (N := N_Machine_str_) (sc := defScope s_Machine_str_) (by decide +kernel)) (fun _ _ _ _ _ => (pg_name (i := 1) nd rfl (Or.inl rfl))) (fun _ _ _ _ _ => d_tsany fun C => d_tsnil) (fun _ _ _ _ _ => d_any fun C => (d_callH (k := 1) H_state_row hr (by decide) trivial rfl takes0 (d_acons (d_var (pv 1)) d_anil)))))) d_anil)))) d_anil))))
def HasStr (P : Program) (w : World) (K : PySem.W.Frag) (mg : Str → Option Value) (base : Heap) (M : Addr) : Prop := ∃ f fd, PySem.W.findIn K (.ref M) "__str__" = some (some (.ref f)) ∧ PySem.W.isFn K (.ref f) = true ∧ FnG P w K mg base GT 2 f fd P_Machine_str_ (spD K (F_Machine_str_ M)) ∧ Binds K fd P_Machine_str_ []
theorem d_strH {X : Cx} {C : Cq} {W : WX} {a : Expr} {pos p : Pos} {G : AF} {k : Nat} (h : HasStr X.prog X.w X.K X.mg X.base M) (hr : Room k X.A) (hj : 2 + 2 ≤ k) (hg : Gl X "str") (hm : X.mg "str" = none) (ha : PA X [a] (tDA X.K C W G)) (he : starEach [a] X.env = (false, eval a X.env) :: starEach [] X.env := by rfl)
    (hpl : (backTo pos (starEach [] X.env)).any (·.1) = false := by rfl) : PE X (.Call (.Name "str" p) [a] [] pos) (tD X.K C W (eStrO M (F_Machine_str_ M) G)) := by
  obtain ⟨f, fd, hs, hf, FO, hb⟩ := h
  exact d_strO hs hf FO.fnok (hr.mono hj) hb hg hm ha he hpl
def N__law_take : List Str := ["_law_bag_here", "_law_many", "_law_digit"]
def P__law_take : List Str := ["_law_bag_here", "_law_many"]
theorem sc__law_take : FnScope N__law_take P__law_take (defScope s__law_take) := ⟨rfl, rfl, rfl, by decide +kernel, rfl, by decide +kernel, by decide +kernel⟩
theorem ok__law_take (T : Facts K mg M) (Fu : Fun K "_law_take" "_law_take" s__law_take fa fd) : FnG P w K mg base GT 1 fa fd P__law_take (spD K (F__law_take)) := by
  refine d_def (N := N__law_take) (ps := P__law_take) (G := G__law_take) Fu sc__law_take fun cdv A outer s H E C hr hg => ?_
  have nd := sc__law_take.nd
  have hu := hr.units
  exact (d_cons (d_sif (t_gt (d_ix (d_var (pv 0)) (d_const pe_int fun _ => .int _) (fun _ _ => rfl)) (d_const pe_int fun _ => .int _)) (d_cons (d_asg (d_divmod rfl T.m_divmod (d_acons (d_ix (d_var (pv 0)) (d_const pe_int fun _ => .int _) (fun _ _ => rfl)) (d_acons (d_var (pv 1)) d_anil))) (d_gtup rfl (d_gcons (d_gbag (pg_sub (pv 0) pe_int set_list (fun _ => rfl))) (d_gcons (d_gname (pg_name (i := 2) nd rfl (Or.inl rfl))) d_gnil)))) (d_one (d_ret (d_var (pv 2))))) d_nil) (d_cons (d_asg (d_add (d_ix (d_var (pv 0)) (d_const pe_int fun _ => .int _) (fun _ _ => rfl)) (d_const pe_int fun _ => .int _)) (d_gbag (pg_sub (pv 0) pe_int set_list (fun _ => rfl)))) (d_cons (d_asg (d_mod (d_int rfl T.m_int (d_acons (d_add (d_mul (d_ix (d_var (pv 0)) (d_const pe_int fun _ => .int _) (fun _ _ => rfl)) (d_const pe_int fun _ => .int _)) (d_mul (d_const pe_int fun _ => .int _) (d_ix (d_var (pv 0)) (d_const pe_int fun _ => .int _) (fun _ _ => rfl)))) d_anil)) (d_const pe_int fun _ => .int _)) (d_gbag (pg_sub (pv 0) pe_int set_list (fun _ => rfl)))) (d_one (d_ret (d_mod (d_int rfl T.m_int (d_acons (d_fdiv (d_ix (d_var (pv 0)) (d_const pe_int fun _ => .int _) (fun _ _ => rfl)) (d_const pe_int fun _ => .int _)) d_anil)) (d_var (pv 1))))))))
def N__law_signs : List Str := ["_law_bag_here"]
def P__law_signs : List Str := ["_law_bag_here"]
theorem sc__law_signs : FnScope N__law_signs P__law_signs (defScope s__law_signs) := ⟨rfl, rfl, rfl, by decide +kernel, rfl, by decide +kernel, by decide +kernel⟩
theorem ok__law_signs (T : Facts K mg M) (Fu : Fun K "_law_signs" "_law_signs" s__law_signs fa fd) (H__law_take : Has P w K mg base GT 1 "_law_take" P__law_take (spD K (F__law_take))) : FnG P w K mg base GT 2 fa fd P__law_signs (spD K (F__law_signs)) := by
  refine d_def (N := N__law_signs) (ps := P__law_signs) (G := G__law_signs) Fu sc__law_signs fun cdv A outer s H E C hr hg => ?_
  have nd := sc__law_signs.nd
  have hu := hr.units
  exact (d_one (d_ret (d_ix (d_share (d_lst (d_acons (d_const pe_str fun _ => .str _) (d_acons (d_const pe_str fun _ => .str _) (d_acons (d_const pe_str fun _ => .str _) (d_acons (d_const pe_str fun _ => .str _) (d_acons (d_const pe_str fun _ => .str _) (d_acons (d_const pe_str fun _ => .str _) (d_acons (d_const pe_str fun _ => .str _) (d_acons (d_const pe_str fun _ => .str _) d_anil)))))))))) (d_callH (k := 1) H__law_take hr (by decide) trivial rfl (takes_of rfl rfl rfl rfl) (d_acons (d_var (pv 0)) (d_acons (d_const pe_int fun _ => .int _) d_anil))) (fun _ _ => rfl))))
def N__law_rows : List Str := ["_law_bag_here", "_law_signs_here", "_law_most", "_law_many", "_law_found", "_law_top", "_law_at", "_law_way", "_law_colour", "_law_goals", "_law_sign"]
def P__law_rows : List Str := ["_law_bag_here", "_law_signs_here", "_law_most"]
theorem sc__law_rows : FnScope N__law_rows P__law_rows (defScope s__law_rows) := ⟨rfl, rfl, rfl, by decide +kernel, rfl, by decide +kernel, by decide +kernel⟩
theorem ok__law_rows (T : Facts K mg M) (Fu : Fun K "_law_rows" "_law_rows" s__law_rows fa fd) (H__law_take : Has P w K mg base GT 1 "_law_take" P__law_take (spD K (F__law_take))) : FnG P w K mg base GT 2 fa fd P__law_rows (spD K (F__law_rows)) := by
  refine d_def (N := N__law_rows) (ps := P__law_rows) (G := G__law_rows) Fu sc__law_rows fun cdv A outer s H E C hr hg => ?_
  have nd := sc__law_rows.nd
  have hu := hr.units
  exact (d_cons (d_mid3T (ps_asg (pe_tup (pa_cons (d_add (d_const pe_int fun _ => .int _) (d_callH (k := 1) H__law_take hr (by decide) trivial rfl (takes_of rfl rfl rfl rfl) (d_acons (d_var (pv 0)) (d_acons (d_var (pv 2)) d_anil)))) (pa_cons (d_lst d_anil) (pa_cons (d_in3 fun C => (d_ix (d_share (d_lst (d_acons (d_const pe_int fun _ => .int _) (d_acons (d_const pe_int fun _ => .int _) (d_acons (d_const pe_int fun _ => .int _) (d_acons (d_const pe_int fun _ => .int _) d_anil)))))) (d_callH (k := 1) H__law_take hr (by decide) trivial rfl takes0 (d_acons (d_var (pv 0)) (d_acons (d_const pe_int fun _ => .int _) d_anil))) (fun _ _ => rfl))) pa_nil rfl) rfl) rfl)) (pg_tup rfl (pgs_cons (pg_name (i := 3) nd rfl (Or.inr rfl)) (pgs_cons (pg_name (i := 4) nd rfl (Or.inl rfl)) (pgs_cons (pg_name (i := 5) nd rfl (Or.inl rfl)) pgs_nil rfl) rfl) rfl) rfl rfl) rfl rfl rfl)) (d_cons (d_for (passes_of rfl) rfl (d_irange rfl T.m_range (d_acons (d_var (pv 3)) d_anil)) (d_gname (pg_name (i := 6) nd rfl (Or.inr rfl))) (d_cons (d_asg (d_tup (d_acons (d_callH (k := 1) H__law_take hr (by decide) trivial rfl (takes_of rfl rfl rfl rfl) (d_acons (d_var (pv 0)) (d_acons (d_const pe_int fun _ => .int _) d_anil))) (d_acons (d_callH (k := 1) H__law_take hr (by decide) trivial rfl (takes_of rfl rfl rfl rfl) (d_acons (d_var (pv 0)) (d_acons (d_var (pv 5)) d_anil))) d_anil))) (d_gtup rfl (d_gcons (d_gname (pg_name (i := 7) nd rfl (Or.inr rfl))) (d_gcons (d_gname (pg_name (i := 8) nd rfl (Or.inl rfl))) d_gnil)))) (d_cons (d_own (d_setlc (ctg_name (i := 10) (by decide)) (ps_setLc (i := 9) (own := [("_law_sign", 10)]) rfl nd rfl rfl (sw_true rfl rfl rfl (by decide +kernel)) (d_iany (d_var (pv 1))) (blkOk_by (N := N__law_rows) (sc := defScope s__law_rows) (by decide +kernel)) (fun _ _ _ _ _ => (pg_name (i := 10) nd rfl (Or.inl rfl))) (fun _ _ _ _ _ => d_tsany fun C => d_tsnil) (fun _ _ _ _ _ => d_any fun C => (d_if (t_eq hu (d_var (pv 7)) (d_const pe_int fun _ => .int _)) (d_var (pv 6)) (d_callH (k := 1) H__law_take hr (by decide) trivial rfl takes0 (d_acons (d_var (pv 0)) (d_acons (d_var (pv 3)) d_anil)))))))) (d_cons (d_sif (t_eq hu (d_var (pv 7)) (d_const pe_int fun _ => .int _)) (d_one (d_asg (d_mod (d_int rfl T.m_int (d_acons (d_add (d_var (pv 6)) (d_const pe_int fun _ => .int _)) d_anil)) (d_var (pv 3))) (d_gow (pg_sub (pv 9) pe_int set_list (fun _ => rfl)) ix_const))) d_nil) (d_one (d_freeze (i := 9) (d_push (pv 4) (d_tup (d_acons (d_var (pv 8)) (d_acons (d_tuple rfl T.m_tuple (d_acons (d_var (pv 9)) d_anil)) d_anil)))))))))) (d_one (d_freeze (i := 4) (d_ret (d_tuple rfl T.m_tuple (d_acons (d_var (pv 4)) d_anil)))))))
def N__law_page : List Str := ["_law_signs_here", "_law_rows_here", "_law_lines", "_law_colour", "_law_goals", "_law_goal"]
def P__law_page : List Str := ["_law_signs_here", "_law_rows_here"]
theorem sc__law_page : FnScope N__law_page P__law_page (defScope s__law_page) := ⟨rfl, rfl, rfl, by decide +kernel, rfl, by decide +kernel, by decide +kernel⟩
theorem ok__law_page (T : Facts K mg M) (Fu : Fun K "_law_page" "_law_page" s__law_page fa fd) : FnG P w K mg base GT 1 fa fd P__law_page (spD K (F__law_page)) := by
  refine d_def (N := N__law_page) (ps := P__law_page) (G := G__law_page) Fu sc__law_page fun cdv A outer s H E C hr hg => ?_
  have nd := sc__law_page.nd
  have hu := hr.units
  exact (d_cons (d_own (ps_set (i := 2) nd rfl (Or.inl rfl) (d_lst (d_acons (d_add (d_const pe_str fun _ => .str _) (d_var (pv 0))) d_anil)))) (d_cons (d_for (passes_of rfl) rfl (d_iany (d_var (pv 1))) (d_gtup rfl (d_gcons (d_gname (pg_name (i := 3) nd rfl (Or.inl rfl))) (d_gcons (d_gname (pg_name (i := 4) nd rfl (Or.inl rfl))) d_gnil))) (d_one (d_push (pv 2) (d_bm PySem.F.slot_str_join PySem.F.type_str_join mt_join m_join (d_const pe_str fun _ => .str _) (d_acons (d_add (d_share (d_lst (d_acons (d_const pe_str fun _ => .str _) (d_acons (d_str1 rfl T.m_str (d_acons (d_var (pv 3)) d_anil)) d_anil)))) (d_share (d_lc (ctg_name (i := 5) (by decide)) (pe_lc (own := [("_law_goal", 5)]) rfl nd (d_iany (d_var (pv 4))) (blkOk_by (N := N__law_page) (sc := defScope s__law_page) (by decide +kernel)) (fun _ _ _ _ _ => (pg_name (i := 5) nd rfl (Or.inl rfl))) (fun _ _ _ _ _ => d_tsany fun C => d_tsnil) (fun _ _ _ _ _ => d_any fun C => (d_str1 rfl T.m_str (d_acons (d_var (pv 5)) d_anil))))))) d_anil))))) (d_one (d_freeze (i := 2) (d_ret (d_bm PySem.F.slot_str_join PySem.F.type_str_join mt_join m_join (d_const pe_str fun _ => .str _) (d_acons (d_var (pv 2)) d_anil)))))))
def N_told_letters : List Str := ["row", "words"]
def P_told_letters : List Str := ["row"]
theorem sc_told_letters : FnScope N_told_letters P_told_letters (defScope s_told_letters) := ⟨rfl, rfl, rfl, by decide +kernel, rfl, by decide +kernel, by decide +kernel⟩
theorem ok_told_letters (T : Facts K mg M) (Fu : Fun K "told_letters" "told_letters" s_told_letters fa fd) : FnG P w K mg base GT 1 fa fd P_told_letters (spD K (F_told_letters)) := by
  refine d_def (N := N_told_letters) (ps := P_told_letters) (G := G_told_letters) Fu sc_told_letters fun cdv A outer s H E C hr hg => ?_
  have nd := sc_told_letters.nd
  have hu := hr.units
  exact (d_cons (d_set (ps_set (i := 1) nd rfl (Or.inl rfl) (d_bm PySem.F.slot_str_split PySem.F.type_str_split mt_split m_split (d_var (pv 0)) (d_acons (d_const pe_str fun _ => .str _) d_anil)))) (d_cons (d_sif (PW.pt (d_or (t_ne hu (d_ix (d_var (pv 1)) (d_const pe_int fun _ => .int _) (fun _ _ => rfl)) (d_const pe_str fun _ => .str _)) (pw_or1 (t_ne hu (d_len rfl T.m_len (d_acons (d_var (pv 1)) d_anil)) (d_const pe_int fun _ => .int _))))) (d_one (d_ret (d_const pe_non fun _ => .non))) d_nil) (d_one (d_ret (d_ix (d_var (pv 1)) (d_const pe_int fun _ => .int _) (fun _ _ => rfl))))))
def N_told_state : List Str := ["row", "words", "numbers", "word"]
def P_told_state : List Str := ["row"]
theorem sc_told_state : FnScope N_told_state P_told_state (defScope s_told_state) := ⟨rfl, rfl, rfl, by decide +kernel, rfl, by decide +kernel, by decide +kernel⟩
theorem ok_told_state (T : Facts K mg M) (Fu : Fun K "told_state" "told_state" s_told_state fa fd) : FnG P w K mg base GT 1 fa fd P_told_state (spD K (F_told_state)) := by
  refine d_def (N := N_told_state) (ps := P_told_state) (G := G_told_state) Fu sc_told_state fun cdv A outer s H E C hr hg => ?_
  have nd := sc_told_state.nd
  have hu := hr.units
  exact (d_cons (d_set (ps_set (i := 1) nd rfl (Or.inl rfl) (d_bm PySem.F.slot_str_split PySem.F.type_str_split mt_split m_split (d_var (pv 0)) (d_acons (d_const pe_str fun _ => .str _) d_anil)))) (d_cons (d_sif (PW.pt (d_or (t_ne hu (d_ix (d_var (pv 1)) (d_const pe_int fun _ => .int _) (fun _ _ => rfl)) (d_const pe_str fun _ => .str _)) (pw_or1 (t_lt (d_len rfl T.m_len (d_acons (d_var (pv 1)) d_anil)) (d_const pe_int fun _ => .int _))))) (d_one (d_ret (d_const pe_non fun _ => .non))) d_nil) (d_cons (d_sif (d_not (d_tval (d_all rfl rfl T.m_all (d_acons (d_share (d_lc (ctg_name (i := 3) (by decide)) (pe_lc (own := [("word", 3)]) rfl nd (d_iany (d_slice (d_var (pv 1)) (d_osome (d_const pe_int fun _ => .int _)) d_ono)) (blkOk_by (N := N_told_state) (sc := defScope s_told_state) (by decide +kernel)) (fun _ _ _ _ _ => (pg_name (i := 3) nd rfl (Or.inl rfl))) (fun _ _ _ _ _ => d_tsany fun C => d_tsnil) (fun _ _ _ _ _ => d_any fun C => (d_eand (d_eq hu (d_len rfl T.m_len (d_acons (d_var (pv 3)) d_anil)) (d_const pe_int fun _ => .int _)) (pe_one (d_in (d_var (pv 3)) (d_stre rfl T.m_DIGITS)))))))) d_anil)) (fun _ => rfl))) (d_one (d_ret (d_const pe_non fun _ => .non))) d_nil) (d_cons (d_setF (d_setlc (ctg_name (i := 3) (by decide)) (ps_setLc (i := 2) (own := [("word", 3)]) rfl nd rfl rfl (sw_true rfl rfl rfl (by decide +kernel)) (d_iany (d_slice (d_var (pv 1)) (d_osome (d_const pe_int fun _ => .int _)) d_ono)) (blkOk_by (N := N_told_state) (sc := defScope s_told_state) (by decide +kernel)) (fun _ _ _ _ _ => (pg_name (i := 3) nd rfl (Or.inl rfl))) (fun _ _ _ _ _ => d_tsany fun C => d_tsnil) (fun _ _ _ _ _ => d_any fun C => (d_intT rfl T.m_int (d_acons (d_var (pv 3)) d_anil)))))) (d_one (d_ret (d_tup (d_acons (d_ix (d_var (pv 2)) (d_const pe_int fun _ => .int _) (fun _ _ => rfl)) (d_acons (d_tuple rfl T.m_tuple (d_acons (d_slice (d_var (pv 2)) (d_osome (d_const pe_int fun _ => .int _)) d_ono) d_anil)) d_anil)))))))))
def N_Machine_read : List Str := ["cls", "text", "rows", "letters", "states", "row"]
def P_Machine_read : List Str := ["cls", "text"]
theorem sc_Machine_read : FnScope N_Machine_read P_Machine_read (defScope s_Machine_read) := ⟨rfl, rfl, rfl, by decide +kernel, rfl, by decide +kernel, by decide +kernel⟩
theorem ok_Machine_read (T : Facts K mg M) (Fu : Fun K "read" "Machine.read" s_Machine_read fa fd) (H_told_letters : Has P w K mg base GT 1 "told_letters" P_told_letters (spD K (F_told_letters))) (H_told_state : Has P w K mg base GT 1 "told_state" P_told_state (spD K (F_told_state))) (H_is_letters : Has P w K mg base GT 1 "is_letters" P_is_letters (spD K (F_is_letters M))) (H_first_wrong_state : Has P w K mg base GT 3 "first_wrong_state" P_first_wrong_state (spD K (F_first_wrong_state M))) (H_Machine : HasM P w K mg base M) : FnG P w K mg base GT 6 fa fd P_Machine_read (spD K (F_Machine_read M)) := by
  refine d_def (N := N_Machine_read) (ps := P_Machine_read) (G := G_Machine_read M) Fu sc_Machine_read fun cdv A outer s H E C hr hg => ?_
  have nd := sc_Machine_read.nd
  have hu := hr.units
  exact (d_cons (d_sif (d_not (d_tval (d_isi (.ty _) (fun _ _ h => kit_ty h) (fun A b h => T.own T.k_str h) rfl T.m_isinstance (d_acons (d_var (pv 1)) (d_acons (d_tyn rfl T.m_str (by decide +kernel)) d_anil))) (fun _ => rfl))) (d_one d_never) d_nil) (d_cons (d_set (ps_set (i := 2) nd rfl (Or.inl rfl) (d_bm PySem.F.slot_str_split PySem.F.type_str_split mt_split m_split (d_var (pv 1)) (d_acons (d_const pe_str fun _ => .str _) d_anil)))) (d_cons (d_set (ps_set (i := 3) nd rfl (Or.inl rfl) (d_callH (k := 5) H_told_letters hr (by decide) trivial rfl (takes_of rfl rfl rfl rfl) (d_acons (d_ix (d_var (pv 2)) (d_const pe_int fun _ => .int _) (fun _ _ => rfl)) d_anil)))) (d_cons (d_set (ps_set (i := 4) nd rfl (Or.inl rfl) (d_tuple rfl T.m_tuple (d_acons (d_share (d_lc (ctg_name (i := 5) (by decide)) (pe_lc (own := [("row", 5)]) rfl nd (d_iany (d_slice (d_var (pv 2)) (d_osome (d_const pe_int fun _ => .int _)) d_ono)) (blkOk_by (N := N_Machine_read) (sc := defScope s_Machine_read) (by decide +kernel)) (fun _ _ _ _ _ => (pg_name (i := 5) nd rfl (Or.inl rfl))) (fun _ _ _ _ _ => d_tsany fun C => d_tsnil) (fun _ _ _ _ _ => d_any fun C => (d_callH (k := 5) H_told_state hr (by decide) trivial rfl takes0 (d_acons (d_var (pv 5)) d_anil)))))) d_anil)))) (d_cons (d_sif (PW.pt (d_or (d_not (d_tval (d_callH (k := 5) H_is_letters hr (by decide) trivial rfl (takes_of rfl rfl rfl rfl) (d_acons (d_var (pv 3)) d_anil)) (fun _ => rfl))) (d_or (t_eq hu (d_len rfl T.m_len (d_acons (d_var (pv 4)) d_anil)) (d_const pe_int fun _ => .int _)) (pw_or1 (t_ge (d_callH (k := 5) H_first_wrong_state hr (by decide) trivial rfl (takes_of rfl rfl rfl rfl) (d_acons (d_var (pv 3)) (d_acons (d_var (pv 4)) d_anil))) (d_const pe_int fun _ => .int _)))))) (d_one d_never) d_nil) (d_one (d_ret (d_makeLH (i := 0) H_Machine hr (by decide) rfl (Or.inl rfl) (passes_call (takes_of rfl rfl rfl rfl) fun _ _ _ _ h => h) (d_acons (d_var (pv 3)) (d_acons (d_var (pv 4)) d_anil))))))))))
def HasCM (P : Program) (w : World) (K : PySem.W.Frag) (mg : Str → Option Value) (base : Heap) (M : Addr) : Prop := ∃ p f fd, ClX.CRead K M (.type "type") ∧ ClX.CMet K M (.type "type") "read" p f ∧ FnG P w K mg base GT 6 f fd P_Machine_read (spD K (F_Machine_read M)) ∧ Binds K fd P_Machine_read [] ∧ KBn K fd P_Machine_read 1 (["text"] : List Str) (fun us ws => us ++ pick [0] ws) (fun vs zs => vs ++ pick [0] zs)
theorem d_cmethH {X : Cx} {C : Cq} {E : XK} {o e : Expr} {es : List Expr} {pos apos : Pos} {G : AF} {Fo : EF} {k : Nat} {pl : Sem Bool} (ho : PE X o (tD X.K C (WD E) Fo)) (h : HasCM X.prog X.w X.K X.mg X.base M) (hr : Room k X.A) (hj : 6 ≤ k) (hx : Passes (L2.CX X.prog X.w) X E) (ha : PA X (e :: es) (tDA X.K C (WD E) G))
    (hst : starEach (e :: es) X.env = (false, eval e X.env) :: starEach es X.env := by rfl) (hpl : (backTo pos (starEach es X.env)).any (·.1) = false := by rfl)
    (ht : eval (.Call (.Attribute o "read" apos) (e :: es) [] pos) X.env = (do
      let ov ← eval o X.env
      standAt apos.atName
      let (f, first) ← holding [ov] (getMethod ov "read" pl)
      callWith pos f first (backTo pos (starEach (e :: es) X.env)) (backToKw pos (keywordEach [] X.env))) := by rfl) :
    PE X (.Call (.Attribute o "read" apos) (e :: es) [] pos) (tD X.K C (WD E) (eCM M (F_Machine_read M) Fo G)) := by
  obtain ⟨p, f, fd, r, c, FO, hb, _⟩ := h
  exact d_cmeth ho r c FO hb (hr.mono hj) hx ha hst hpl ht
theorem d_cmethHK {X : Cx} {C : Cq} {E : XK} {o : Expr} {kws : List Keyword} {pos apos : Pos} {G : AF} {Fo : EF} {k : Nat} {pl : Sem Bool} (ho : PE X o (tD X.K C (WD E) Fo)) (h : HasCM X.prog X.w X.K X.mg X.base M) (hr : Room k X.A) (hj : 6 ≤ k) (hx : Passes (L2.CX X.prog X.w) X E) (hkw : PK X kws (tDA X.K C (WD E) G))
    (hall : (backToKw pos (keywordEach kws X.env)).all (·.1.isSome) = true := by rfl) (hks : (backToKw pos (keywordEach kws X.env)).filterMap (·.1) = (["text"] : List Str) := by rfl)
    (hpl : ((backTo pos (starEach [] X.env)).any (·.1) || (backToKw pos (keywordEach kws X.env)).any (·.1.isNone)) = false := by rfl)
    (ht : eval (.Call (.Attribute o "read" apos) [] kws pos) X.env = (do
      let ov ← eval o X.env
      standAt apos.atName
      let (f, first) ← holding [ov] (getMethod ov "read" pl)
      callWith pos f first (backTo pos (starEach [] X.env)) (backToKw pos (keywordEach kws X.env))) := by rfl) :
    PE X (.Call (.Attribute o "read" apos) [] kws pos) (tD X.K C (WD E) (eCMK 1 M (F_Machine_read M) (pick [0]) Fo G)) := by
  obtain ⟨p, f, fd, r, c, FO, _, hb⟩ := h
  exact d_cmethK ho r c FO hb (hr.mono hj) hx (fun _ _ y vs ds rz => ⟨pick [0] vs, rfl, pick_dr rz [0]⟩) hkw hall hks hpl ht
def G__law_right (M : Addr) : SF := (sSeq (sFor (aRng (aCons (eC (.int 3)) aNil)) (gN 1) (sSeq (sAsg (eCall (F__law_signs) (aCons (eV 0) aNil)) (gN 2)) (sSeq (sAsg (eCall (F__law_rows) (aCons (eV 0) (aCons (eV 2) (aCons (eC (.int 6)) aNil)))) (gN 3)) (sSeq (sAsg (eCall (F__law_page) (aCons (eV 2) (aCons (eV 3) aNil))) (gN 4)) (sSeq (sAsg (eLst (aCons (eMake M (Fm_Machine M) (aCons (eV 2) (aCons (eV 3) aNil))) (aCons (eMakeK 2 M (Fm_Machine M) (pick [1, 0]) (aCons (eV 3) (aCons (eV 2) aNil))) (aCons (eCM M (F_Machine_read M) (eC (.obj (.ref M))) (aCons (eV 4) aNil)) (aCons (eCMK 1 M (F_Machine_read M) (pick [0]) (eC (.obj (.ref M))) (aCons (eV 4) aNil)) aNil))))) (gN 5)) (sFor (aAny (e2 addF (eV 5) (eLst (aCons (eCM M (F_Machine_read M) (eC (.obj (.ref M))) (aCons (eStrO M (F_Machine_str_ M) (aCons (eIx (eV 5) (eC (.int 0))) aNil)) aNil)) aNil)))) (gN 6) (sSeq (sAsg (eLst (aCons (e1 (fldF M "_letters") (eV 6)) (aCons (e1 (fldF M "_states") (eV 6)) (aCons (eStrO M (F_Machine_str_ M) (aCons (eV 6) aNil)) (aCons (eLenO M (F_Machine_len_ M) (aCons (eV 6) aNil)) (aCons (eBoolO M (F_Machine_len_ M) (aCons (eV 6) aNil)) aNil)))))) (gN 7)) (sIf (bB (e2 neF (eB reprN (aCons (eV 7) aNil)) (eB reprF (aCons (eLst (aCons (eV 2) (aCons (eV 3) (aCons (eV 4) (aCons (eB lenF (aCons (eV 3) aNil)) (aCons (eC (.bl true)) aNil)))))) aNil)))) (sRet (eC (.bl false))) sNil)))))))) (sRet (eC (.bl true))))
def F__law_right (M : Addr) : DFn := runD 8 1 (G__law_right M)
def N__law_right : List Str := ["_law_bag_here", "_law_turn", "_law_signs_here", "_law_rows_here", "_law_page_here", "_law_made", "_law_mine", "_law_told"]
def P__law_right : List Str := ["_law_bag_here"]
theorem sc__law_right : FnScope N__law_right P__law_right (defScope s__law_right) := ⟨rfl, rfl, rfl, by decide +kernel, rfl, by decide +kernel, by decide +kernel⟩
theorem ok__law_right (T : Facts K mg M) (Fu : Fun K "_law_right" "_law_right" s__law_right fa fd) (H__law_signs : Has P w K mg base GT 2 "_law_signs" P__law_signs (spD K (F__law_signs))) (H__law_rows : Has P w K mg base GT 2 "_law_rows" P__law_rows (spD K (F__law_rows))) (H__law_page : Has P w K mg base GT 1 "_law_page" P__law_page (spD K (F__law_page))) (H_Machine_read : HasCM P w K mg base M) (H_len : HasLen P w K mg base M) (H_Machine : HasM P w K mg base M) (H_MachineK10 : HasMK P w K mg base M ["states", "letters"] [1, 0]) (H_str : HasStr P w K mg base M) (H_nobool : PySem.W.findIn K (.ref M) "__bool__" = some none) : FnG P w K mg base GK 7 fa fd P__law_right (spD K (F__law_right M)) := by
  refine d_def (N := N__law_right) (ps := P__law_right) (G := G__law_right M) Fu sc__law_right fun cdv A outer s H E C hr hg => ?_
  have nd := sc__law_right.nd
  have hu := hr.units
  exact (d_cons (d_for (passes_of rfl) rfl (d_irange rfl T.m_range (d_acons (d_const pe_int fun _ => .int _) d_anil)) (d_gname (pg_name (i := 1) nd rfl (Or.inl rfl))) (d_cons (d_set (ps_set (i := 2) nd rfl (Or.inl rfl) (d_callH (k := 6) H__law_signs hr (by decide) trivial rfl (takes_of rfl rfl rfl rfl) (d_acons (d_var (pv 0)) d_anil)))) (d_cons (d_set (ps_set (i := 3) nd rfl (Or.inl rfl) (d_callH (k := 6) H__law_rows hr (by decide) trivial rfl (takes_of rfl rfl rfl rfl) (d_acons (d_var (pv 0)) (d_acons (d_var (pv 2)) (d_acons (d_const pe_int fun _ => .int _) d_anil)))))) (d_cons (d_set (ps_set (i := 4) nd rfl (Or.inl rfl) (d_callH (k := 6) H__law_page hr (by decide) trivial rfl (takes_of rfl rfl rfl rfl) (d_acons (d_var (pv 2)) (d_acons (d_var (pv 3)) d_anil))))) (d_cons (d_setF (ps_set (i := 5) nd rfl (Or.inl rfl) (d_lst (d_acons (d_makeH H_Machine hr (by decide) rfl T.m_Machine (passes_call (takes_of rfl rfl rfl rfl) fun _ _ _ _ h => h) (d_acons (d_var (pv 2)) (d_acons (d_var (pv 3)) d_anil))) (d_acons (d_makeKH (ks := ["states", "letters"]) (perm := [1, 0]) H_MachineK10 hr (by decide) rfl T.m_Machine (passes_call (takes_of rfl rfl rfl rfl) fun _ _ _ _ h => h) (d_kcons (d_var (pv 3)) (d_kcons (d_var (pv 2)) d_knil))) (d_acons (d_cmethH (k := 6) (d_clsn rfl T.m_Machine) H_Machine_read hr (by decide) (passes_call (takes_of rfl rfl rfl rfl) fun _ _ _ _ h => h) (d_acons (d_var (pv 4)) d_anil)) (d_acons (d_cmethHK (k := 6) (d_clsn rfl T.m_Machine) H_Machine_read hr (by decide) (passes_call (takes_of rfl rfl rfl rfl) fun _ _ _ _ h => h) (d_kcons (d_var (pv 4)) d_knil)) d_anil))))))) (d_one (d_for (passes_of rfl) rfl (d_iany (d_add (d_var (pv 5)) (d_share (d_lst (d_acons (d_cmethH (k := 6) (d_clsn rfl T.m_Machine) H_Machine_read hr (by decide) (passes_call (takes_of rfl rfl rfl rfl) fun _ _ _ _ h => h) (d_acons (d_strH (k := 6) H_str hr (by decide) rfl T.m_str (d_acons (d_ix (d_var (pv 5)) (d_const pe_int fun _ => .int _) (fun _ _ => rfl)) d_anil)) d_anil)) d_anil))))) (d_gname (pg_name (i := 6) nd rfl (Or.inl rfl))) (d_cons (d_setF (ps_set (i := 7) nd rfl (Or.inl rfl) (d_lst (d_acons (d_propG (k := 6) (d_var (pv 6)) T.cM T.g_letters hr (by decide)) (d_acons (d_propG (k := 6) (d_var (pv 6)) T.cM T.g_states hr (by decide)) (d_acons (d_strH (k := 6) H_str hr (by decide) rfl T.m_str (d_acons (d_var (pv 6)) d_anil)) (d_acons (d_lenH (k := 6) H_len hr (by decide) rfl T.m_len (d_acons (d_var (pv 6)) d_anil)) (d_acons (d_boolH (k := 6) H_len H_nobool hr (by decide) rfl T.m_bool (d_acons (d_var (pv 6)) d_anil)) d_anil)))))))) (d_one (d_sif (t_ne hu (d_reprN hg hu rfl T.m_repr (d_acons (d_var (pv 7)) d_anil)) (d_repr hg hu rfl T.m_repr (d_acons (d_share (d_lst (d_acons (d_var (pv 2)) (d_acons (d_var (pv 3)) (d_acons (d_var (pv 4)) (d_acons (d_len rfl T.m_len (d_acons (d_var (pv 3)) d_anil)) (d_acons (d_const pe_bl fun _ => .bl _) d_anil))))))) d_anil))) (d_one (d_ret (d_const pe_bl fun _ => .bl _))) d_nil)))))))))) (d_one (d_ret (d_const pe_bl fun _ => .bl _))))
def G__law_quiet (M : Addr) : SF := (sSeq (sThru (sAsg (eCall (F__law_right M) (aCons (eV 0) aNil)) (gN 1))) (sRet (eV 1)))
def F__law_quiet (M : Addr) : DFn := runD 2 1 (G__law_quiet M)
def N__law_quiet : List Str := ["_law_bag_here", "_law_is_right"]
def P__law_quiet : List Str := ["_law_bag_here"]
theorem sc__law_quiet : FnScope N__law_quiet P__law_quiet (defScope s__law_quiet) := ⟨rfl, rfl, rfl, by decide +kernel, rfl, by decide +kernel, by decide +kernel⟩
theorem ok__law_quiet (T : Facts K mg M) (Fu : Fun K "_law_quiet" "_law_quiet" s__law_quiet fa fd) (H__law_right : Has P w K mg base GK 7 "_law_right" P__law_right (spD K (F__law_right M))) : FnG P w K mg base GK 8 fa fd P__law_quiet (spD K (F__law_quiet M)) := by
  refine d_def (N := N__law_quiet) (ps := P__law_quiet) (G := G__law_quiet M) Fu sc__law_quiet fun cdv A outer s H E C hr hg => ?_
  have nd := sc__law_quiet.nd
  have hu := hr.units
  exact (d_cons (d_thru (d_one (d_set (ps_set (i := 1) nd rfl (Or.inl rfl) (d_callH (k := 7) H__law_right hr (by decide) hg rfl takes0 (d_acons (d_var (pv 0)) d_anil)))))) (d_one (d_ret (d_var (pv 1)))))
def N__law_bag : List Str := ["_law_script", "_law_turn", "_law_figure", "_law_seed", "_law_each"]
def P__law_bag : List Str := ["_law_script", "_law_turn"]
theorem sc__law_bag : FnScope N__law_bag P__law_bag (defScope s__law_bag) := ⟨rfl, rfl, rfl, by decide +kernel, rfl, by decide +kernel, by decide +kernel⟩
theorem ok__law_bag (T : Facts K mg M) (Fu : Fun K "_law_bag" "_law_bag" s__law_bag fa fd) : FnG P w K mg base GT 1 fa fd P__law_bag (spDF K (F__law_bag)) := by
  refine d_defF (N := N__law_bag) (ps := P__law_bag) (G := G__law_bag) Fu sc__law_bag fun cdv A outer s H E C hr hg => ?_
  have nd := sc__law_bag.nd
  have hu := hr.units
  exact (d_cons (d_set (ps_set (i := 2) nd rfl (Or.inl rfl) (d_if (t_lt (d_var (pv 1)) (d_len rfl T.m_len (d_acons (d_var (pv 0)) d_anil))) (d_ix (d_var (pv 0)) (d_var (pv 1)) (fun _ _ => rfl)) (d_add (d_mul (d_const pe_int fun _ => .int _) (d_var (pv 1))) (d_const pe_int fun _ => .int _))))) (d_cons (d_set (ps_set (i := 3) nd rfl (Or.inl rfl) (d_add (d_const pe_int fun _ => .int _) (d_mul (d_const pe_int fun _ => .int _) (d_var (pv 1)))))) (d_cons (d_for (passes_of rfl) rfl (d_iany (d_add (d_share (d_lst (d_acons (d_var (pv 2)) d_anil))) (d_slice (d_var (pv 0)) d_ono (d_osome (d_const pe_int fun _ => .int _))))) (d_gname (pg_name (i := 4) nd rfl (Or.inl rfl))) (d_one (d_set (ps_set (i := 3) nd rfl (Or.inl rfl) (d_mod (d_int rfl T.m_int (d_acons (d_add (d_mul (d_var (pv 3)) (d_const pe_int fun _ => .int _)) (d_var (pv 4))) d_anil)) (d_const pe_int fun _ => .int _)))))) (d_one (d_retO (d_lst (d_acons (d_if (t_ge (d_abs rfl T.m_abs (d_acons (d_var (pv 2)) d_anil)) (d_pow (d_const pe_int fun _ => .int _) (d_const pe_int fun _ => .int _))) (d_abs rfl T.m_abs (d_acons (d_var (pv 2)) d_anil)) (d_const pe_int fun _ => .int _)) (d_acons (d_var (pv 3)) (d_acons (d_const pe_int fun _ => .int _) d_anil)))))))))
def G_law (M : Addr) : SF := (sRet (eB allF (aCons (eLc (aRng (aCons (eB maxF (aCons (eC (.int 2)) (aCons (eB minF (aCons (eB lenF (aCons (eV 0) aNil)) (aCons (eC (.int 5)) aNil))) aNil))) aNil)) [1] (gN 1) bYes (eBag (F__law_quiet M) F__law_bag (aCons (eV 0) (aCons (eV 1) aNil)))) aNil)))
def F_law (M : Addr) : DFn := runD 2 1 (G_law M)
def N_law : List Str := ["_law_script", "_law_turn"]
def P_law : List Str := ["_law_script"]
theorem sc_law : FnScope N_law P_law (defScope s_law) := ⟨rfl, rfl, rfl, by decide +kernel, rfl, by decide +kernel, by decide +kernel⟩
theorem ok_law (T : Facts K mg M) (Fu : Fun K "law" "law" s_law fa fd) (H__law_quiet : Has P w K mg base GK 8 "_law_quiet" P__law_quiet (spD K (F__law_quiet M))) (H__law_bag : Has P w K mg base GT 1 "_law_bag" P__law_bag (spDF K (F__law_bag))) : FnG P w K mg base GK 9 fa fd P_law (spD K (F_law M)) := by
  refine d_def (N := N_law) (ps := P_law) (G := G_law M) Fu sc_law fun cdv A outer s H E C hr hg => ?_
  have nd := sc_law.nd
  have hu := hr.units
  exact (d_one (d_ret (d_all rfl rfl T.m_all (d_acons (d_share (d_lc (ctg_name (i := 1) (by decide)) (pe_lc (own := [("_law_turn", 1)]) rfl nd (d_irange rfl T.m_range (d_acons (d_max2 rfl rfl T.m_max (d_acons (d_const pe_int fun _ => .int _) (d_acons (d_min2 rfl rfl T.m_min (d_acons (d_len rfl T.m_len (d_acons (d_var (pv 0)) d_anil)) (d_acons (d_const pe_int fun _ => .int _) d_anil))) d_anil))) d_anil)) (blkOk_by (N := N_law) (sc := defScope s_law) (by decide +kernel)) (fun _ _ _ _ _ => (pg_name (i := 1) nd rfl (Or.inl rfl))) (fun _ _ _ _ _ => d_tsany fun C => d_tsnil) (fun _ _ _ _ _ => d_any fun C => (d_callHB (k := 8) H__law_quiet H__law_bag hr (by decide) (by decide) hg trivial rfl rfl takes0 (d_acons (d_var (pv 0)) (d_acons (d_var (pv 1)) d_anil))))))) d_anil))))
end
end DL

set_option maxHeartbeats 1000000
namespace DL
open PySem PySem.Spec PyProof.Rows L2
theorem obL_eq {as : List Addr} {fn : List QD} {ex : PySem.W.Frag → Bool} {g : Addr → Option Obj} {s : Shared} (h : ∀ a, g a = s.heap.get? a) : obL as fn ex g = (hookL as fn ex).obs s := by
  have : g = s.heap.get? := funext h
  subst this
  rfl
end DL

set_option maxHeartbeats 0
namespace DL
open PySem PySem.Spec PyProof.Rows L2
theorem isGet_ok {K : PySem.W.Frag} {A : Addr} {f : Str} (h : isGet K A f = true) : PropOf K A f (He.ma K A f) (getA K A f) := by
  unfold isGet at h
  simp only [Bool.and_eq_true, decide_eq_true_eq] at h
  obtain ⟨h1, h2, h3, h4⟩ := h
  refine ⟨He.eqO_ok h1, He.eqO_ok h2, h3, ?_⟩
  unfold getA
  split at h4
  · rename_i g rest e
    rw [e]
    exact ⟨rest, rfl⟩
  · cases h4
theorem isI_ok {K : PySem.W.Frag} {A : Addr} (c : Cls K A) (h : isI K A = true) : ClsI K A := by
  unfold isI at h
  simp only [Bool.and_eq_true, decide_eq_true_eq] at h
  obtain ⟨h1, h2, h3, h4⟩ := h
  exact ⟨c, He.eqO_ok h1, He.eqO_ok h2, h3, h4⟩
theorem isCM_ok {K : PySem.W.Frag} {A : Addr} {m : Str} (h : isCM K A m = true) : ClX.CRead K A (.type "type") ∧ ClX.CMet K A (.type "type") m (He.ma K A m) (cmG K A m) := by
  unfold isCM at h
  simp only [Bool.and_eq_true] at h
  obtain ⟨h1, h2, h3, h4, h5⟩ := h
  refine ⟨⟨h1, He.eqO_ok h2⟩, ?_, ?_, h5⟩
  · split at h3
    · rename_i a b c d e
      obtain ⟨rfl, rfl, rfl, rfl⟩ := of_decide_eq_true h3
      exact e
    · cases h3
  · unfold cmG
    split at h4
    · rename_i g rest e
      rw [e]
      exact ⟨rest, rfl⟩
    · cases h4
theorem pick_vals {vs : List V} {us : List Value} (h : Vals vs us) : ∀ perm : List Nat, Vals (pick perm vs) (pick perm us)
  | [] => .nil
  | i :: perm => by
    unfold pick
    rw [List.filterMap_cons, List.filterMap_cons]
    cases hd : vs[i]? with
    | none =>
      have : us[i]? = none := by
        rw [List.getElem?_eq_none_iff] at hd ⊢
        rw [← h.length]; exact hd
      rw [this]
      exact pick_vals h perm
    | some d =>
      obtain ⟨v, hv, r⟩ := h.get hd
      rw [hv]
      exact .cons r (pick_vals h perm)
section
variable {P : Program} {w : World} {K : PySem.W.Frag} {mg : Str → Option Value} {h : Heap}
theorem getter_of {A : Addr} {pr fl : Str} {st : Stmt} {fd : FuncData} {p1 p2 p3 : Pos} (c : Cls K A) (n : NoAttr K A fl) (hp : isGet K A pr = true) (Fu : Fun K pr q st (getA K A pr) fd) (Sc : FnScope ["self"] ["self"] (defScope st)) (hb : defBody st = [.Return (some (.Attribute (.Name "self" p1) fl p2)) p3])
    (hbind : ∀ (kV doc pm : Value) (an : Option Addr) (cdv ct : Value) (us : List Value), us.length = (["self"] : List Str).length → bindArgs (PySem.W.fnOf pr q (defArgs st) (defBody st) (defScope st) .none kV doc pm an cdv ct) ⟨us, []⟩ = pure ((["self"] : List Str).zip us)) : Getter K A pr fl := by
  refine ⟨_, _, fd, isGet_ok hp, fun P w mg base => ?_, Fu.binds hbind⟩
  obtain ⟨oc, od, kV, doc, pm, an, cdv, ct, osl, rfl, lk, hc⟩ := Fu.ex
  exact fn_getter lk hc Sc rfl hb c n
end

theorem facts_of {K : PySem.W.Frag} {mg : Str → Option Value} {h : Heap} (X : K.In h) (G : h.Ns mainGlobals mg) (c : obK fns exK K = vaK fns) : Facts K mg (He.ga K "Machine") := by
  have e := ex_of c
  unfold exK at e
  simp only [Bool.and_eq_true] at e
  obtain ⟨e1, e2, e3, e4, eC, eB, e5⟩ := e
  have fa : ∀ (i : Nat) {f : He.Fa}, exL[i]? = some f → f.ok K = true := fun i f hi => List.all_eq_true.mp e1 f (List.mem_of_getElem? hi)
  unfold isK at e5
  simp only [Bool.and_eq_true, List.all_eq_true, decide_eq_true_eq] at e5
  obtain ⟨k1, k2, k3⟩ := e5
  have cM : Cls K (He.ga K "Machine") := He.cls_ok (fa 38 rfl)
  have nl : NoAttr K (He.ga K "Machine") "_letters" := He.noat_ok (fa 39 rfl)
  have ns : NoAttr K (He.ga K "Machine") "_states" := He.noat_ok (fa 40 rfl)
  obtain ⟨f_letters, F_letters⟩ := fun_of c 19 rfl
  obtain ⟨f_states, F_states⟩ := fun_of c 20 rfl
  exact ⟨He.free_ok X G (fa 0 rfl), He.free_ok X G (fa 1 rfl), He.free_ok X G (fa 2 rfl), He.free_ok X G (fa 3 rfl), He.free_ok X G (fa 4 rfl), He.free_ok X G (fa 5 rfl), He.free_ok X G (fa 6 rfl), He.free_ok X G (fa 7 rfl), He.free_ok X G (fa 8 rfl), He.free_ok X G (fa 9 rfl), He.free_ok X G (fa 10 rfl), He.free_ok X G (fa 11 rfl), He.free_ok X G (fa 12 rfl), He.free_ok X G (fa 13 rfl), He.free_ok X G (fa 14 rfl), He.int_ok X G (fa 15 rfl), He.int_ok X G (fa 16 rfl), He.int_ok X G (fa 17 rfl), He.str_ok X G (fa 18 rfl), He.str_ok X G (fa 19 rfl), He.glo_ok X G (fa 20 rfl), cM, isI_ok cM e4, nl, ns, getter_of cM nl e2 F_letters ⟨rfl, rfl, rfl, by decide +kernel, rfl, by decide +kernel, by decide +kernel⟩ rfl (fun _ _ _ _ _ _ us hl => match us, hl with | [_], _ => rfl), getter_of cM ns e3 F_states ⟨rfl, rfl, rfl, by decide +kernel, rfl, by decide +kernel, by decide +kernel⟩ rfl (fun _ _ _ _ _ _ us hl => match us, hl with | [_], _ => rfl), k1 _ (by decide), k1 _ (by decide), k1 _ (by decide), k1 _ (by decide), k2, fun n hn => k3 n (by
    unfold DL.kitM at hn
    split at hn
    · rename_i hh
      unfold kinds
      rcases hh with rfl | rfl | rfl | rfl | rfl | rfl <;> decide
    · cases hn)⟩
section
variable {P : Program} {w : World} {K : PySem.W.Frag} {mg : Str → Option Value} {h base : Heap}
theorem ok_all (X : K.In h) (G : h.Ns mainGlobals mg) (c : obK fns exK K = vaK fns) : ∃ fd, (∀ (s : Shared) (u : Value), BindsTo s fd ⟨[u], []⟩ [("_law_script", u)]) ∧ ∀ (P : Program) (w : World) (base : Heap), FnG P w K mg base GK 9 (He.ga K "law") fd P_law (spD K (F_law (He.ga K "Machine"))) := by
  have T := facts_of X G c
  have e := ex_of c
  unfold exK at e
  simp only [Bool.and_eq_true] at e
  obtain ⟨e1, e2, e3, e4, eC, eB, e5⟩ := e
  have fa : ∀ (i : Nat) {f : He.Fa}, exL[i]? = some f → f.ok K = true := fun i f hi => List.all_eq_true.mp e1 f (List.mem_of_getElem? hi)
  obtain ⟨d_is_letters, U_is_letters⟩ := fun_of c 0 rfl
  obtain ⟨d_is_number, U_is_number⟩ := fun_of c 1 rfl
  obtain ⟨d_is_state, U_is_state⟩ := fun_of c 2 rfl
  obtain ⟨d_first_wrong_state, U_first_wrong_state⟩ := fun_of c 3 rfl
  obtain ⟨d_Machine_len_, U_Machine_len_⟩ := fun_of c 4 rfl
  obtain ⟨d_state_row, U_state_row⟩ := fun_of c 5 rfl
  obtain ⟨d_Machine_str_, U_Machine_str_⟩ := fun_of c 6 rfl
  obtain ⟨d__law_take, U__law_take⟩ := fun_of c 7 rfl
  obtain ⟨d__law_signs, U__law_signs⟩ := fun_of c 8 rfl
  obtain ⟨d__law_rows, U__law_rows⟩ := fun_of c 9 rfl
  obtain ⟨d__law_page, U__law_page⟩ := fun_of c 10 rfl
  obtain ⟨d_told_letters, U_told_letters⟩ := fun_of c 11 rfl
  obtain ⟨d_told_state, U_told_state⟩ := fun_of c 12 rfl
  obtain ⟨d_Machine_read, U_Machine_read⟩ := fun_of c 13 rfl
  obtain ⟨d__law_right, U__law_right⟩ := fun_of c 14 rfl
  obtain ⟨d__law_quiet, U__law_quiet⟩ := fun_of c 15 rfl
  obtain ⟨d__law_bag, U__law_bag⟩ := fun_of c 16 rfl
  obtain ⟨d_law, U_law⟩ := fun_of c 17 rfl
  obtain ⟨d_init, U_init⟩ := fun_of c 18 rfl
  refine ⟨d_law, ?_, fun P w base => ?_⟩
  · intro s u
    obtain ⟨oc, od, kV, doc, pm, an, cdv, ct, osl, hfd, lk, hc⟩ := U_law.ex
    rw [hfd]
    exact BindsTo.of_eq rfl
  · have H_nobool : PySem.W.findIn K (.ref (He.ga K "Machine")) "__bool__" = some none := He.eqO_ok eB
    have H_is_letters : Has P w K mg base GT 1 "is_letters" P_is_letters (spD K (F_is_letters (He.ga K "Machine"))) := ⟨_, _, ok_is_letters T U_is_letters, He.glo_ok X G (fa 21 rfl), U_is_letters.kp, U_is_letters.binds (fun _ _ _ _ _ _ us hl => match us, hl with | [_], _ => rfl)⟩
    have H_is_number : Has P w K mg base GT 1 "is_number" P_is_number (spD K (F_is_number (He.ga K "Machine"))) := ⟨_, _, ok_is_number T U_is_number, He.glo_ok X G (fa 22 rfl), U_is_number.kp, U_is_number.binds (fun _ _ _ _ _ _ us hl => match us, hl with | [_, _], _ => rfl)⟩
    have H_is_state : Has P w K mg base GT 2 "is_state" P_is_state (spD K (F_is_state (He.ga K "Machine"))) := ⟨_, _, ok_is_state T U_is_state H_is_number, He.glo_ok X G (fa 23 rfl), U_is_state.kp, U_is_state.binds (fun _ _ _ _ _ _ us hl => match us, hl with | [_, _, _], _ => rfl)⟩
    have H_first_wrong_state : Has P w K mg base GT 3 "first_wrong_state" P_first_wrong_state (spD K (F_first_wrong_state (He.ga K "Machine"))) := ⟨_, _, ok_first_wrong_state T U_first_wrong_state H_is_state, He.glo_ok X G (fa 24 rfl), U_first_wrong_state.kp, U_first_wrong_state.binds (fun _ _ _ _ _ _ us hl => match us, hl with | [_, _], _ => rfl)⟩
    have H_MachineK10 : HasMK P w K mg base (He.ga K "Machine") ["states", "letters"] [1, 0] := by
      refine ⟨_, _, He.mkr_ok (fa 41 rfl), ok_Machine_init T U_init H_first_wrong_state H_is_letters, ⟨fun s us ws _ h1 h2 => ?_, fun r rz => r.append (pick_vals rz [1, 0])⟩⟩
      obtain ⟨oc, od, kV, doc, pm, an, cdv, ct, osl, hfd, lk, hc⟩ := U_init.ex
      rw [hfd]
      match us, ws, h1, h2 with
      | [_], [_, _], _, _ => exact BindsTo.of_eq rfl
    have H_Machine : HasM P w K mg base (He.ga K "Machine") := ⟨_, _, He.mkr_ok (fa 41 rfl), ok_Machine_init T U_init H_first_wrong_state H_is_letters, U_init.binds (fun _ _ _ _ _ _ us hl => match us, hl with | [_, _, _], _ => rfl)⟩
    have H_len : HasLen P w K mg base (He.ga K "Machine") := ⟨_, _, (He.meth_ok (fa 36 rfl)).at_, (He.meth_ok (fa 36 rfl)).fn, ok_Machine_len_ T U_Machine_len_, U_Machine_len_.binds (fun _ _ _ _ _ _ us hl => match us, hl with | [_], _ => rfl)⟩
    have H_state_row : Has P w K mg base GT 1 "state_row" P_state_row (spD K (F_state_row)) := ⟨_, _, ok_state_row T U_state_row, He.glo_ok X G (fa 25 rfl), U_state_row.kp, U_state_row.binds (fun _ _ _ _ _ _ us hl => match us, hl with | [_], _ => rfl)⟩
    have H_str : HasStr P w K mg base (He.ga K "Machine") := ⟨_, _, (He.meth_ok (fa 37 rfl)).at_, (He.meth_ok (fa 37 rfl)).fn, ok_Machine_str_ T U_Machine_str_ H_state_row, U_Machine_str_.binds (fun _ _ _ _ _ _ us hl => match us, hl with | [_], _ => rfl)⟩
    have H__law_take : Has P w K mg base GT 1 "_law_take" P__law_take (spD K (F__law_take)) := ⟨_, _, ok__law_take T U__law_take, He.glo_ok X G (fa 26 rfl), U__law_take.kp, U__law_take.binds (fun _ _ _ _ _ _ us hl => match us, hl with | [_, _], _ => rfl)⟩
    have H__law_signs : Has P w K mg base GT 2 "_law_signs" P__law_signs (spD K (F__law_signs)) := ⟨_, _, ok__law_signs T U__law_signs H__law_take, He.glo_ok X G (fa 27 rfl), U__law_signs.kp, U__law_signs.binds (fun _ _ _ _ _ _ us hl => match us, hl with | [_], _ => rfl)⟩
    have H__law_rows : Has P w K mg base GT 2 "_law_rows" P__law_rows (spD K (F__law_rows)) := ⟨_, _, ok__law_rows T U__law_rows H__law_take, He.glo_ok X G (fa 28 rfl), U__law_rows.kp, U__law_rows.binds (fun _ _ _ _ _ _ us hl => match us, hl with | [_, _, _], _ => rfl)⟩
    have H__law_page : Has P w K mg base GT 1 "_law_page" P__law_page (spD K (F__law_page)) := ⟨_, _, ok__law_page T U__law_page, He.glo_ok X G (fa 29 rfl), U__law_page.kp, U__law_page.binds (fun _ _ _ _ _ _ us hl => match us, hl with | [_, _], _ => rfl)⟩
    have H_told_letters : Has P w K mg base GT 1 "told_letters" P_told_letters (spD K (F_told_letters)) := ⟨_, _, ok_told_letters T U_told_letters, He.glo_ok X G (fa 30 rfl), U_told_letters.kp, U_told_letters.binds (fun _ _ _ _ _ _ us hl => match us, hl with | [_], _ => rfl)⟩
    have H_told_state : Has P w K mg base GT 1 "told_state" P_told_state (spD K (F_told_state)) := ⟨_, _, ok_told_state T U_told_state, He.glo_ok X G (fa 31 rfl), U_told_state.kp, U_told_state.binds (fun _ _ _ _ _ _ us hl => match us, hl with | [_], _ => rfl)⟩
    have H_Machine_read : HasCM P w K mg base (He.ga K "Machine") := by
      refine ⟨_, _, _, (isCM_ok eC).1, (isCM_ok eC).2, ok_Machine_read T U_Machine_read H_told_letters H_told_state H_is_letters H_first_wrong_state H_Machine, U_Machine_read.binds (fun _ _ _ _ _ _ us hl => match us, hl with | [_, _], _ => rfl), ⟨fun s us ws _ h1 h2 => ?_, fun r rz => r.append (pick_vals rz [0])⟩⟩
      obtain ⟨oc, od, kV, doc, pm, an, cdv, ct, osl, hfd, lk, hc⟩ := U_Machine_read.ex
      rw [hfd]
      match us, ws, h1, h2 with
      | [_], [_], _, _ => exact BindsTo.of_eq rfl
    have H__law_right : Has P w K mg base GK 7 "_law_right" P__law_right (spD K (F__law_right (He.ga K "Machine"))) := ⟨_, _, ok__law_right T U__law_right H__law_signs H__law_rows H__law_page H_Machine_read H_len H_Machine H_MachineK10 H_str H_nobool, He.glo_ok X G (fa 32 rfl), U__law_right.kp, U__law_right.binds (fun _ _ _ _ _ _ us hl => match us, hl with | [_], _ => rfl)⟩
    have H__law_quiet : Has P w K mg base GK 8 "_law_quiet" P__law_quiet (spD K (F__law_quiet (He.ga K "Machine"))) := ⟨_, _, ok__law_quiet T U__law_quiet H__law_right, He.glo_ok X G (fa 33 rfl), U__law_quiet.kp, U__law_quiet.binds (fun _ _ _ _ _ _ us hl => match us, hl with | [_], _ => rfl)⟩
    have H__law_bag : Has P w K mg base GT 1 "_law_bag" P__law_bag (spDF K (F__law_bag)) := ⟨_, _, ok__law_bag T U__law_bag, He.glo_ok X G (fa 34 rfl), U__law_bag.kp, U__law_bag.binds (fun _ _ _ _ _ _ us hl => match us, hl with | [_, _], _ => rfl)⟩
    exact ok_law T U_law H__law_quiet H__law_bag
end
theorem glo_law {K : PySem.W.Frag} (c : obK fns exK K = vaK fns) : (He.Fa.glo "law").ok K = true := by
  have e := ex_of c
  unfold exK at e
  simp only [Bool.and_eq_true] at e
  exact List.all_eq_true.mp e.1 _ (List.mem_of_getElem? (i := 35) rfl)
theorem ob_eq (s : PySem.W.SharedT) : ob s = hk.obs s.abs := obL_eq (HandSHeadRun.getT_eq s)
end DL

set_option maxHeartbeats 1000000
namespace DL
open PySem PySem.Spec PyProof.Rows L2
theorem loop_ind {g : GF} {B : SF} (I : Nat → Env → Bag → Prop) : ∀ (ds : List D) (n : Nat) (h : ∀ i d, ds[i]? = some d → ∀ ρ b, I (n + i) ρ b → ∃ z ρ2 b2, g d ρ b = some z ∧ B z.1 z.2 = .nx ρ2 b2 ∧ I (n + i + 1) ρ2 b2) (ρ : Env) (b : Bag), I n ρ b →
    ∃ ρ' b', loopD g B ds ρ b = .nx ρ' b' ∧ I (n + ds.length) ρ' b'
  | [], n, _, ρ, b, hI => ⟨ρ, b, rfl, hI⟩
  | d :: ds, n, h, ρ, b, hI => by
    obtain ⟨z, ρ2, b2, h1, h2, h3⟩ := h 0 d rfl ρ b hI
    obtain ⟨ρ', b', h4, h5⟩ := loop_ind I ds (n + 1) (fun i d hd ρ b hI => by
      have := h (i + 1) d (by simpa using hd) ρ b (by rw [show n + (i + 1) = n + 1 + i by omega]; exact hI)
      rw [show n + (i + 1) + 1 = n + 1 + i + 1 by omega] at this
      exact this) ρ2 b2 h3
    refine ⟨ρ', b', ?_, by rw [List.length_cons, show n + (ds.length + 1) = n + 1 + ds.length by omega]; exact h5⟩
    unfold loopD
    rw [h1]
    dsimp only
    rw [h2]
    exact h4
theorem lc_some {i : Nat} {F : EF} (Pr : D → Prop) : ∀ (ds : List D) (ρ : Env) (b : Bag), (∀ d ∈ ds, ∀ b, ∃ y b', F (ρ.set i (some (.sh d))) b = .ok y b' ∧ Pr y) → ∃ ys b', lcD (gN i) bYes F ds ρ b = .ok ys b' ∧ ys.length = ds.length ∧ ∀ y ∈ ys, Pr y
  | [], ρ, b, _ => ⟨[], b, rfl, rfl, fun _ h => by cases h⟩
  | d :: ds, ρ, b, h => by
    obtain ⟨y, b1, h1, h2⟩ := h d List.mem_cons_self b
    obtain ⟨ys, b2, h3, h4, h5⟩ := lc_some Pr ds ρ b1 fun d hd => h d (List.mem_cons_of_mem _ hd)
    refine ⟨y :: ys, b2, ?_, by simp [h4], fun z hz => ?_⟩
    · simp [lcD, h1, h3]
    · rcases List.mem_cons.mp hz with rfl | hz
      · exact h2
      · exact h5 z hz
theorem lc_map {g : GF} {F : EF} {f : D → D} : ∀ (ds : List D) (ρ : Env) (b : Bag), (∀ d ∈ ds, ∃ ρ', g d ρ b = some (ρ', b) ∧ F ρ' b = .ok (f d) b) → lcD g bYes F ds ρ b = .ok (ds.map f) b
  | [], ρ, b, _ => rfl
  | d :: ds, ρ, b, h => by
    obtain ⟨ρ', h0, h1⟩ := h d List.mem_cons_self
    have h3 := lc_map ds ρ b fun d hd => h d (List.mem_cons_of_mem _ hd)
    simp [lcD, h0, h1, h3]
theorem truths_all : ∀ (ks : List D), (∀ k ∈ ks, k = .bl true) → ∃ bs, truths ks = some bs ∧ bs.all id = true
  | [], _ => ⟨[], rfl, rfl⟩
  | k :: ks, h => by
    obtain ⟨bs, h1, h2⟩ := truths_all ks fun k hk => h k (List.mem_cons_of_mem _ hk)
    have := h k List.mem_cons_self
    subst this
    exact ⟨true :: bs, by simp [truths, h1], by simpa using h2⟩
theorem allF_true {ks : List D} (h : ∀ k ∈ ks, k = .bl true) : allF [.lst ks] = some (.bl true) := by
  obtain ⟨bs, h1, h2⟩ := truths_all ks h
  simp only [allF, h1, Option.map_some, h2]
theorem take_ok (b : Bag) {m : Int} (h1 : 1 ≤ m) (h2 : m < 1073741824) : ∃ d b', F__law_take [.bag, .int m] b = .ok (.int d) b' ∧ 0 ≤ d ∧ d < m := by
  unfold F__law_take G__law_take
  have hm0 : 0 < m := by omega
  by_cases hx : 0 < b.x
  · refine ⟨b.x % m, ⟨b.x / m, b.y, b.z⟩, ?_, Int.emod_nonneg _ (by omega), Int.emod_lt_of_pos _ hm0⟩
    simp [hx, hm0, h2]
  · refine ⟨((b.y * 40099 + 22003 * (b.z + 1)) % 2147483489 / 1024) % m, ⟨b.x, (b.y * 40099 + 22003 * (b.z + 1)) % 2147483489, b.z + 1⟩, ?_, Int.emod_nonneg _ (by omega), Int.emod_lt_of_pos _ hm0⟩
    simp [hx, hm0, h2]
def sgs : List Str := ["ab", "a", "abc", "xz", "q", "mno", "hy", "bz", "kmx", "b", "cx", "yz", "xyz"]
theorem signs_ok (b : Bag) : ∃ x b', F__law_signs [.bag] b = .ok (.str x) b' ∧ x ∈ sgs := by
  obtain ⟨d, b', h, h0, h1⟩ := take_ok b (m := 8) (by decide) (by decide)
  have hd : d = 0 ∨ d = 1 ∨ d = 2 ∨ d = 3 ∨ d = 4 ∨ d = 5 ∨ d = 6 ∨ d = 7 := by omega
  unfold F__law_signs G__law_signs
  rcases hd with rfl | rfl | rfl | rfl | rfl | rfl | rfl | rfl
  · exact ⟨"ab", b', by simp [h], by decide⟩
  · exact ⟨"a", b', by simp [h], by decide⟩
  · exact ⟨"abc", b', by simp [h], by decide⟩
  · exact ⟨"xz", b', by simp [h], by decide⟩
  · exact ⟨"q", b', by simp [h], by decide⟩
  · exact ⟨"mno", b', by simp [h], by decide⟩
  · exact ⟨"ab", b', by simp [h], by decide⟩
  · exact ⟨"hy", b', by simp [h], by decide⟩
theorem sg_len {x : Str} (h : x ∈ sgs) : 1 ≤ x.length ∧ x.length ≤ 3 := by
  have : ∀ x ∈ sgs, 1 ≤ x.length ∧ x.length ≤ 3 := by decide +kernel
  exact this x h
theorem letters_ok (M : Addr) (b : Bag) {x : Str} (h : x ∈ sgs) : F_is_letters M [.str x] b = .ok (.bl true) b := by
  simp only [sgs, List.mem_cons, List.not_mem_nil, or_false] at h
  rcases h with rfl | rfl | rfl | rfl | rfl | rfl | rfl | rfl | rfl | rfl | rfl | rfl | rfl <;> kernel_rfl
abbrev Row := Int × List Int
def rowD (r : Row) : D := .tup [.int r.1, .tup (r.2.map D.int)]
def rowsD (rs : List Row) : D := .tup (rs.map rowD)
structure RowOk (k n : Nat) (r : Row) : Prop where
  c0 : 0 ≤ r.1
  c1 : r.1 ≤ 6
  len : r.2.length = k
  go : ∀ g ∈ r.2, 0 ≤ g ∧ g < n
structure RowsOk (k : Nat) (rs : List Row) : Prop where
  n0 : 1 ≤ rs.length
  n1 : rs.length ≤ 6
  ok : ∀ r ∈ rs, RowOk k rs.length r
theorem isi_int (M : Addr) (i : Int) : isiF (.ty "int") (fun n => kitB n "int") (ownB M) [.int i, .obj (.ty "int")] = some (.bl true) := by kernel_rfl
theorem isi_bool (M : Addr) (i : Int) : isiF (.ty "bool") (fun n => kitB n "bool") (ownB M) [.int i, .obj (.ty "bool")] = some (.bl false) := by kernel_rfl
theorem isi_str (M : Addr) (x : Str) : isiF (.ty "str") (fun n => kitB n "str") (ownB M) [.str x, .obj (.ty "str")] = some (.bl true) := by kernel_rfl
theorem number_ok (M : Addr) (b : Bag) {i m : Int} (h0 : 0 ≤ i) (h1 : i ≤ m) : F_is_number M [.int i, .int m] b = .ok (.bl true) b := by
  unfold F_is_number G_is_number
  simp [isi_int, isi_bool, h0, h1]
theorem state_ok (M : Addr) (b : Bag) {k n : Nat} {r : Row} (hr : RowOk k n r) (hk : k ≤ 100000) : F_is_state M [rowD r, .int k, .int n] b = .ok (.bl true) b := by
  unfold F_is_state G_is_state rowD
  have hl : r.2.length ≤ 100000 := by rw [hr.len]; exact hk
  have hm : lcD (gN 5) bYes (eCall (F_is_number M) (aCons (eV 5) (aCons (e2 subF (eV 2) (eC (.int 1))) aNil))) (r.2.map D.int) [some (.sh (rowD r)), some (.sh (.int k)), some (.sh (.int n)), some (.sh (.int r.1)), some (.sh (.tup (r.2.map D.int))), none] b = .ok ((r.2.map D.int).map fun _ => .bl true) b := lc_map _ _ _ fun d hd => by
    obtain ⟨g, hg, rfl⟩ := List.mem_map.mp hd
    obtain ⟨g0, g1⟩ := hr.go g hg
    refine ⟨_, rfl, ?_⟩
    simp [number_ok M b g0 (show g ≤ (n : Int) - 1 by omega)]
  have h6 := number_ok M b (i := r.1) (m := 6) hr.c0 hr.c1
  have ha := allF_true (ks := (r.2.map D.int).map fun _ => .bl true) (fun q hq => by
    obtain ⟨_, _, rfl⟩ := List.mem_map.mp hq
    rfl)
  unfold rowD at hm
  simp only [List.map_map] at hm ha
  simp [isi_tup, h6, hr.len, hk, hm, ha]
theorem enum_get {ds : List D} {i : Nat} {d : D} (h : (enumOf ds)[i]? = some d) : ∃ e, ds[i]? = some e ∧ d = .tup [.int i, e] := by
  unfold enumOf at h
  have hl : i < ds.length := by
    have := (List.getElem?_eq_some_iff.mp h).1
    simpa using this
  rw [List.getElem?_zipWith, List.getElem?_eq_getElem hl, List.getElem?_range hl] at h
  refine ⟨ds[i], List.getElem?_eq_getElem hl, ?_⟩
  exact (Option.some.inj h).symm
theorem wrong_ok (M : Addr) (b : Bag) {x : Str} {rs : List Row} (hx : x ∈ sgs) (hr : RowsOk x.length rs) : F_first_wrong_state M [.str x, rowsD rs] b = .ok (.int (-1)) b := by
  unfold F_first_wrong_state G_first_wrong_state
  obtain ⟨l1, l2⟩ := sg_len hx
  have hl : x.length ≤ 100000 := by omega
  have h6 : ¬ 6 < rs.length := by have := hr.n1; omega
  obtain ⟨ρ', b', e1, s2, s3, e2, e3⟩ := loop_ind (g := gT 2 (gsC (gN 2) (gsC (gN 3) gsN))) (B := (sIf (bOr (bB (e2 eqF (eV 2) (eC (.int 6)))) (bNot (bB (eCall (F_is_state M) (aCons (eV 3) (aCons (eB lenF (aCons (eV 0) aNil)) (aCons (eB lenF (aCons (eV 1) aNil)) aNil))))))) (sRet (eV 2)) sNil))
    (fun _ ρ b' => ∃ s2 s3, ρ = [some (.sh (.str x)), some (.sh (rowsD rs)), s2, s3] ∧ b' = b) (enumOf (rs.map rowD)) 0 (fun i d hd ρ b' ⟨s2, s3, h1, h2⟩ => by
      subst h1 h2
      obtain ⟨e, he, rfl⟩ := enum_get hd
      rw [List.getElem?_map, Option.map_eq_some_iff] at he
      obtain ⟨r, hr1, rfl⟩ := he
      have hi : i < rs.length := (List.getElem?_eq_some_iff.mp hr1).1
      have hn6 : ¬ ((i : Int) = 6) := by have := hr.n1; omega
      have hs := state_ok M b' (hr.ok r (List.mem_of_getElem? hr1)) (by omega)
      refine ⟨([some (.sh (.str x)), some (.sh (rowsD rs)), some (.sh (.int i)), some (.sh (rowD r))], b'), [some (.sh (.str x)), some (.sh (rowsD rs)), some (.sh (.int i)), some (.sh (rowD r))], b', by simp, ?_, some (.sh (.int i)), some (.sh (rowD r)), rfl, rfl⟩
      unfold rowsD
      simp [hn6, hl, hs]) [some (.sh (.str x)), some (.sh (rowsD rs)), none, none] b ⟨none, none, rfl, rfl⟩
  subst e2 e3
  unfold rowsD at e1 ⊢
  simp [sFor, aEnumT, e1]
theorem make_ok (M : Addr) (b : Bag) {x : Str} {rs : List Row} (hx : x ∈ sgs) (hr : RowsOk x.length rs) : Fm_Machine M [.str x, rowsD rs] b = .ok (["_letters", "_states"], [.str x, rowsD rs]) b := by
  have h1 := letters_ok M b hx
  have h2 := wrong_ok M b hx hr
  have h0 : ¬ rs = [] := by
    intro h
    have := hr.n0
    rw [h] at this
    simp at this
  unfold rowsD at h2 ⊢
  simp [Fm_Machine, h1, h2, h0]
def machD (M : Addr) (x : Str) (rs : List Row) : D := .ins M ["_letters", "_states"] [.str x, rowsD rs]
end DL

set_option maxHeartbeats 1000000
namespace DL
open PySem PySem.Spec PyProof.Rows L2
def bRows : SF := (sSeq (sAsg (eTup (aCons (eCall (F__law_take) (aCons (eV 0) (aCons (eC (.int 5)) aNil))) (aCons (eCall (F__law_take) (aCons (eV 0) (aCons (eV 5) aNil))) aNil))) (gT 2 (gsC (gN 7) (gsC (gN 8) gsN)))) (sSeq (sOwn (eLc (aAny (eV 1)) [10] (gN 10) bYes (eIf (bB (e2 eqF (eV 7) (eC (.int 0)))) (eV 6) (eCall (F__law_take) (aCons (eV 0) (aCons (eV 3) aNil))))) 9) (sSeq (sIf (bB (e2 eqF (eV 7) (eC (.int 1)))) (sAsg (e2 modF (eB intF (aCons (e2 addF (eV 6) (eC (.int 1))) aNil)) (eV 3)) (gOw 9 fun _ => some 0)) sNil) (sFreeze 9 (sPush 4 (eTup (aCons (eV 8) (aCons (eB tupleF (aCons (eV 9) aNil)) aNil))))))))
theorem ints_of {P : Int → Prop} : ∀ (ys : List D), (∀ y ∈ ys, ∃ g, y = .int g ∧ P g) → ∃ gs : List Int, ys = gs.map D.int ∧ ∀ g ∈ gs, P g
  | [], _ => ⟨[], rfl, fun _ h => by cases h⟩
  | y :: ys, h => by
    obtain ⟨g, rfl, hg⟩ := h y List.mem_cons_self
    obtain ⟨gs, rfl, hgs⟩ := ints_of ys fun y hy => h y (List.mem_cons_of_mem _ hy)
    exact ⟨g :: gs, rfl, fun z hz => by
      rcases List.mem_cons.mp hz with rfl | hz
      · exact hg
      · exact hgs z hz⟩
theorem ixN_0 {n : Nat} (h : 1 ≤ n) : ixN n 0 = some 0 := by
  unfold ixN
  rw [if_pos (by decide), if_pos (by omega)]
  rfl
theorem goals_ok {x : Str} {n : Nat} {at_ : Int} (hn : 1 ≤ n) (hn6 : n ≤ 6) (h0 : 0 ≤ at_) (h1 : at_ < n) (ρ : Env) (b : Bag) (way : Int) (e0 : ρ[0]? = some (some (.sh .bag))) (e3 : ρ[3]? = some (some (.sh (.int n)))) (e6 : ρ[6]? = some (some (.sh (.int at_)))) (e7 : ρ[7]? = some (some (.sh (.int way)))) :
    ∃ (gs : List Int) (b' : Bag), lcD (gN 10) bYes (eIf (bB (e2 eqF (eV 7) (eC (.int 0)))) (eV 6) (eCall (F__law_take) (aCons (eV 0) (aCons (eV 3) aNil)))) (signsOf x) ρ b = .ok (gs.map D.int) b' ∧ gs.length = x.length ∧ ∀ g ∈ gs, 0 ≤ g ∧ g < n := by
  obtain ⟨ys, b', h2, h3, h4⟩ := lc_some (i := 10) (F := (eIf (bB (e2 eqF (eV 7) (eC (.int 0)))) (eV 6) (eCall (F__law_take) (aCons (eV 0) (aCons (eV 3) aNil))))) (fun y => ∃ g : Int, y = .int g ∧ (0 ≤ g ∧ g < n)) (signsOf x) ρ b (fun d hd b => by
    by_cases hw : way = 0
    · refine ⟨.int at_, b, ?_, at_, rfl, h0, h1⟩
      simp [e6, e7, hw]
    · obtain ⟨g, b', h5, h6, h7⟩ := take_ok b (m := n) (by omega) (by omega)
      refine ⟨.int g, b', ?_, g, rfl, h6, h7⟩
      simp [e0, e3, e7, hw, h5])
  obtain ⟨gs, rfl, hg⟩ := ints_of ys h4
  refine ⟨gs, b', h2, ?_, hg⟩
  rw [List.length_map] at h3
  rw [h3]
  simp [signsOf, Str.length]
theorem row_step {x : Str} {n : Nat} {at_ top : Int} (hx : x ∈ sgs) (hn : 1 ≤ n) (hn6 : n ≤ 6) (h0 : 0 ≤ at_) (h1 : at_ < n) (ht : 1 ≤ top) (ht7 : top ≤ 7) (rows : List D) (hrows : rows.length ≤ 100) (s7 s8 : Option SD) (o9 : Option D) (b : Bag) :
    ∃ r b' w9 w7 w8, bRows [some (.sh .bag), some (.sh (.str x)), some (.sh (.int 6)), some (.sh (.int n)), some (.ow (.lst rows)), some (.sh (.int top)), some (.sh (.int at_)), s7, s8, o9.map SD.sh, none] b =
      .nx [some (.sh .bag), some (.sh (.str x)), some (.sh (.int 6)), some (.sh (.int n)), some (.ow (.lst (rows ++ [rowD r]))), some (.sh (.int top)), some (.sh (.int at_)), some (.sh w7), some (.sh w8), (some w9).map SD.sh, none] b' ∧ RowOk x.length n r := by
  obtain ⟨way, b1, hw, w0, w1⟩ := take_ok b (m := 5) (by decide) (by decide)
  obtain ⟨col, b2, hc, c0, c1⟩ := take_ok b1 (m := top) ht (by omega)
  obtain ⟨gs, b3, hg, hgl, hgo⟩ := goals_ok (x := x) hn hn6 h0 h1 [some (.sh .bag), some (.sh (.str x)), some (.sh (.int 6)), some (.sh (.int n)), none, some (.sh (.int top)), some (.sh (.int at_)), some (.sh (.int way)), some (.sh (.int col)), o9.map SD.sh, none] b2 way rfl rfl rfl rfl
  obtain ⟨l1, l2⟩ := sg_len hx
  have hsl : (signsOf x).length ≤ 100000 := by
    have : (signsOf x).length = x.length := by simp [signsOf, Str.length]
    omega
  have hl0 : ixN gs.length 0 = some 0 := ixN_0 (by omega)
  have hr1000 : rows.length ≤ 100000 := by omega
  have hn0 : 0 < n := by omega
  by_cases hw1 : way = 1
  · refine ⟨(col, gs.set 0 ((at_ + 1) % n)), b3, .lst ((gs.set 0 ((at_ + 1) % n)).map D.int), .int way, .int col, ?_, ⟨c0, by show col ≤ 6; omega, by rw [List.length_set]; exact hgl, fun g hgm => ?_⟩⟩
    · cases o9 <;> (unfold bRows rowD; simp [hw, hc, hw1, hsl] at hg ⊢; simp [hg, hl0, hr1000, hn0, hw1, gOw, tupleF])
    · rcases List.mem_or_eq_of_mem_set hgm with h | h
      · exact hgo g h
      · subst h
        exact ⟨Int.emod_nonneg _ (by omega), Int.emod_lt_of_pos _ (by omega)⟩
  · refine ⟨(col, gs), b3, .lst (gs.map D.int), .int way, .int col, ?_, ⟨c0, by show col ≤ 6; omega, hgl, hgo⟩⟩
    cases o9 <;> (unfold bRows rowD; simp [hw, hc, hw1, hsl] at hg ⊢; simp [hg, hl0, hr1000, hn0, hw1, gOw, tupleF])
theorem range_get {n : Nat} {i : Nat} {d : D} (h : (rangeOf (n : Int))[i]? = some d) : d = .int i ∧ i < n := by
  unfold rangeOf at h
  rw [Int.toNat_natCast] at h
  have hl : i < n := by
    have := (List.getElem?_eq_some_iff.mp h).1
    simpa using this
  rw [List.getElem?_map, List.getElem?_range hl] at h
  exact ⟨(Option.some.inj h).symm, hl⟩
theorem range_len {n : Nat} : (rangeOf (n : Int)).length = n := by simp [rangeOf]
theorem rows_ok (b : Bag) {x : Str} (hx : x ∈ sgs) : ∃ rs b', F__law_rows [.bag, .str x, .int 6] b = .ok (rowsD rs) b' ∧ RowsOk x.length rs := by
  obtain ⟨m, b1, hm, m0, m1⟩ := take_ok b (m := 6) (by decide) (by decide)
  obtain ⟨t, b2, ht, t0, t1⟩ := take_ok b1 (m := 4) (by decide) (by decide)
  obtain ⟨n, hn⟩ : ∃ n : Nat, 1 + m = (n : Int) := ⟨(1 + m).toNat, by omega⟩
  have hn1 : 1 ≤ n := by omega
  have hn6 : n ≤ 6 := by omega
  obtain ⟨top, htop, top1, top7⟩ : ∃ top : Int, atI [D.int 2, D.int 3, D.int 4, D.int 7] t = some (.int top) ∧ 1 ≤ top ∧ top ≤ 7 := by
    have : t = 0 ∨ t = 1 ∨ t = 2 ∨ t = 3 := by omega
    rcases this with rfl | rfl | rfl | rfl
    · exact ⟨2, by simp, by decide, by decide⟩
    · exact ⟨3, by simp, by decide, by decide⟩
    · exact ⟨4, by simp, by decide, by decide⟩
    · exact ⟨7, by simp, by decide, by decide⟩
  obtain ⟨ρ', b', e1, rs, s6, s7, s8, o9, e2, e3, e4⟩ := loop_ind (g := gN 6) (B := bRows)
    (fun i ρ b => ∃ (rs : List Row) (s6 s7 s8 : Option SD) (o9 : Option D), ρ = [some (.sh .bag), some (.sh (.str x)), some (.sh (.int 6)), some (.sh (.int n)), some (.ow (.lst (rs.map rowD))), some (.sh (.int top)), s6, s7, s8, o9.map SD.sh, none] ∧ rs.length = i ∧ ∀ r ∈ rs, RowOk x.length n r)
    (rangeOf (n : Int)) 0 (fun i d hd ρ b ⟨rs, s6, s7, s8, o9, h1, h2, h3⟩ => by
      subst h1
      obtain ⟨rfl, hi⟩ := range_get hd
      obtain ⟨r, b', w9, w7, w8, h4, h5⟩ := row_step (at_ := (i : Int)) (n := n) hx hn1 hn6 (by omega) (by omega) top1 top7 (rs.map rowD) (by rw [List.length_map]; omega) s7 s8 o9 b
      refine ⟨_, _, b', rfl, h4, rs ++ [r], some (.sh (.int i)), some (.sh w7), some (.sh w8), some w9, ?_, ?_, ?_⟩
      · rw [List.map_append]; rfl
      · rw [List.length_append, h2]; rfl
      · intro q hq
        rcases List.mem_append.mp hq with hq | hq
        · exact h3 q hq
        · have : q = r := by simpa using hq
          subst this
          exact h5) [some (.sh .bag), some (.sh (.str x)), some (.sh (.int 6)), some (.sh (.int n)), some (.ow (.lst [])), some (.sh (.int top)), none, none, none, none, none] b2 ⟨[], none, none, none, none, rfl, rfl, fun _ h => by cases h⟩
  rw [range_len, Nat.zero_add] at e3
  refine ⟨rs, b', ?_, ⟨by omega, by omega, fun r hr => by rw [e3]; exact e4 r hr⟩⟩
  subst e2
  unfold F__law_rows G__law_rows
  unfold bRows at e1
  have hn9 : (n : Int) ≤ 1000000 := by omega
  simp [sMid, hm, ht, hn, htop, sFor, aRng, e1, tupleF, rowsD, hn9]
end DL

set_option maxHeartbeats 1000000
namespace DL
open PySem PySem.Spec PyProof.Rows L2
def Wd (x w : Str) : Prop := ∀ c ∈ w.cps.toList, c ∈ x.cps.toList
def idx (x : Str) (c : Nat) : Nat := x.cps.toList.idxOf c
def goal (rs : List Row) (s : Int) (i : Nat) : Int := ((rs[s.toNat]?).bind fun r => r.2[i]?).getD 0
def walkL (x : Str) (rs : List Row) : Int → List Nat → List Int
  | _, [] => []
  | s, c :: cs => goal rs s (idx x c) :: walkL x rs (goal rs s (idx x c)) cs
def walkE (x : Str) (rs : List Row) : Int → List Nat → Int
  | s, [] => s
  | s, c :: cs => walkE x rs (goal rs s (idx x c)) cs
theorem fld_l (M : Addr) (x : Str) (rs : List Row) : fldF M "_letters" (machD M x rs) = some (.str x) := by
  simp [fldF, machD, lkD]
theorem fld_s (M : Addr) (x : Str) (rs : List Row) : fldF M "_states" (machD M x rs) = some (rowsD rs) := by
  have h : ¬ ("_states" : Str) = "_letters" := by decide
  simp [fldF, machD, lkD, h]
end DL

set_option maxHeartbeats 1000000
namespace DL
open PySem PySem.Spec PyProof.Rows L2
def bBag : SF := (sAsg (e2 modF (eB intF (aCons (e2 addF (e2 mulF (eV 3) (eC (.int 43051))) (eV 4)) aNil)) (eC (.int 2147483489))) (gN 3))
theorem bag_loop (p0 p1 p2 : Option SD) (b : Bag) : ∀ (ds : List D) (sd : Int) (s4 : Option SD), (∀ d ∈ ds, ∃ g, d = .int g) → ∃ sd' s4', loopD (gN 4) bBag ds [p0, p1, p2, some (.sh (.int sd)), s4] b = .nx [p0, p1, p2, some (.sh (.int sd')), s4'] b
  | [], sd, s4, _ => ⟨sd, s4, rfl⟩
  | d :: ds, sd, s4, h => by
    obtain ⟨g, rfl⟩ := h d List.mem_cons_self
    obtain ⟨sd', s4', h2⟩ := bag_loop p0 p1 p2 b ds ((sd * 43051 + g) % 2147483489) (some (.sh (.int g))) fun d hd => h d (List.mem_cons_of_mem _ hd)
    refine ⟨sd', s4', ?_⟩
    unfold loopD
    simp [bBag] at h2 ⊢
    exact h2
theorem cut_ints (ns : List Int) (lo hi : Option Int) : (∀ d ∈ cutD (ns.map D.int) lo hi, ∃ g, d = D.int g) ∧ (cutD (ns.map D.int) lo hi).length ≤ ns.length := by
  unfold cutD
  refine ⟨fun d hd => ?_, ?_⟩
  · obtain ⟨g, _, rfl⟩ := List.mem_map.mp (List.mem_of_mem_drop (List.mem_of_mem_take hd))
    exact ⟨g, rfl⟩
  · rw [List.length_take, List.length_drop, List.length_map]
    omega
theorem pow_int : (10 : Int) ^ 18 = 1000000000000000000 := by decide +kernel
theorem pow_18 : powF (.int 10) (.int 18) = some (.int 1000000000000000000) := by
  unfold powF
  dsimp only
  rw [if_pos (by decide +kernel)]
  exact congrArg (fun z => some (D.int z)) pow_int
def gBagP (Pw : EF) : SF := (sSeq (sAsg (eIf (bB (e2 ltF (eV 1) (eB lenF (aCons (eV 0) aNil)))) (eIx (eV 0) (eV 1)) (e2 addF (e2 mulF (eC (.int 29)) (eV 1)) (eC (.int 8)))) (gN 2)) (sSeq (sAsg (e2 addF (eC (.int 86028121)) (e2 mulF (eC (.int 34019)) (eV 1))) (gN 3)) (sSeq (sFor (aAny (e2 addF (eLst (aCons (eV 2) aNil)) (eSl (eV 0) oNo (oSome (eC (.int 6)))))) (gN 4) (sAsg (e2 modF (eB intF (aCons (e2 addF (e2 mulF (eV 3) (eC (.int 43051))) (eV 4)) aNil)) (eC (.int 2147483489))) (gN 3))) (sRetO (eLst (aCons (eIf (bB (e2 geF (eB absF (aCons (eV 2) aNil)) Pw)) (eB absF (aCons (eV 2) aNil)) (eC (.int 0))) (aCons (eV 3) (aCons (eC (.int 0)) aNil))))))))
theorem b1_ok (ns : List Int) (k : Nat) (b : Bag) (ρ : Env) (e0 : ρ[0]? = some (some (.sh (.fl (ns.map D.int))))) (e1 : ρ[1]? = some (some (.sh (.int k)))) : ∃ fg, eIf (bB (e2 ltF (eV 1) (eB lenF (aCons (eV 0) aNil)))) (eIx (eV 0) (eV 1)) (e2 addF (e2 mulF (eC (.int 29)) (eV 1)) (eC (.int 8))) ρ b = .ok (.int fg) b := by
  by_cases hk : k < ns.length
  · have e2 : atI (ns.map D.int) (k : Int) = some (.int ns[k]) := atI_nat (by rw [List.getElem?_map, List.getElem?_eq_getElem hk]; rfl)
    exact ⟨ns[k], by simp [e0, e1, hk, e2]⟩
  · exact ⟨29 * k + 8, by simp [e0, e1, hk]⟩
theorem b2_ok (k : Nat) (b : Bag) (ρ : Env) (e1 : ρ[1]? = some (some (.sh (.int k)))) : ∃ sd, e2 addF (eC (.int 86028121)) (e2 mulF (eC (.int 34019)) (eV 1)) ρ b = .ok (.int sd) b := ⟨86028121 + 34019 * k, by simp [e1]⟩
theorem b3_ok (ns : List Int) (hn : ns.length ≤ 63) (fg : Int) (b : Bag) (ρ : Env) (q0 : ρ[0]? = some (some (.sh (.fl (ns.map D.int))))) (q2 : ρ[2]? = some (some (.sh (.int fg)))) :
    aAny (e2 addF (eLst (aCons (eV 2) aNil)) (eSl (eV 0) oNo (oSome (eC (.int 6))))) ρ b = .ok (.int fg :: cutD (ns.map D.int) none (some 6)) b := by
  obtain ⟨c1, c2⟩ := cut_ints ns none (some 6)
  have hl : 1 + (cutD (ns.map D.int) none (some 6)).length ≤ 100000 := by omega
  simp [eSl, oNo, oSome, slF, hl, q0, q2]
theorem b4_ok (Pw : EF) (T : Int) (hT : ∀ ρ b, Pw ρ b = .ok (.int T) b) (fg : Int) (b : Bag) (ρ : Env) (q2 : ρ[2]? = some (some (.sh (.int fg)))) : ∃ z, eIf (bB (e2 geF (eB absF (aCons (eV 2) aNil)) Pw)) (eB absF (aCons (eV 2) aNil)) (eC (.int 0)) ρ b = .ok (.int z) b := by
  by_cases ha : T ≤ (if fg < 0 then -fg else fg)
  · exact ⟨_, by simp [q2, hT, ha]; rfl⟩
  · exact ⟨0, by simp [q2, hT, ha]⟩
theorem bag_core (Pw : EF) (T : Int) (hT : ∀ ρ b, Pw ρ b = .ok (.int T) b) (ns : List Int) (hn : ns.length ≤ 63) (k : Nat) (b : Bag) : ∃ x y, runF 5 2 (gBagP Pw) [.fl (ns.map D.int), .int k] b = .ok (.lst [.int x, .int y, .int 0]) b := by
  obtain ⟨fg, g1⟩ := b1_ok ns k b [some (.sh (.fl (ns.map D.int))), some (.sh (.int k)), none, none, none] rfl rfl
  obtain ⟨sd, g2⟩ := b2_ok k b [some (.sh (.fl (ns.map D.int))), some (.sh (.int k)), some (.sh (.int fg)), none, none] rfl
  have g3 := b3_ok ns hn fg b [some (.sh (.fl (ns.map D.int))), some (.sh (.int k)), some (.sh (.int fg)), some (.sh (.int sd)), none] rfl rfl
  obtain ⟨c1, c2⟩ := cut_ints ns none (some 6)
  obtain ⟨sd', s4', g4⟩ := bag_loop (some (.sh (.fl (ns.map D.int)))) (some (.sh (.int k))) (some (.sh (.int fg))) b (D.int fg :: cutD (ns.map D.int) none (some 6)) sd none (fun d hd => by
    rcases List.mem_cons.mp hd with rfl | hd
    · exact ⟨fg, rfl⟩
    · exact c1 d hd)
  obtain ⟨z, g5⟩ := b4_ok Pw T hT fg b [some (.sh (.fl (ns.map D.int))), some (.sh (.int k)), some (.sh (.int fg)), some (.sh (.int sd')), s4'] rfl
  refine ⟨z, sd', ?_⟩
  have r0 : runF 5 2 (gBagP Pw) [.fl (ns.map D.int), .int k] b = (gBagP Pw [some (.sh (.fl (ns.map D.int))), some (.sh (.int k)), none, none, none] b).outF := rfl
  rw [r0]
  unfold gBagP
  unfold bBag at g4
  simp only [sSeq, sAsg, g1, st_ok_, gN, seq_nx_, List.set_cons_succ, List.set_cons_zero, g2, sFor, g3, g4]
  simp only [sRetO, eLst, aCons, g5, bind_ok_, eV, eC, aNil, List.getElem?_cons_succ, List.getElem?_cons_zero, st_ok_, outF_ro_, List.length_cons, List.length_nil]
  rfl
theorem bag_ok (ns : List Int) (hn : ns.length ≤ 63) (k : Nat) (b : Bag) : ∃ x y, F__law_bag [.fl (ns.map D.int), .int k] b = .ok (.lst [.int x, .int y, .int 0]) b :=
  bag_core (e2 powF (eC (.int 10)) (eC (.int 18))) 1000000000000000000 (fun ρ b => by
    show (Out.pureO (powF (.int 10) (.int 18)) b) = _
    rw [pow_18]
    rfl) ns hn k b
theorem law_all (Q : DFn) (c : Nat) (hc : 2 ≤ c) (hc2 : c ≤ 1000) (hQ : ∀ x y : Int, ∃ b', Q [.bag] ⟨x, y, 0⟩ = .ok (.bl true) b') (ns : List Int) (h : ns.length ≤ 63) (b : Bag) :
    ∃ b', eB allF (aCons (eLc (aRng (aCons (eB maxF (aCons (eC (.int 2)) (aCons (eB minF (aCons (eB lenF (aCons (eV 0) aNil)) (aCons (eC (.int c)) aNil))) aNil))) aNil)) [1] (gN 1) bYes (eBag Q F__law_bag (aCons (eV 0) (aCons (eV 1) aNil)))) aNil) [some (.sh (.fl (ns.map D.int))), none] b = .ok (.bl true) b' := by
  obtain ⟨n, hn, hn5⟩ : ∃ n : Nat, (if 2 < (if c < ns.length then (c : Int) else (ns.length : Int)) then (if c < ns.length then (c : Int) else (ns.length : Int)) else 2) = (n : Int) ∧ n ≤ c := by
    by_cases h1 : c < ns.length
    · rw [if_pos h1]
      by_cases h2 : (2 : Int) < c
      · exact ⟨c, by rw [if_pos h2], by omega⟩
      · exact ⟨2, by rw [if_neg h2]; rfl, by omega⟩
    · rw [if_neg h1]
      by_cases h2 : (2 : Int) < ns.length
      · exact ⟨ns.length, by rw [if_pos h2], by omega⟩
      · exact ⟨2, by rw [if_neg h2]; rfl, by omega⟩
  obtain ⟨ys, b', h2, h3, h4⟩ := lc_some (i := 1) (F := eBag Q F__law_bag (aCons (eV 0) (aCons (eV 1) aNil))) (fun y => y = .bl true) (rangeOf (n : Int)) [some (.sh (.fl (ns.map D.int))), none] b (fun d hd b => by
    obtain ⟨i, hi, rfl⟩ := List.mem_map.mp hd
    obtain ⟨x, y, h5⟩ := bag_ok ns h i b
    obtain ⟨b2, h6⟩ := hQ x y
    refine ⟨.bl true, b, ?_, rfl⟩
    simp [eBag, h5, h6])
  have ha := allF_true h4
  have hr : (rangeOf (n : Int)).length ≤ 100000 := by rw [range_len]; omega
  have hn9 : (n : Int) ≤ 1000000 := by omega
  refine ⟨b', ?_⟩
  simp [minF, maxF, aRng]
  rw [hn]
  simp [hn9, hr, h2, ha]
theorem law_run (Q : DFn) (c : Nat) (hc : 2 ≤ c) (hc2 : c ≤ 1000) (hQ : ∀ x y : Int, ∃ b', Q [.bag] ⟨x, y, 0⟩ = .ok (.bl true) b') (ns : List Int) (h : ns.length ≤ 63) :
    ∃ b', runD 2 1 (sRet (eB allF (aCons (eLc (aRng (aCons (eB maxF (aCons (eC (.int 2)) (aCons (eB minF (aCons (eB lenF (aCons (eV 0) aNil)) (aCons (eC (.int c)) aNil))) aNil))) aNil)) [1] (gN 1) bYes (eBag Q F__law_bag (aCons (eV 0) (aCons (eV 1) aNil)))) aNil))) [.fl (ns.map D.int)] ⟨0, 0, 0⟩ = .ok (.bl true) b' := by
  obtain ⟨b', h1⟩ := law_all Q c hc hc2 hQ ns h ⟨0, 0, 0⟩
  exact ⟨b', congrArg (fun o : Out D => (o.st (startE 2 [.fl (ns.map D.int)]) (fun d b' => SO.rt d b')).out) h1⟩
end DL

set_option maxHeartbeats 1000000

set_option maxHeartbeats 1000000
namespace DL
open PySem PySem.Spec PyProof.Rows L2
theorem app_cps (w v : Str) : (w ++ v).cps = w.cps ++ v.cps := rfl
theorem app_list (w v : Str) : (w ++ v).cps.toList = w.cps.toList ++ v.cps.toList := by rw [app_cps, Array.toList_append]
theorem str_len (w : Str) : w.cps.toList.length = w.length := by simp [Str.length]
theorem app_wd {x w v : Str} (h : Wd x w) (h' : Wd x v) : Wd x (w ++ v) := fun c hc => by
  rw [app_list] at hc
  rcases List.mem_append.mp hc with z | z
  · exact h c z
  · exact h' c z
theorem walkE_app (x : Str) (rs : List Row) : ∀ (u v : List Nat) (s : Int), walkE x rs s (u ++ v) = walkE x rs (walkE x rs s u) v
  | [], v, s => rfl
  | c :: u, v, s => walkE_app x rs u v _
theorem walkL_app (x : Str) (rs : List Row) : ∀ (u v : List Nat) (s : Int), walkL x rs s (u ++ v) = walkL x rs s u ++ walkL x rs (walkE x rs s u) v
  | [], v, s => rfl
  | c :: u, v, s => by simp only [List.cons_append, walkL, walkE, walkL_app x rs u v]
def colour (rs : List Row) (s : Int) : Int := ((rs[s.toNat]?).map (·.1)).getD 0
end DL

set_option maxHeartbeats 1000000

set_option maxHeartbeats 1000000
namespace DL
open PySem PySem.Spec PyProof.Rows L2
theorem flats_ints (is : List Int) : flatsD (is.map D.int) = some (is.map V.int) := by
  induction is with
  | nil => rfl
  | cons i is ih => simp [ih]
end DL

set_option maxHeartbeats 1000000
namespace DL
open PySem PySem.Spec PyProof.Rows L2
@[simp] theorem unown_map (o : Option D) (ρ : Env) : unown (o.map SD.sh :: ρ) = o.map SD.sh :: unown ρ := by cases o <;> rfl
end DL

set_option maxHeartbeats 1000000

set_option maxHeartbeats 1000000
namespace DL
open PySem PySem.Spec PyProof.Rows L2
section
variable {sc : Int → List Int} {ok ok' : Int → Prop}
theorem Pth.snoc {a b c : Int} (h : Pth sc ok a b) (h1 : c ∈ sc b) (h2 : ok c) : Pth sc ok a c := h.trans (.one h1 h2)
/-- hangs together -/
def SC (sc : Int → List Int) (S : Int → Prop) : Prop := ∀ a b, S a → S b → Pth sc S a b
theorem SC.congr {S S' : Int → Prop} (h : SC sc S) (e : ∀ a, S a ↔ S' a) : SC sc S' := fun a b ha hb => (h a b ((e a).mpr ha) ((e b).mpr hb)).mono fun x hx => (e x).mp hx
/-- a way between two of a class stays in it -/
theorem Pth.within {a : Int} {x y : Int} (h : Pth sc ok x y) : Pth sc ok a x → Pth sc ok y a → Pth sc (fun c => ok c ∧ Pth sc ok a c ∧ Pth sc ok c a) x y := by
  induction h with
  | one h1 h2 => exact fun f g => .one h1 ⟨h2, f.snoc h1 h2, g⟩
  | step h1 h2 h3 ih => exact fun f g => .step h1 ⟨h2, f.snoc h1 h2, h3.trans g⟩ (ih (f.snoc h1 h2) g)
end
def TopIs (col : Int → Int) (S : Int → Prop) (T : Int) : Prop := (∃ a, S a ∧ col a = T) ∧ ∀ a, S a → col a ≤ T
theorem TopIs.congr {col : Int → Int} {S S' : Int → Prop} {T : Int} (h : TopIs col S T) (e : ∀ a, S a ↔ S' a) : TopIs col S' T := by
  obtain ⟨⟨a, a1, a2⟩, b⟩ := h
  exact ⟨⟨a, (e a).mp a1, a2⟩, fun x hx => b x ((e x).mpr hx)⟩
/-- what is asked of loops: colours, and the evenness of the greatest -/
abbrev Asked := List ((Int → Int) × Int)
def GLoop (sc : Int → List Int) (as : Asked) (S : Int → Prop) : Prop := (∃ a, S a) ∧ SC sc S ∧ ∀ p ∈ as, ∃ T, TopIs p.1 S T ∧ T % 2 = p.2
theorem GLoop.congr {sc : Int → List Int} {as : Asked} {S S' : Int → Prop} (h : GLoop sc as S) (e : ∀ a, S a ↔ S' a) : GLoop sc as S' := by
  obtain ⟨⟨a, ha⟩, h1, h2⟩ := h
  refine ⟨⟨a, (e a).mp ha⟩, h1.congr e, fun p hp => ?_⟩
  obtain ⟨T, t1, t2⟩ := h2 p hp
  exact ⟨T, t1.congr e, t2⟩
end DL

set_option maxHeartbeats 1000000
namespace DL
open PySem PySem.Spec PyProof.Rows L2
def rowIs (d : D) (gs : List Int) : Prop := d = .tup (gs.map D.int) ∨ d = .lst (gs.map D.int)
structure Gr (A : List D) (n : Nat) (sc : Int → List Int) : Prop where
  len : A.length = n
  row : ∀ k : Int, 0 ≤ k → k < n → ∃ d, atI A k = some d ∧ rowIs d (sc k)
  go : ∀ k : Int, 0 ≤ k → k < n → ∀ g ∈ sc k, 0 ≤ g ∧ g < n
  few : ∀ k : Int, 0 ≤ k → k < n → (sc k).length ≤ 1000
  n1000 : n ≤ 1000
theorem inV_ints (k : Int) (gs : List Int) : inV (.int k) (gs.map V.int) = decide (k ∈ gs) := by
  unfold inV
  induction gs with
  | nil => rfl
  | cons g gs ih =>
    rw [List.map_cons, List.any_cons, ih]
    show ((g == k) || decide (k ∈ gs)) = _
    by_cases h : g = k
    · subst h; simp
    · have : ¬ k = g := fun z => h z.symm
      simp [h, this]
@[simp] theorem inQ_lst (k : Int) (gs : List Int) : inQ (.int k) (.lst (gs.map D.int)) = some (.bl (decide (k ∈ gs))) := by
  simp [flats_ints, inV_ints]
@[simp] theorem inQ_tup (k : Int) (gs : List Int) : inQ (.int k) (.tup (gs.map D.int)) = some (.bl (decide (k ∈ gs))) := by
  simp [flats_ints, inV_ints]
end DL

set_option maxHeartbeats 1000000

set_option maxHeartbeats 1000000

set_option maxHeartbeats 1000000

set_option maxHeartbeats 1000000
namespace DL
open PySem PySem.Spec PyProof.Rows L2
def mu (ws : List (List Int)) : Nat := (ws.map fun w => 1 + 2 * w.length).sum
end DL

set_option maxHeartbeats 1000000

set_option maxHeartbeats 1000000

set_option maxHeartbeats 1000000

set_option maxHeartbeats 1000000

set_option maxHeartbeats 1000000

set_option maxHeartbeats 1000000

set_option maxHeartbeats 1000000
namespace DL
open PySem PySem.Spec PyProof.Rows L2
theorem seq_step {G Gr : SF} {ρ ρ' : Env} {b b' : Bag} (h : G ρ b = .nx ρ' b') : sSeq G Gr ρ b = Gr ρ' b' := by
  show (G ρ b).seq Gr = _
  rw [h]
  rfl
end DL

set_option maxHeartbeats 1000000
namespace DL
open PySem PySem.Spec PyProof.Rows L2
@[simp] theorem ninQ_lst (k : Int) (gs : List Int) : ninQ (.int k) (.lst (gs.map D.int)) = some (.bl (!decide (k ∈ gs))) := by
  simp [flats_ints, inV_ints]
@[simp] theorem ninQ_tup (k : Int) (gs : List Int) : ninQ (.int k) (.tup (gs.map D.int)) = some (.bl (!decide (k ∈ gs))) := by
  simp [flats_ints, inV_ints]
end DL

set_option maxHeartbeats 1000000

set_option maxHeartbeats 1000000

set_option maxHeartbeats 1000000

set_option maxHeartbeats 1000000

set_option maxHeartbeats 1000000

set_option maxHeartbeats 1000000
namespace DL
open PySem PySem.Spec PyProof.Rows L2
structure Wk (x : Str) (rs : List Row) (ins : List Int) (s k : Int) (w : Str) : Prop where
  wd : Wd x w
  to : walkE x rs s w.cps.toList = k
  by_ : ∀ j ∈ walkL x rs s w.cps.toList, j ∈ ins
theorem Wk.app {x : Str} {rs : List Row} {ins : List Int} {s k m : Int} {u w : Str} (h : Wk x rs ins s k u) (h' : Wk x rs ins k m w) : Wk x rs ins s m (u ++ w) := by
  refine ⟨app_wd h.wd h'.wd, ?_, fun j hj => ?_⟩
  · rw [app_list, walkE_app, h.to, h'.to]
  · rw [app_list, walkL_app, h.to] at hj
    rcases List.mem_append.mp hj with hj | hj
    · exact h.by_ j hj
    · exact h'.by_ j hj
end DL

set_option maxHeartbeats 1000000

set_option maxHeartbeats 1000000

set_option maxHeartbeats 1000000
namespace DL
open PySem PySem.Spec PyProof.Rows L2
theorem cps_fold (f : Nat → List Nat) : ∀ (l : List Nat) (acc : Array Nat), (l.foldl (fun out c => out ++ (f c).toArray) acc).toList = acc.toList ++ l.flatMap f
  | [], acc => by simp
  | c :: l, acc => by
    rw [List.foldl_cons, cps_fold f l]
    simp
theorem strOk_app {a b : Str} (h : PyData.strOk a = true) (h' : PyData.strOk b = true) : PyData.strOk (a ++ b) = true := by
  unfold PyData.strOk at *
  rw [← Array.all_toList, List.all_eq_true] at *
  intro c hc
  rw [app_list] at hc
  rcases List.mem_append.mp hc with hc | hc
  · exact h c hc
  · exact h' c hc
end DL

set_option maxHeartbeats 1000000
namespace DL
open PySem PySem.Spec PyProof.Rows L2
theorem strOk_join : ∀ {ts : List Str}, (∀ t ∈ ts, PyData.strOk t = true) → PyData.strOk (Str.join ", " ts) = true
  | [], _ => by decide +kernel
  | [t], h => h t List.mem_cons_self
  | t :: s :: ts, h => by
    show PyData.strOk (t ++ ", " ++ Str.join ", " (s :: ts)) = true
    exact strOk_app (strOk_app (h t List.mem_cons_self) (by decide +kernel)) (strOk_join fun z hz => h z (List.mem_cons_of_mem _ hz))
theorem strOk_from : ∀ {ts : List Str} {k : Nat} {acc : Str}, PyData.strOk acc = true → (∀ t ∈ ts, PyData.strOk t = true) → PyData.strOk (textFrom k acc ts) = true
  | [], _, _, h, _ => h
  | t :: ts, k, acc, h, h' => by
    show PyData.strOk (textFrom (k + 1) (acc ++ (if k > 0 then ", " else "" : String) ++ t) ts) = true
    refine strOk_from (strOk_app (strOk_app h ?_) (h' t List.mem_cons_self)) fun z hz => h' z (List.mem_cons_of_mem _ hz)
    split <;> decide +kernel
theorem shownAll_map : ∀ ps : List PyData, PyData.shownAll ps = ps.map PyData.shown
  | [] => rfl
  | p :: ps => by show p.shown :: PyData.shownAll ps = _; rw [shownAll_map ps]; rfl
theorem showableAll_map : ∀ {ps : List PyData}, (∀ p ∈ ps, p.showable = true) → PyData.showableAll ps = true
  | [], _ => rfl
  | p :: ps, h => by
    show (p.showable && PyData.showableAll ps) = true
    rw [h p List.mem_cons_self, showableAll_map fun q hq => h q (List.mem_cons_of_mem _ hq)]
    rfl
theorem hasDictAll_map : ∀ {ps : List PyData}, (∀ p ∈ ps, p.hasDict = false) → PyData.hasDictAll ps = false
  | [], _ => rfl
  | p :: ps, h => by
    show (p.hasDict || PyData.hasDictAll ps) = false
    rw [h p List.mem_cons_self, hasDictAll_map fun q hq => h q (List.mem_cons_of_mem _ hq)]
    rfl
theorem depthAll_le {k : Nat} : ∀ {ps : List PyData}, (∀ p ∈ ps, p.depth ≤ k) → PyData.depthAll ps ≤ k
  | [], _ => Nat.zero_le _
  | p :: ps, h => by
    show max p.depth (PyData.depthAll ps) ≤ k
    exact Nat.max_le.mpr ⟨h p List.mem_cons_self, depthAll_le fun q hq => h q (List.mem_cons_of_mem _ hq)⟩
theorem shown_sum {n : Nat} : ∀ {ps : List PyData}, (∀ p ∈ ps, p.shown.length ≤ n) → ((ps.map PyData.shown).map (·.length)).sum ≤ ps.length * n
  | [], _ => by simp
  | p :: ps, h => by
    have h1 := h p List.mem_cons_self
    have h2 := shown_sum fun q hq => h q (List.mem_cons_of_mem _ hq)
    rw [List.map_cons, List.map_cons, List.sum_cons, List.length_cons, Nat.add_mul, Nat.one_mul]
    omega
theorem shP_lst {ps : List PyData} {k n m : Nat} (h : ∀ p ∈ ps, ShP p k n) (hm : ps.length ≤ m) : ShP (.list ps) (k + 1) (m * (n + 2) + 3) ∧ ShP (.tuple ps) (k + 1) (m * (n + 2) + 3) := by
  have h1 := listText_len_le (PyData.shownAll ps)
  have h2 := tupleText_len_le (PyData.shownAll ps)
  have h3 := shown_sum fun p hp => (h p hp).ln
  have h4 : PyData.depthAll ps ≤ k := depthAll_le fun p hp => (h p hp).dp
  rw [shownAll_map] at h1 h2
  rw [List.length_map] at h1 h2
  have h5 : ps.length * n + 2 * ps.length ≤ m * (n + 2) := by
    rw [Nat.mul_comm 2, ← Nat.mul_add]
    exact Nat.mul_le_mul_right _ hm
  have ok : ∀ t ∈ PyData.shownAll ps, PyData.strOk t = true := fun t ht => by
    rw [shownAll_map] at ht
    obtain ⟨p, hp, rfl⟩ := List.mem_map.mp ht
    exact (h p hp).ok
  refine ⟨⟨showableAll_map fun p hp => (h p hp).sh, hasDictAll_map fun p hp => (h p hp).nd, ?_, ?_, ?_⟩, ⟨showableAll_map fun p hp => (h p hp).sh, hasDictAll_map fun p hp => (h p hp).nd, ?_, ?_, ?_⟩⟩
  · show PyData.depthAll ps + 1 ≤ k + 1; omega
  · show (listText (PyData.shownAll ps)).length ≤ _
    rw [shownAll_map]; omega
  · show PyData.strOk (textFrom 0 "[" (PyData.shownAll ps) ++ "]") = true
    exact strOk_app (strOk_from (by decide +kernel) ok) (by decide +kernel)
  · show PyData.depthAll ps + 1 ≤ k + 1; omega
  · show (tupleText (PyData.shownAll ps)).length ≤ _
    rw [shownAll_map]; omega
  · show PyData.strOk (("(" : Str) ++ Str.join ", " (PyData.shownAll ps) ++ (if (PyData.shownAll ps).length == 1 then ",)" else ")" : String)) = true
    refine strOk_app (strOk_app (by decide +kernel) (strOk_join ok)) ?_
    split <;> decide +kernel
theorem pds_all {k n : Nat} : ∀ {ds : List D}, (∀ d ∈ ds, ShB d k n) → ∃ ps, pds ds = some ps ∧ ps.length = ds.length ∧ ∀ p ∈ ps, ShP p k n
  | [], _ => ⟨[], rfl, rfl, fun p h => (by cases h)⟩
  | d :: ds, h => by
    obtain ⟨p, h1, h2⟩ := h d List.mem_cons_self
    obtain ⟨ps, h3, h4, h5⟩ := pds_all fun e he => h e (List.mem_cons_of_mem _ he)
    refine ⟨p :: ps, ?_, by simp [h4], fun q hq => ?_⟩
    · simp [pds, h1, h3]
    · rcases List.mem_cons.mp hq with rfl | hq
      · exact h2
      · exact h5 q hq
theorem shB_lst {ds : List D} {k n m : Nat} (h : ∀ d ∈ ds, ShB d k n) (hm : ds.length ≤ m) : ShB (.lst ds) (k + 1) (m * (n + 2) + 3) := by
  obtain ⟨ps, h1, h2, h3⟩ := pds_all h
  exact ⟨.list ps, by simp [D.pd, h1], (shP_lst h3 (by omega)).1⟩
theorem shB_tup {ds : List D} {k n m : Nat} (h : ∀ d ∈ ds, ShB d k n) (hm : ds.length ≤ m) : ShB (.tup ds) (k + 1) (m * (n + 2) + 3) := by
  obtain ⟨ps, h1, h2, h3⟩ := pds_all h
  exact ⟨.tuple ps, by simp [D.pd, h1], (shP_lst h3 (by omega)).2⟩
theorem shB_int {i : Int} (h0 : -1 ≤ i) (h1 : i < 200) : ShB (.int i) 0 3 := by
  have key : ∀ j ∈ List.range 201, (PyData.int ((j : Int) - 1)).showable = true ∧ (PyData.int ((j : Int) - 1)).shown.length ≤ 3 ∧ PyData.strOk (PyData.int ((j : Int) - 1)).shown = true := by decide +kernel
  have := key (i + 1).toNat (List.mem_range.mpr (by omega))
  rw [show (((i + 1).toNat : Int)) - 1 = i by omega] at this
  exact ⟨.int i, rfl, this.1, rfl, Nat.le_refl _, this.2.1, this.2.2⟩
theorem shB_bl (c : Bool) : ShB (.bl c) 0 5 := ⟨.bool c, rfl, rfl, rfl, Nat.le_refl _, by cases c <;> decide, by cases c <;> decide +kernel⟩
theorem shB_row {k n : Nat} {r : Row} (h : RowOk k n r) (hk : k ≤ 3) (hn : n ≤ 6) : ShB (rowD r) 2 50 := by
  have h1 : ShB (.int r.1) 1 18 := (shB_int (by have := h.c0; omega) (by have := h.c1; omega)).mono (by decide) (by decide)
  have h2 : ShB (.tup (r.2.map D.int)) 1 18 := (shB_tup (ds := r.2.map D.int) (k := 0) (n := 3) (m := 3) (fun d hd => by
    obtain ⟨g, hg, rfl⟩ := List.mem_map.mp hd
    have := h.go g hg
    exact shB_int (by omega) (by omega)) (by rw [List.length_map, h.len]; exact hk)).mono (by decide) (by decide)
  exact (shB_tup (ds := [.int r.1, .tup (r.2.map D.int)]) (m := 2) (fun d hd => by
    simp only [List.mem_cons, List.not_mem_nil, or_false] at hd
    rcases hd with rfl | rfl
    · exact h1
    · exact h2) (by simp)).mono (by decide) (by decide)
theorem shB_rows {k : Nat} {rs : List Row} (h : RowsOk k rs) (hk : k ≤ 3) : ShB (rowsD rs) 3 400 := by
  have n1 := h.n1
  exact (shB_tup (ds := rs.map rowD) (m := 6) (fun d hd => by
    obtain ⟨r, hr, rfl⟩ := List.mem_map.mp hd
    exact shB_row (h.ok r hr) hk (by omega)) (by rw [List.length_map]; omega)).mono (by decide) (by decide)
theorem repr_of {ds : List D} {k n : Nat} (h : ShB (.lst ds) k n) (hk : k ≤ 60) (hn : n ≤ 1000000) : ∃ z, reprF [.lst ds] = some (.str z) ∧ PyData.strOk z = true := by
  obtain ⟨p, h1, h2⟩ := h
  refine ⟨p.shown, ?_, h2.ok⟩
  have a := Nat.le_trans h2.dp hk
  have b := Nat.le_trans h2.ln hn
  simp only [reprF, h1, Option.bind_some, h2.sh, h2.nd, a, b, and_self, if_true]
end DL

set_option maxHeartbeats 1000000
namespace DL
open PySem PySem.Spec PyProof.Rows L2
def dg (i : Int) : List Nat := [48 + i.toNat]
def stL : List Nat := [115, 116, 97, 116, 101]
def maL : List Nat := [109, 97, 99, 104, 105, 110, 101]
def wordsR (r : Row) : List (List Nat) := stL :: dg r.1 :: r.2.map dg
def rowT (r : Row) : List Nat := TL.joinL [32] (wordsR r)
def firstT (x : Str) : List Nat := TL.joinL [32] [maL, x.cps.toList]
def pageL (x : Str) (rs : List Row) : List Nat := TL.joinL [10] (firstT x :: rs.map rowT)
def pageT (x : Str) (rs : List Row) : Str := SX.S (pageL x rs)
theorem tS_st : SX.S stL = "state" := by decide +kernel
theorem tS_ma : SX.S maL = "machine" := by decide +kernel
theorem tS_sp : SX.S [32] = " " := by decide +kernel
theorem tS_nl : SX.S [10] = "\n" := by decide +kernel
theorem tS_ms (x : Str) : ("machine " : Str) ++ x = SX.S (firstT x) := by
  have e : SX.S (maL ++ [32]) = "machine " := by decide +kernel
  have h : SX.S x.cps.toList = x := SX.S_tl x
  have e2 : firstT x = (maL ++ [32]) ++ x.cps.toList := rfl
  rw [e2, ← SX.S_cat, h, e]
theorem six {i : Int} (h0 : 0 ≤ i) (h1 : i ≤ 6) : i = 0 ∨ i = 1 ∨ i = 2 ∨ i = 3 ∨ i = 4 ∨ i = 5 ∨ i = 6 := by omega
theorem strF_dg {i : Int} (h0 : 0 ≤ i) (h1 : i ≤ 6) : strF [.int i] = some (.str (SX.S (dg i))) := by
  rcases six h0 h1 with rfl | rfl | rfl | rfl | rfl | rfl | rfl <;> kernel_rfl
theorem inF_dg {i : Int} (h0 : 0 ≤ i) (h1 : i ≤ 6) : inF (.str (SX.S (dg i))) (.str "0123456789") = some (.bl true) := by
  rcases six h0 h1 with rfl | rfl | rfl | rfl | rfl | rfl | rfl <;> kernel_rfl
theorem intT_dg {i : Int} (h0 : 0 ≤ i) (h1 : i ≤ 6) : intTF [.str (SX.S (dg i))] = some (.int i) := by
  rcases six h0 h1 with rfl | rfl | rfl | rfl | rfl | rfl | rfl <;> kernel_rfl
theorem dg_no {i : Int} {c : Nat} (hc : c < 48) : c ∉ dg i := by
  unfold dg
  simp
  omega
theorem strsD_S : ∀ ys : List (List Nat), strsD (ys.map fun l => .str (SX.S l)) = some (ys.map SX.S)
  | [] => rfl
  | y :: ys => by
    rw [List.map_cons, strsD, strsD_S ys]
    rfl
theorem join_F (c : List Nat) (ys : List (List Nat)) (h : (ys.map (·.length)).sum + ys.length * c.length ≤ 16777216) : joinF (SX.S c) [.lst (ys.map fun l => .str (SX.S l))] = some (.str (SX.S (TL.joinL c ys))) := by
  simp only [joinF, seqD, Option.bind_some, strsD_S, SX.lens, List.length_map, SX.S_len]
  rw [if_pos h, SX.join_S]
theorem split_F {c : Nat} (hc : c < 256) {ys : List (List Nat)} (hne : ys ≠ []) (h : ∀ p ∈ ys, c ∉ p) (hl : (TL.joinL [c] ys).length ≤ 100000) : splitF (SX.S (TL.joinL [c] ys)) [.str (SX.S [c])] = some (.lst (ys.map fun l => .str (SX.S l))) := by
  simp only [splitF]
  have h1 : ((SX.S [c]).length == 0) = false := rfl
  have h2 : (SX.S (TL.joinL [c] ys)).length ≤ 100000 := by rw [SX.S_len]; exact hl
  rw [if_pos ⟨h1, h2⟩, SX.split_S (by simp) (by simpa using hc), SX.spl_join hne h, List.map_map]
  rfl
theorem joinL_len (c : List Nat) : ∀ ys : List (List Nat), (TL.joinL c ys).length ≤ (ys.map (·.length)).sum + ys.length * c.length
  | [] => by simp [TL.joinL]
  | [p] => by simp [TL.joinL]
  | p :: q :: r => by
    have h := joinL_len c (q :: r)
    show (p ++ (c ++ TL.joinL c (q :: r))).length ≤ _
    simp only [List.length_append, List.map_cons, List.sum_cons, List.length_cons] at h ⊢
    rw [Nat.add_mul (r.length + 1) 1]
    omega
theorem joinL_mem {c : List Nat} : ∀ {ys : List (List Nat)} {d : Nat}, d ∈ TL.joinL c ys → d ∈ c ∨ ∃ y ∈ ys, d ∈ y
  | [], d, h => by cases h
  | [p], d, h => .inr ⟨p, List.mem_cons_self, h⟩
  | p :: q :: r, d, h => by
    have h : d ∈ p ++ (c ++ TL.joinL c (q :: r)) := h
    rcases List.mem_append.mp h with h | h
    · exact .inr ⟨p, List.mem_cons_self, h⟩
    · rcases List.mem_append.mp h with h | h
      · exact .inl h
      · rcases joinL_mem h with h | ⟨y, hy, h⟩
        · exact .inl h
        · exact .inr ⟨y, List.mem_cons_of_mem _ hy, h⟩
theorem sum_le {n : Nat} : ∀ {ys : List (List Nat)}, (∀ y ∈ ys, y.length ≤ n) → (ys.map (·.length)).sum ≤ ys.length * n
  | [], _ => by simp
  | y :: ys, h => by
    have h1 := h y List.mem_cons_self
    have h2 := sum_le fun q hq => h q (List.mem_cons_of_mem _ hq)
    rw [List.map_cons, List.sum_cons, List.length_cons, Nat.add_mul, Nat.one_mul]
    omega
theorem words_len {k n : Nat} {r : Row} (hr : RowOk k n r) (hk : k ≤ 3) : (wordsR r).length ≤ 5 ∧ ∀ y ∈ wordsR r, y.length ≤ 5 := by
  refine ⟨by simp [wordsR, hr.len]; omega, fun y hy => ?_⟩
  unfold wordsR at hy
  rcases List.mem_cons.mp hy with rfl | hy
  · decide
  · rcases List.mem_cons.mp hy with rfl | hy
    · simp [dg]
    · obtain ⟨g, _, rfl⟩ := List.mem_map.mp hy
      simp [dg]
theorem rowT_len {k n : Nat} {r : Row} (hr : RowOk k n r) (hk : k ≤ 3) : (rowT r).length ≤ 30 := by
  obtain ⟨h1, h2⟩ := words_len hr hk
  have h3 := joinL_len [32] (wordsR r)
  have h4 := sum_le h2
  unfold rowT
  simp only [List.length_cons, List.length_nil] at h3
  omega
theorem words_no {k n : Nat} {r : Row} (hr : RowOk k n r) {c : Nat} (hc : c < 48) : ∀ y ∈ wordsR r, c ∉ y := by
  intro y hy
  unfold wordsR at hy
  rcases List.mem_cons.mp hy with rfl | hy
  · simp [stL]; omega
  · rcases List.mem_cons.mp hy with rfl | hy
    · exact dg_no hc
    · obtain ⟨g, _, rfl⟩ := List.mem_map.mp hy
      exact dg_no hc
theorem row_sum {k n : Nat} {r : Row} (hr : RowOk k n r) (hk : k ≤ 3) : ((wordsR r).map (·.length)).sum + (wordsR r).length * 1 ≤ 16777216 := by
  obtain ⟨h1, h2⟩ := words_len hr hk
  have h4 := sum_le h2
  omega
theorem goals_str {F : EF} {k n : Nat} {r : Row} (hr : RowOk k n r) (hn : n ≤ 7) {i : Nat} (ρ : Env) (b : Bag) (hF : ∀ g : Int, 0 ≤ g → g ≤ 6 → F (ρ.set i (some (.sh (.int g)))) b = .ok (.str (SX.S (dg g))) b) :
    lcD (gN i) bYes F (r.2.map D.int) ρ b = .ok ((r.2.map dg).map fun l => .str (SX.S l)) b := by
  have h := lc_map (g := gN i) (F := F) (f := fun d => match d with | .int g => .str (SX.S (dg g)) | d => d) (r.2.map D.int) ρ b (fun d hd => by
    obtain ⟨g, hg, rfl⟩ := List.mem_map.mp hd
    obtain ⟨g0, g1⟩ := hr.go g hg
    exact ⟨_, rfl, hF g g0 (by omega)⟩)
  rw [h, List.map_map, List.map_map]
  rfl
theorem staterow_ok {k n : Nat} {r : Row} (hr : RowOk k n r) (hk : k ≤ 3) (hn : n ≤ 7) (b : Bag) : F_state_row [rowD r] b = .ok (.str (SX.S (rowT r))) b := by
  have hj := join_F [32] (wordsR r) (row_sum hr hk)
  rw [tS_sp] at hj
  have h0 := strF_dg hr.c0 hr.c1
  have hg := goals_str (F := eB strF (aCons (eV 1) aNil)) (i := 1) hr hn [some (.sh (rowD r)), none] b (fun g g0 g1 => by simp [strF_dg g0 g1, -strF])
  have hl : r.2.length ≤ 100000 := by rw [hr.len]; omega
  have hl2 : r.2.length + 1 + 1 ≤ 100000 := by rw [hr.len]; omega
  unfold rowD at hg ⊢
  unfold wordsR at hj
  simp only [List.map_cons, tS_st, List.map_map] at hj
  unfold F_state_row G_state_row
  simp [-strF, eM, h0, hg, aStar, anySeq, hl, hl2, aAny, eLc, hj]
  rfl
end DL

set_option maxHeartbeats 1000000
namespace DL
open PySem PySem.Spec PyProof.Rows L2
variable {x : Str} {rs : List Row}
theorem first_len (hx : x ∈ sgs) : (firstT x).length ≤ 30 := by
  have h : x.cps.toList.length = x.length := by simp [Str.length]
  obtain ⟨l1, l2⟩ := sg_len hx
  have e : firstT x = (maL ++ [32]) ++ x.cps.toList := rfl
  rw [e, List.length_append, h]
  simp [maL]
  omega
theorem sg_codes : ∀ x ∈ sgs, ∀ c ∈ x.cps.toList, 97 ≤ c ∧ c ≤ 122 := by decide +kernel
def linesL (x : Str) (rs : List Row) : List (List Nat) := firstT x :: rs.map rowT
theorem lines_len (hx : x ∈ sgs) (hr : RowsOk x.length rs) : (linesL x rs).length ≤ 7 ∧ ∀ y ∈ linesL x rs, y.length ≤ 30 := by
  obtain ⟨l1, l2⟩ := sg_len hx
  have n6 := hr.n1
  refine ⟨by simp [linesL]; omega, fun y hy => ?_⟩
  unfold linesL at hy
  rcases List.mem_cons.mp hy with rfl | hy
  · exact first_len hx
  · obtain ⟨r, h, rfl⟩ := List.mem_map.mp hy
    exact rowT_len (hr.ok r h) l2
theorem lines_sum (hx : x ∈ sgs) (hr : RowsOk x.length rs) : ((linesL x rs).map (·.length)).sum + (linesL x rs).length * 1 ≤ 300 := by
  obtain ⟨h1, h2⟩ := lines_len hx hr
  have h4 := sum_le h2
  omega
theorem page_len (hx : x ∈ sgs) (hr : RowsOk x.length rs) : (pageL x rs).length ≤ 300 := by
  have h := joinL_len [10] (linesL x rs)
  have h2 := lines_sum hx hr
  simp only [List.length_cons, List.length_nil] at h
  unfold pageL
  unfold linesL at *
  omega
theorem lines_no (hx : x ∈ sgs) (hr : RowsOk x.length rs) : ∀ y ∈ linesL x rs, (10 : Nat) ∉ y := by
  intro y hy hc
  unfold linesL at hy
  rcases List.mem_cons.mp hy with rfl | hy
  · have e : firstT x = (maL ++ [32]) ++ x.cps.toList := rfl
    rw [e] at hc
    rcases List.mem_append.mp hc with hc | hc
    · revert hc; decide
    · have := sg_codes x hx 10 hc
      omega
  · obtain ⟨r, h, rfl⟩ := List.mem_map.mp hy
    rcases joinL_mem hc with hc | ⟨y, hy, hc⟩
    · simp at hc
    · exact words_no (hr.ok r h) (by decide) y hy hc
theorem join_page (hx : x ∈ sgs) (hr : RowsOk x.length rs) : joinF "\n" [.lst ((linesL x rs).map fun l => .str (SX.S l))] = some (.str (pageT x rs)) := by
  have h := join_F [10] (linesL x rs) (by have := lines_sum hx hr; simp only [List.length_cons, List.length_nil]; omega)
  rw [tS_nl] at h
  exact h
theorem lc_mapm {α : Type} {g : GF} {F : EF} {e f : α → D} : ∀ (xs : List α) (ρ : Env) (b : Bag), (∀ a ∈ xs, ∃ ρ', g (e a) ρ b = some (ρ', b) ∧ F ρ' b = .ok (f a) b) → lcD g bYes F (xs.map e) ρ b = .ok (xs.map f) b
  | [], ρ, b, _ => rfl
  | a :: xs, ρ, b, h => by
    obtain ⟨ρ', h0, h1⟩ := h a List.mem_cons_self
    have h3 := lc_mapm xs ρ b fun d hd => h d (List.mem_cons_of_mem _ hd)
    simp [lcD, h0, h1, h3]
theorem str_ok (M : Addr) (hx : x ∈ sgs) (hr : RowsOk x.length rs) (b : Bag) : F_Machine_str_ M [machD M x rs] b = .ok (.str (pageT x rs)) b := by
  obtain ⟨l1, l2⟩ := sg_len hx
  have n6 := hr.n1
  have hj := join_page hx hr
  have hl : x.length ≤ 100000 := by omega
  have h8 : ("machine " : Str).length ≤ 100000 := by decide +kernel
  have h9 : (SX.S (firstT x)).length ≤ 200000 := by rw [SX.S_len]; have := first_len hx; omega
  have hm : (Str.ofString "machine ") ++ x = SX.S (firstT x) := tS_ms x
  have hl2 : rs.length ≤ 100000 := by omega
  have hl3 : rs.length + 1 ≤ 100000 := by omega
  have hc := lc_mapm (g := gN 1) (F := eCall (F_state_row) (aCons (eV 1) aNil)) (e := rowD) (f := fun r => .str (SX.S (rowT r))) rs [some (.sh (machD M x rs)), none] b (fun r h => by
    refine ⟨_, rfl, ?_⟩
    have hs := staterow_ok (hr.ok r h) l2 (by omega) b
    simp [hs])
  unfold linesL at hj
  simp only [List.map_cons, List.map_map] at hj
  have hj : joinF "\n" [.lst (.str (SX.S (firstT x)) :: rs.map fun r => .str (SX.S (rowT r)))] = some (.str (pageT x rs)) := hj
  unfold machD rowsD at hc ⊢
  unfold F_Machine_str_ G_Machine_str_
  rw [← hm] at h9
  have hf : eJ2 (eC (.str (Str.ofString "machine "))) (e1 (fldF M "_letters") (eV 0)) [some (.sh (.ins M ["_letters", "_states"] [.str x, .tup (rs.map rowD)])), none] b = .ok (.str (SX.S (firstT x))) b := by
    have hfl : fldF M "_letters" (.ins M ["_letters", "_states"] [.str x, .tup (rs.map rowD)]) = some (.str x) := fld_l M x rs
    simp [eJ2, fmtD, h8, hl, h9, hfl]
    exact hm
  have hfs : fldF M "_states" (.ins M ["_letters", "_states"] [.str x, .tup (rs.map rowD)]) = some (.tup (rs.map rowD)) := fld_s M x rs
  simp [eM, hfs, hf, hc, aStar, anySeq, hl, hl2, hl3, aAny, eLc]
  simp [hj]
theorem toldletters_ok (hx : x ∈ sgs) (b : Bag) : F_told_letters [.str (SX.S (firstT x))] b = .ok (.str x) b := by
  have h := split_F (c := 32) (by decide) (ys := [maL, x.cps.toList]) (by simp) (by
    intro p hp
    rcases List.mem_cons.mp hp with rfl | hp
    · decide
    · rcases List.mem_cons.mp hp with rfl | hp
      · intro hc
        have := sg_codes x hx 32 hc
        omega
      · cases hp) (by have := first_len hx; unfold firstT at this; omega)
  rw [tS_sp] at h
  simp only [List.map_cons, List.map_nil, tS_ma, SX.S_tl] at h
  have hq := neF_str (x := "machine") (by decide +kernel)
  unfold F_told_letters G_told_letters
  unfold firstT
  simp [eM, h, hq, -splitF]
theorem toldstate_ok {k n : Nat} {r : Row} (hr : RowOk k n r) (hk : k ≤ 3) (hn : n ≤ 7) (b : Bag) : F_told_state [.str (SX.S (rowT r))] b = .ok (rowD r) b := by
  have h := split_F (c := 32) (by decide) (ys := wordsR r) (by simp [wordsR]) (words_no hr (by decide)) (by have := rowT_len hr hk; unfold rowT at this; omega)
  rw [tS_sp] at h
  have e0 : (wordsR r).map (fun l => D.str (SX.S l)) = .str "state" :: ((r.1 :: r.2).map fun i => .str (SX.S (dg i))) := by
    unfold wordsR
    simp [tS_st]
  rw [e0] at h
  have hq := neF_str (x := "state") (by decide +kernel)
  have hb : ∀ g ∈ r.1 :: r.2, 0 ≤ g ∧ g ≤ 6 := fun g hg => by
    rcases List.mem_cons.mp hg with rfl | hg
    · exact ⟨hr.c0, hr.c1⟩
    · have := hr.go g hg
      omega
  have hlen : (r.1 :: r.2).length = k + 1 := by rw [List.length_cons, hr.len]
  let ws : List D := (r.1 :: r.2).map fun i => .str (SX.S (dg i))
  have hw : ws.length = k + 1 := by rw [List.length_map, hlen]
  let E1 : Env := [some (.sh (.str (SX.S (rowT r)))), some (.sh (.lst (.str "state" :: ws))), none, none]
  have hun : wipeE (unown E1) [3] = E1 := rfl
  have hsl : eSl (eV 1) (oSome (eC (.int 1))) oNo E1 b = .ok (.lst ws) b := by
    have hc : cutD (.str "state" :: ws) (some 1) none = ws := by
      unfold cutD
      have e1 : HT.sIx (D.str "state" :: ws).length 0 (some 1) = 1 := (HT.sIx_nat _ 0 1).trans (by simp)
      have e2 : HT.sIx (D.str "state" :: ws).length (D.str "state" :: ws).length none = (D.str "state" :: ws).length := rfl
      rw [e1, e2, List.drop_succ_cons, List.drop_zero, List.length_cons]
      exact List.take_of_length_le (by omega)
    simp [eSl, oSome, oNo, E1, slF, hc]
  have hall : lcD (gN 3) bYes (eAnd (e2 eqF (eB lenF (aCons (eV 3) aNil)) (eC (.int 1))) (e2 inF (eV 3) (eC (.str "0123456789")))) ws E1 b = .ok (ws.map fun _ => .bl true) b := lc_map _ _ _ fun d hd => by
    obtain ⟨g, hg, rfl⟩ := List.mem_map.mp hd
    obtain ⟨g0, g1⟩ := hb g hg
    have hi := inF_dg g0 g1
    have hl : (SX.S (dg g)).length = 1 := rfl
    refine ⟨_, rfl, ?_⟩
    simp [E1, hl, hi]
  have hnum : lcD (gN 3) bYes (eB intTF (aCons (eV 3) aNil)) ws E1 b = .ok ((r.1 :: r.2).map D.int) b := by
    have h2 := lc_map (g := gN 3) (F := eB intTF (aCons (eV 3) aNil)) (f := fun d => (intTF [d]).getD .non) ws E1 b (fun d hd => by
      obtain ⟨g, hg, rfl⟩ := List.mem_map.mp hd
      obtain ⟨g0, g1⟩ := hb g hg
      refine ⟨_, rfl, ?_⟩
      simp [E1, intT_dg g0 g1, -intTF])
    rw [h2, List.map_map]
    congr 1
    refine List.map_congr_left fun g hg => ?_
    obtain ⟨g0, g1⟩ := hb g hg
    simp only [Function.comp, intT_dg g0 g1]
    rfl
  have hT := allF_true (ks := ws.map fun _ => .bl true) (fun q hq => by
    obtain ⟨_, _, rfl⟩ := List.mem_map.mp hq
    rfl)
  have hwl : ws.length ≤ 100000 := by omega
  have hkl : r.2.length ≤ 100000 := by rw [hr.len]; omega
  let E2 : Env := [some (.sh (.str (SX.S (rowT r)))), some (.sh (.lst (.str "state" :: ws))), some (.sh (.lst ((r.1 :: r.2).map D.int))), none]
  have e : F_told_state = runD 4 1 G_told_state := rfl
  have hst : startE 4 [D.str (SX.S (rowT r))] = [some (.sh (.str (SX.S (rowT r)))), none, none, none] := rfl
  have r0 : (sAsg (eM splitF (eV 0) (aCons (eC (.str " ")) aNil)) (gN 1)) [some (.sh (.str (SX.S (rowT r)))), none, none, none] b = .nx E1 b := by
    unfold rowT
    simp only [sAsg, eM, eV, aCons, eC, aNil]
    simp [h, -splitF]
    simp [E1, rowT, ws]
  have r1 : (sIf (bOr (bB (e2 neF (eIx (eV 1) (eC (.int 0))) (eC (.str "state")))) (bB (e2 ltF (eB lenF (aCons (eV 1) aNil)) (eC (.int 2))))) (sRet (eC .non)) sNil) E1 b = .nx E1 b := by
    have h2 : ¬ ((ws.length : Int) + 1 < 2) := by omega
    have hwl2 : ws.length + 1 ≤ 100000 := by omega
    simp [E1, hq, h2, hwl2]
  have r2 : (sIf (bNot (bB (eB allF (aCons (eLc (aAny (eSl (eV 1) (oSome (eC (.int 1))) oNo)) [3] (gN 3) bYes (eAnd (e2 eqF (eB lenF (aCons (eV 3) aNil)) (eC (.int 1))) (e2 inF (eV 3) (eC (.str "0123456789"))))) aNil)))) (sRet (eC .non)) sNil) E1 b = .nx E1 b := by
    have hz : (eLc (aAny (eSl (eV 1) (oSome (eC (.int 1))) oNo)) [3] (gN 3) bYes (eAnd (e2 eqF (eB lenF (aCons (eV 3) aNil)) (eC (.int 1))) (e2 inF (eV 3) (eC (.str "0123456789"))))) E1 b = .ok (.lst (ws.map fun _ => .bl true)) b := by
      simp only [eLc, aAny, hsl, bind_ok_, anySeq, hun, hall]
      simp [hwl, hall]
    simp only [sIf, bNot, bB, eB, aCons, hz, bind_ok_, aNil, hT, pureO_some_]
    simp
  have r3 : (sAsg (eLc (aAny (eSl (eV 1) (oSome (eC (.int 1))) oNo)) [3] (gN 3) bYes (eB intTF (aCons (eV 3) aNil))) (gN 2)) E1 b = .nx E2 b := by
    have hz : (eLc (aAny (eSl (eV 1) (oSome (eC (.int 1))) oNo)) [3] (gN 3) bYes (eB intTF (aCons (eV 3) aNil))) E1 b = .ok (.lst ((r.1 :: r.2).map D.int)) b := by
      simp only [eLc, aAny, hsl, bind_ok_, anySeq, hun, hnum]
      simp [hwl, hnum]
    simp only [sAsg, hz, st_ok_]
    rfl
  have r4 : (sRet (eTup (aCons (eIx (eV 2) (eC (.int 0))) (aCons (eB tupleF (aCons (eSl (eV 2) (oSome (eC (.int 1))) oNo) aNil)) aNil)))) E2 b = .rt (rowD r) b := by
    have hsl2 : eSl (eV 2) (oSome (eC (.int 1))) oNo E2 b = .ok (.lst (r.2.map D.int)) b := by
      have hc : cutD ((r.1 :: r.2).map D.int) (some 1) none = r.2.map D.int := by
        unfold cutD
        have e1 : HT.sIx ((r.1 :: r.2).map D.int).length 0 (some 1) = 1 := (HT.sIx_nat _ 0 1).trans (by simp)
        have e2 : HT.sIx ((r.1 :: r.2).map D.int).length ((r.1 :: r.2).map D.int).length none = ((r.1 :: r.2).map D.int).length := rfl
        rw [e1, e2, List.map_cons, List.drop_succ_cons, List.drop_zero, List.length_cons]
        exact List.take_of_length_le (by omega)
      simp only [eSl, oSome, oNo, E2]
      simp only [List.map_cons] at hc
      simp [slF, hc]
    have h0 : eIx (eV 2) (eC (.int 0)) E2 b = .ok (.int r.1) b := by simp [E2]
    have ht : eB tupleF (aCons (eSl (eV 2) (oSome (eC (.int 1))) oNo) aNil) E2 b = .ok (.tup (r.2.map D.int)) b := by
      simp only [eB, aCons, hsl2, bind_ok_, aNil]
      simp [tupleF, hkl]
    simp only [sRet, eTup, aCons, h0, ht, bind_ok_, aNil]
    simp [rowD]
  rw [e]
  simp only [runD, List.length_cons, List.length_nil, if_true, hst]
  unfold G_told_state
  rw [seq_step r0, seq_step r1, seq_step r2, seq_step r3, r4]
  rfl
end DL

set_option maxHeartbeats 1000000
namespace DL
open PySem PySem.Spec PyProof.Rows L2
def okC : List Nat := [10, 32] ++ (List.range 10).map (48 + ·) ++ (List.range 26).map (97 + ·)
theorem okC_rch : ∀ c ∈ okC, (Builtin.Str.reprChar 39 c).length ≤ 2 ∧ (∀ d ∈ Builtin.Str.reprChar 39 c, d < 0x110000) ∧ c ≠ 39 ∧ c < 0x110000 := by decide +kernel
theorem rep_C {w : Str} (h : ∀ c ∈ w.cps.toList, c ∈ okC) : (reprText w).cps.toList = 39 :: (w.cps.toList.flatMap (Builtin.Str.reprChar 39) ++ [39]) := by
  have hq : reprQuote w = 39 := by
    unfold reprQuote
    have : w.cps.contains 39 = false := by
      rw [← Array.contains_toList, Bool.eq_false_iff]
      intro hc
      have := List.contains_iff_mem.mp hc
      exact (okC_rch 39 (h 39 this)).2.2.1 rfl
    rw [this]
    rfl
  unfold reprText
  rw [hq]
  show ((w.cps.foldl (fun out c => out ++ (Builtin.Str.reprChar 39 c).toArray) #[39]).push 39).toList = _
  rw [Array.toList_push, ← Array.foldl_toList, cps_fold]
  rfl
theorem flat_len {f : Nat → List Nat} : ∀ {l : List Nat}, (∀ c ∈ l, (f c).length ≤ 2) → (l.flatMap f).length ≤ 2 * l.length
  | [], _ => by simp
  | c :: l, h => by
    have h1 := h c List.mem_cons_self
    have h2 := flat_len fun d hd => h d (List.mem_cons_of_mem _ hd)
    rw [List.flatMap_cons, List.length_append, List.length_cons]
    omega
theorem shB_strC {w : Str} (h : ∀ c ∈ w.cps.toList, c ∈ okC) : ShB (.str w) 0 (2 * w.length + 2) := by
  have e := rep_C h
  refine ⟨.str w, rfl, rfl, rfl, Nat.le_refl _, ?_, ?_⟩
  · show (reprText w).length ≤ _
    have h1 := flat_len (f := Builtin.Str.reprChar 39) fun c hc => (okC_rch c (h c hc)).1
    rw [← str_len, e]
    simp only [List.length_cons, List.length_append, List.length_nil]
    have : w.cps.toList.length = w.length := by simp [Str.length]
    omega
  · show PyData.strOk (reprText w) = true
    unfold PyData.strOk
    rw [← Array.all_toList, List.all_eq_true, e]
    intro c hc
    rcases List.mem_cons.mp hc with rfl | hc
    · decide
    · rcases List.mem_append.mp hc with hc | hc
      · obtain ⟨d, hd, hc⟩ := List.mem_flatMap.mp hc
        exact decide_eq_true ((okC_rch d (h d hd)).2.1 c hc)
      · have : c = 39 := by simpa using hc
        subst this
        decide
theorem sg_C : ∀ x ∈ sgs, ∀ c ∈ x.cps.toList, c ∈ okC := by decide +kernel
variable {x : Str} {rs : List Row}
theorem dg_C {i : Int} (h0 : 0 ≤ i) (h1 : i ≤ 6) : ∀ c ∈ dg i, c ∈ okC := by
  rcases six h0 h1 with rfl | rfl | rfl | rfl | rfl | rfl | rfl <;> decide +kernel
theorem page_C (hx : x ∈ sgs) (hr : RowsOk x.length rs) : ∀ c ∈ (pageT x rs).cps.toList, c ∈ okC := by
  intro c hc
  have hc : c ∈ TL.joinL [10] (linesL x rs) := hc
  rcases joinL_mem hc with hc | ⟨y, hy, hc⟩
  · have : ∀ c ∈ ([10] : List Nat), c ∈ okC := by decide +kernel
    exact this c hc
  · unfold linesL at hy
    rcases List.mem_cons.mp hy with rfl | hy
    · have e : firstT x = (maL ++ [32]) ++ x.cps.toList := rfl
      rw [e] at hc
      rcases List.mem_append.mp hc with hc | hc
      · have : ∀ c ∈ maL ++ [32], c ∈ okC := by decide +kernel
        exact this c hc
      · exact sg_C x hx c hc
    · obtain ⟨r, h, rfl⟩ := List.mem_map.mp hy
      have ok := hr.ok r h
      have n6 := hr.n1
      rcases joinL_mem hc with hc | ⟨y, hy, hc⟩
      · have : ∀ c ∈ ([32] : List Nat), c ∈ okC := by decide +kernel
        exact this c hc
      · unfold wordsR at hy
        rcases List.mem_cons.mp hy with rfl | hy
        · have : ∀ c ∈ stL, c ∈ okC := by decide +kernel
          exact this c hc
        · rcases List.mem_cons.mp hy with rfl | hy
          · exact dg_C ok.c0 ok.c1 c hc
          · obtain ⟨g, hg, rfl⟩ := List.mem_map.mp hy
            obtain ⟨g0, g1⟩ := ok.go g hg
            exact dg_C g0 (by omega) c hc
def pgB : SF := (sPush 2 (eM joinF (eC (.str " ")) (aCons (e2 addF (eLst (aCons (eC (.str "state")) (aCons (eB strF (aCons (eV 3) aNil)) aNil))) (eLc (aAny (eV 4)) [5] (gN 5) bYes (eB strF (aCons (eV 5) aNil)))) aNil)))
theorem pgB_ok {k n : Nat} {r : Row} (hr : RowOk k n r) (hk : k ≤ 3) (hn : n ≤ 7) (d0 d1 : D) (ds : List D) (hd : ds.length ≤ 90) (b : Bag) : pgB [some (.sh d0), some (.sh d1), some (.ow (.lst ds)), some (.sh (.int r.1)), some (.sh (.tup (r.2.map D.int))), none] b = .nx [some (.sh d0), some (.sh d1), some (.ow (.lst (ds ++ [.str (SX.S (rowT r))]))), some (.sh (.int r.1)), some (.sh (.tup (r.2.map D.int))), none] b := by
  have hj := join_F [32] (wordsR r) (row_sum hr hk)
  rw [tS_sp] at hj
  have h0 := strF_dg hr.c0 hr.c1
  let E : Env := [some (.sh d0), some (.sh d1), some (.ow (.lst ds)), some (.sh (.int r.1)), some (.sh (.tup (r.2.map D.int))), none]
  let E' : Env := wipeE (unown E) [5]
  have hun : E' = [some (.sh d0), some (.sh d1), none, some (.sh (.int r.1)), some (.sh (.tup (r.2.map D.int))), none] := rfl
  have hg := goals_str (F := eB strF (aCons (eV 5) aNil)) (i := 5) hr hn E' b (fun g g0 g1 => by rw [hun]; simp [strF_dg g0 g1, -strF])
  have hl : r.2.length ≤ 100000 := by rw [hr.len]; omega
  have hl2 : r.2.length + 1 + 1 ≤ 100000 := by rw [hr.len]; omega
  have hl3 : ds.length ≤ 100000 := by omega
  have hz : eLc (aAny (eV 4)) [5] (gN 5) bYes (eB strF (aCons (eV 5) aNil)) E b = .ok (.lst ((r.2.map dg).map fun l => .str (SX.S l))) b := by
    have h4 : eV 4 E b = .ok (.tup (r.2.map D.int)) b := rfl
    have hg' : lcD (gN 5) bYes (eB strF (aCons (eV 5) aNil)) (r.2.map D.int) (wipeE (unown E) [5]) b = _ := hg
    have hl' : (r.2.map D.int).length ≤ 100000 := by rw [List.length_map]; exact hl
    have ha4 : allOf (.tup (r.2.map D.int)) = some (r.2.map D.int) := rfl
    simp only [eLc, aAny, h4, bind_ok_, ha4, pureO_some_, if_pos hl', hg']
  unfold wordsR at hj
  simp only [List.map_cons, tS_st, List.map_map] at hj
  have hs : eB strF (aCons (eV 3) aNil) E b = .ok (.str (SX.S (dg r.1))) b := by
    simp [E, h0, -strF]
  have he : eM joinF (eC (.str " ")) (aCons (e2 addF (eLst (aCons (eC (.str "state")) (aCons (eB strF (aCons (eV 3) aNil)) aNil))) (eLc (aAny (eV 4)) [5] (gN 5) bYes (eB strF (aCons (eV 5) aNil)))) aNil) E b = .ok (.str (SX.S (rowT r))) b := by
    have ha : e2 addF (eLst (aCons (eC (.str "state")) (aCons (eB strF (aCons (eV 3) aNil)) aNil))) (eLc (aAny (eV 4)) [5] (gN 5) bYes (eB strF (aCons (eV 5) aNil))) E b = .ok (.lst (.str "state" :: .str (SX.S (dg r.1)) :: (r.2.map ((fun l => D.str (SX.S l)) ∘ dg)))) b := by
      have ha1 : eLst (aCons (eC (.str "state")) (aCons (eB strF (aCons (eV 3) aNil)) aNil)) E b = .ok (.lst [.str "state", .str (SX.S (dg r.1))]) b := by
        simp only [eLst, aCons, hs, eC, bind_ok_, aNil]
        rfl
      have hl4 : 2 + r.2.length ≤ 100000 := by omega
      simp only [e2, ha1, hz, bind_ok_]
      simp [hl4, List.map_map]
    simp only [eM, eC, bind_ok_, aCons, ha, aNil, hj, pureO_some_]
    rfl
  show pgB E b = _
  simp only [pgB, sPush, he]
  simp [E, hl3]
theorem lpage_ok (hx : x ∈ sgs) (hr : RowsOk x.length rs) (b : Bag) : F__law_page [.str x, rowsD rs] b = .ok (.str (pageT x rs)) b := by
  obtain ⟨l1, l2⟩ := sg_len hx
  have n6 := hr.n1
  have hj := join_page hx hr
  unfold linesL at hj
  simp only [List.map_cons, List.map_map] at hj
  let L (i : Nat) : List D := .str (SX.S (firstT x)) :: (rs.take i).map fun r => .str (SX.S (rowT r))
  obtain ⟨ρ', b', f1, s3, s4, f2, f3⟩ := loop_ind (g := gT 2 (gsC (gN 3) (gsC (gN 4) gsN))) (B := pgB)
    (fun i ρ b' => ∃ s3 s4, ρ = [some (.sh (.str x)), some (.sh (rowsD rs)), some (.ow (.lst (L i))), s3, s4, none] ∧ b' = b)
    (rs.map rowD) 0 (fun i d hd ρ b' ⟨s3, s4, g1, g2⟩ => by
      subst g1 g2
      rw [List.getElem?_map, Option.map_eq_some_iff] at hd
      obtain ⟨r, hi, rfl⟩ := hd
      have hil : i < rs.length := (List.getElem?_eq_some_iff.mp hi).1
      have hb := pgB_ok (hr.ok r (List.mem_of_getElem? hi)) l2 (by omega) (.str x) (rowsD rs) (L i) (by simp only [L, List.length_cons, List.length_map, List.length_take]; omega) b'
      refine ⟨([some (.sh (.str x)), some (.sh (rowsD rs)), some (.ow (.lst (L (0 + i)))), some (.sh (.int r.1)), some (.sh (.tup (r.2.map D.int))), none], b'), [some (.sh (.str x)), some (.sh (rowsD rs)), some (.ow (.lst (L i ++ [.str (SX.S (rowT r))]))), some (.sh (.int r.1)), some (.sh (.tup (r.2.map D.int))), none], b', rfl, ?_, some (.sh (.int r.1)), some (.sh (.tup (r.2.map D.int))), ?_, rfl⟩
      · rw [Nat.zero_add]
        exact hb
      · have e : L (i + 1) = L i ++ [.str (SX.S (rowT r))] := by
          simp only [L, List.take_succ, hi, Option.toList_some, List.map_append, List.map_cons, List.map_nil, List.cons_append]
        rw [Nat.zero_add, e]) [some (.sh (.str x)), some (.sh (rowsD rs)), some (.ow (.lst (L 0))), none, none, none] b ⟨none, none, rfl, rfl⟩
  subst f2 f3
  have hL : L (0 + (rs.map rowD).length) = .str (SX.S (firstT x)) :: rs.map fun r => .str (SX.S (rowT r)) := by
    simp only [L, Nat.zero_add, List.length_map, List.take_length]
  rw [hL] at f1
  have hm : (Str.ofString "machine ") ++ x = SX.S (firstT x) := tS_ms x
  have h8 : ("machine " : Str).length + x.length ≤ 100000 := by
    have : ("machine " : Str).length = 8 := by decide +kernel
    omega
  have e : F__law_page = runD 6 2 G__law_page := rfl
  have hst : startE 6 [D.str x, rowsD rs] = [some (.sh (.str x)), some (.sh (rowsD rs)), none, none, none, none] := rfl
  have r0 : (sOwn (eLst (aCons (e2 addF (eC (.str "machine ")) (eV 0)) aNil)) 2) [some (.sh (.str x)), some (.sh (rowsD rs)), none, none, none, none] b' = .nx [some (.sh (.str x)), some (.sh (rowsD rs)), some (.ow (.lst (L 0))), none, none, none] b' := by
    simp [h8, hm]
    rfl
  have r1 : sFor (aAny (eV 1)) (gT 2 (gsC (gN 3) (gsC (gN 4) gsN))) pgB [some (.sh (.str x)), some (.sh (rowsD rs)), some (.ow (.lst (L 0))), none, none, none] b' = .nx [some (.sh (.str x)), some (.sh (rowsD rs)), some (.ow (.lst (.str (SX.S (firstT x)) :: rs.map fun r => .str (SX.S (rowT r))))), s3, s4, none] b' := by
    unfold rowsD at f1 ⊢
    simp only [sFor, aAny, eV, List.getElem?_cons_succ, List.getElem?_cons_zero, bind_ok_, anySeq, st_ok_]
    exact f1
  rw [e]
  simp only [runD, List.length_cons, List.length_nil, if_true, hst]
  have hG : G__law_page = sSeq (sOwn (eLst (aCons (e2 addF (eC (.str "machine ")) (eV 0)) aNil)) 2) (sSeq (sFor (aAny (eV 1)) (gT 2 (gsC (gN 3) (gsC (gN 4) gsN))) pgB) (sFreeze 2 (sRet (eM joinF (eC (.str "\n")) (aCons (eV 2) aNil))))) := rfl
  have hj : joinF "\n" [.lst (.str (SX.S (firstT x)) :: rs.map fun r => .str (SX.S (rowT r)))] = some (.str (pageT x rs)) := hj
  rw [hG, seq_step r0, seq_step r1]
  simp [eM, hj]
theorem mk_of' (M : Addr) {x : Str} (hx : x ∈ sgs) {rs : List Row} (hr : RowsOk x.length rs) {G : AF} {ρ : Env} {b b1 : Bag} (h : G ρ b = .ok [.str x, rowsD rs] b1) : eMake M (Fm_Machine M) G ρ b = .ok (machD M x rs) b1 := by
  unfold eMake
  rw [h, bind_ok_, make_ok M b1 hx hr, bind_ok_]
  rfl
theorem read_ok (M : Addr) (hx : x ∈ sgs) (hr : RowsOk x.length rs) (b : Bag) : F_Machine_read M [.obj (.ref M), .str (pageT x rs)] b = .ok (machD M x rs) b := by
  obtain ⟨l1, l2⟩ := sg_len hx
  have n1 := hr.n0
  have n6 := hr.n1
  have h := split_F (c := 10) (by decide) (ys := linesL x rs) (by simp [linesL]) (lines_no hx hr) (by have := page_len hx hr; unfold pageL at this; unfold linesL; omega)
  rw [tS_nl] at h
  have e0 : (linesL x rs).map (fun l => D.str (SX.S l)) = .str (SX.S (firstT x)) :: rs.map fun r => .str (SX.S (rowT r)) := by
    unfold linesL
    simp
  rw [e0] at h
  have h : splitF (pageT x rs) [.str "\n"] = _ := h
  let ws : List D := rs.map fun r => .str (SX.S (rowT r))
  let E1 : Env := [some (.sh (.obj (.ref M))), some (.sh (.str (pageT x rs))), none, none, none, none]
  let E2 : Env := [some (.sh (.obj (.ref M))), some (.sh (.str (pageT x rs))), some (.sh (.lst (.str (SX.S (firstT x)) :: ws))), none, none, none]
  let E3 : Env := [some (.sh (.obj (.ref M))), some (.sh (.str (pageT x rs))), some (.sh (.lst (.str (SX.S (firstT x)) :: ws))), some (.sh (.str x)), none, none]
  let E4 : Env := [some (.sh (.obj (.ref M))), some (.sh (.str (pageT x rs))), some (.sh (.lst (.str (SX.S (firstT x)) :: ws))), some (.sh (.str x)), some (.sh (rowsD rs)), none]
  have hw : ws.length = rs.length := List.length_map ..
  have hwl : ws.length ≤ 100000 := by omega
  have hrl : rs.length ≤ 100000 := by omega
  have hsl : eSl (eV 2) (oSome (eC (.int 1))) oNo E3 b = .ok (.lst ws) b := by
    have hc : cutD (.str (SX.S (firstT x)) :: ws) (some 1) none = ws := by
      unfold cutD
      have e1 : HT.sIx (D.str (SX.S (firstT x)) :: ws).length 0 (some 1) = 1 := (HT.sIx_nat _ 0 1).trans (by rw [List.length_cons]; omega)
      have e2 : HT.sIx (D.str (SX.S (firstT x)) :: ws).length (D.str (SX.S (firstT x)) :: ws).length none = (D.str (SX.S (firstT x)) :: ws).length := rfl
      rw [e1, e2, List.drop_succ_cons, List.drop_zero, List.length_cons]
      exact List.take_of_length_le (by omega)
    simp [eSl, oSome, oNo, E3, slF, hc]
  have hun : wipeE (unown E3) [5] = E3 := rfl
  have hc := lc_mapm (g := gN 5) (F := eCall (F_told_state) (aCons (eV 5) aNil)) (e := fun r => .str (SX.S (rowT r))) (f := rowD) rs E3 b (fun r h => by
    refine ⟨_, rfl, ?_⟩
    have hs := toldstate_ok (hr.ok r h) l2 (by omega) b
    simp [E3, hs])
  have hc : lcD (gN 5) bYes (eCall (F_told_state) (aCons (eV 5) aNil)) ws E3 b = .ok (rs.map rowD) b := hc
  have hz : eLc (aAny (eSl (eV 2) (oSome (eC (.int 1))) oNo)) [5] (gN 5) bYes (eCall (F_told_state) (aCons (eV 5) aNil)) E3 b = .ok (.lst (rs.map rowD)) b := by
    simp only [eLc, aAny, hsl, bind_ok_, anySeq, hun, hc]
    simp [hwl, hc]
  have e : F_Machine_read M = runD 6 2 (G_Machine_read M) := rfl
  have hst : startE 6 [D.obj (.ref M), .str (pageT x rs)] = E1 := rfl
  have hl := letters_ok M b hx
  have hwr := wrong_ok M b hx hr
  have ht := toldletters_ok hx b
  have hmk := make_ok M b hx hr
  rw [e]
  simp only [runD, List.length_cons, List.length_nil, if_true, hst]
  unfold G_Machine_read
  have r0 : (sIf (bNot (bB (eB (isiF (.ty "str") (fun n => kitB n "str") (ownB M)) (aCons (eV 1) (aCons (eC (.obj (.ty "str"))) aNil))))) sNever sNil) E1 b = .nx E1 b := by
    have hi := isi_str M (pageT x rs)
    simp [E1, hi]
  have r1 : (sAsg (eM splitF (eV 1) (aCons (eC (.str "\n")) aNil)) (gN 2)) E1 b = .nx E2 b := by
    simp only [sAsg, eM, eV, aCons, eC, aNil]
    simp [E1, h, -splitF]
    simp [E2, ws]
  have r2 : (sAsg (eCall (F_told_letters) (aCons (eIx (eV 2) (eC (.int 0))) aNil)) (gN 3)) E2 b = .nx E3 b := by
    have h0 : eIx (eV 2) (eC (.int 0)) E2 b = .ok (.str (SX.S (firstT x))) b := by simp [E2]
    simp only [sAsg, eCall, aCons, h0, bind_ok_, aNil, ht, st_ok_]
    rfl
  have r3 : (sAsg (eB tupleF (aCons (eLc (aAny (eSl (eV 2) (oSome (eC (.int 1))) oNo)) [5] (gN 5) bYes (eCall (F_told_state) (aCons (eV 5) aNil))) aNil)) (gN 4)) E3 b = .nx E4 b := by
    have h0 : eB tupleF (aCons (eLc (aAny (eSl (eV 2) (oSome (eC (.int 1))) oNo)) [5] (gN 5) bYes (eCall (F_told_state) (aCons (eV 5) aNil))) aNil) E3 b = .ok (rowsD rs) b := by
      simp only [eB, aCons, hz, bind_ok_, aNil]
      simp [tupleF, rowsD, hrl]
    simp only [sAsg, h0, st_ok_]
    rfl
  have r4 : (sIf (bOr (bNot (bB (eCall (F_is_letters M) (aCons (eV 3) aNil)))) (bOr (bB (e2 eqF (eB lenF (aCons (eV 4) aNil)) (eC (.int 0)))) (bB (e2 geF (eCall (F_first_wrong_state M) (aCons (eV 3) (aCons (eV 4) aNil))) (eC (.int 0)))))) sNever sNil) E4 b = .nx E4 b := by
    have h0 : ¬ ((rs.length : Int) = 0) := by omega
    have h1 : ¬ rs = [] := fun e => by rw [e] at n1; simp at n1
    unfold rowsD at hwr
    simp [E4, rowsD, hl, hwr, h0, h1, hrl]
  have r5 : (sRet (eMakeL 0 M (Fm_Machine M) (aCons (eV 3) (aCons (eV 4) aNil)))) E4 b = .rt (machD M x rs) b := by
    have hE : E4[0]? = some (some (.sh (.obj (.ref M)))) := rfl
    have hmm := mk_of' M hx hr (G := aCons (eV 3) (aCons (eV 4) aNil)) (ρ := E4) (b := b) (b1 := b) rfl
    simp only [sRet, eMakeL, hE, if_true, hmm, st_ok_]
  rw [seq_step r0, seq_step r1, seq_step r2, seq_step r3, seq_step r4, r5]
  rfl
end DL

set_option maxHeartbeats 1000000
namespace DL
open PySem PySem.Spec PyProof.Rows L2
def qa_0b_0 (M : Addr) : SF := (sAsg (eCall (F__law_signs) (aCons (eV 0) aNil)) (gN 2))
def qa_0b_1 (M : Addr) : SF := (sAsg (eCall (F__law_rows) (aCons (eV 0) (aCons (eV 2) (aCons (eC (.int 6)) aNil)))) (gN 3))
def qa_0b_2 (M : Addr) : SF := (sAsg (eCall (F__law_page) (aCons (eV 2) (aCons (eV 3) aNil))) (gN 4))
def qa_0b_3 (M : Addr) : SF := (sAsg (eLst (aCons (eMake M (Fm_Machine M) (aCons (eV 2) (aCons (eV 3) aNil))) (aCons (eMakeK 2 M (Fm_Machine M) (pick [1, 0]) (aCons (eV 3) (aCons (eV 2) aNil))) (aCons (eCM M (F_Machine_read M) (eC (.obj (.ref M))) (aCons (eV 4) aNil)) (aCons (eCMK 1 M (F_Machine_read M) (pick [0]) (eC (.obj (.ref M))) (aCons (eV 4) aNil)) aNil))))) (gN 5))
def qa_0b_4b_0 (M : Addr) : SF := (sAsg (eLst (aCons (e1 (fldF M "_letters") (eV 6)) (aCons (e1 (fldF M "_states") (eV 6)) (aCons (eStrO M (F_Machine_str_ M) (aCons (eV 6) aNil)) (aCons (eLenO M (F_Machine_len_ M) (aCons (eV 6) aNil)) (aCons (eBoolO M (F_Machine_len_ M) (aCons (eV 6) aNil)) aNil)))))) (gN 7))
def qa_0b_4b_1 (M : Addr) : SF := (sIf (bB (e2 neF (eB reprN (aCons (eV 7) aNil)) (eB reprF (aCons (eLst (aCons (eV 2) (aCons (eV 3) (aCons (eV 4) (aCons (eB lenF (aCons (eV 3) aNil)) (aCons (eC (.bl true)) aNil)))))) aNil)))) (sRet (eC (.bl false))) sNil)
def qa_0b_4b (M : Addr) : SF := (sSeq (qa_0b_4b_0 M) (qa_0b_4b_1 M))
def qa_0b_4 (M : Addr) : SF := (sFor (aAny (e2 addF (eV 5) (eLst (aCons (eCM M (F_Machine_read M) (eC (.obj (.ref M))) (aCons (eStrO M (F_Machine_str_ M) (aCons (eIx (eV 5) (eC (.int 0))) aNil)) aNil)) aNil)))) (gN 6) (qa_0b_4b M))
def qa_0b (M : Addr) : SF := (sSeq (qa_0b_0 M) (sSeq (qa_0b_1 M) (sSeq (qa_0b_2 M) (sSeq (qa_0b_3 M) (qa_0b_4 M)))))
def qa_0 (M : Addr) : SF := (sFor (aRng (aCons (eC (.int 3)) aNil)) (gN 1) (qa_0b M))
def qa_1 (M : Addr) : SF := (sRet (eC (.bl true)))
def qa (M : Addr) : SF := (sSeq (qa_0 M) (qa_1 M))
abbrev env2 (o1 o2 o3 o4 o5 o6 o7 : Option D) : Env := [some (.sh .bag), o1.map SD.sh, o2.map SD.sh, o3.map SD.sh, o4.map SD.sh, o5.map SD.sh, o6.map SD.sh, o7.map SD.sh]
theorem rep02 {x : Str} {rs : List Row} (hx : x ∈ sgs) (hr : RowsOk x.length rs) : ∃ z, reprF [.lst [.str x, rowsD rs, .str (pageT x rs), .int rs.length, .bl true]] = some (.str z) ∧ PyData.strOk z = true := by
  obtain ⟨l1, l2⟩ := sg_len hx
  have n6 := hr.n1
  have hp : (pageT x rs).length ≤ 300 := by
    unfold pageT
    rw [SX.S_len]
    exact page_len hx hr
  refine repr_of (k := 4) (n := 5 * 702 + 3) (shB_lst (k := 3) (n := 700) (m := 5) (fun d hd => ?_) (by simp)) (by decide) (by decide)
  simp only [List.mem_cons, List.not_mem_nil, or_false] at hd
  rcases hd with rfl | rfl | rfl | rfl | rfl
  · exact (shB_strC (sg_C x hx)).mono (by decide) (by omega)
  · exact (shB_rows hr l2).mono (by decide) (by decide)
  · exact (shB_strC (page_C hx hr)).mono (by decide) (by omega)
  · exact (shB_int (by omega) (by omega)).mono (by decide) (by decide)
  · exact (shB_bl true).mono (by decide) (by decide)
theorem lenM_ok (M : Addr) (x : Str) {rs : List Row} (h : rs.length ≤ 6) (b : Bag) : F_Machine_len_ M [machD M x rs] b = .ok (.int rs.length) b := by
  have hl : rs.length ≤ 100000 := by omega
  have hfs : fldF M "_states" (.ins M ["_letters", "_states"] [.str x, .tup (rs.map rowD)]) = some (.tup (rs.map rowD)) := fld_s M x rs
  unfold F_Machine_len_ G_Machine_len_ machD rowsD
  simp [hfs, hl]
theorem in02 (M : Addr) {x : Str} {rs : List Row} (hx : x ∈ sgs) (hr : RowsOk x.length rs) (o1 o5 o7 : Option D) (b : Bag) :
    ∃ o7' : Option D, qa_0b_4b M (env2 o1 (some (.str x)) (some (rowsD rs)) (some (.str (pageT x rs))) o5 (some (machD M x rs)) o7) b = .nx (env2 o1 (some (.str x)) (some (rowsD rs)) (some (.str (pageT x rs))) o5 (some (machD M x rs)) o7') b := by
  have n1 := hr.n0
  have n6 := hr.n1
  have hs := str_ok M hx hr b
  have hl := lenM_ok M x hr.n1 b
  have hfs : fldF M "_states" (machD M x rs) = some (rowsD rs) := fld_s M x rs
  have hfl : fldF M "_letters" (machD M x rs) = some (.str x) := fld_l M x rs
  obtain ⟨z, hz, hk⟩ := rep02 hx hr
  have hq := neF_str hk
  have h0 : (0 : Int) ≤ rs.length ∧ (rs.length : Int) < 2 ^ 63 := by omega
  have hne : (((rs.length : Int)) != 0) = true := bne_iff_ne.mpr (by omega)
  refine ⟨some (.lst [.str x, rowsD rs, .str (pageT x rs), .int rs.length, .bl true]), ?_⟩
  have r0 : qa_0b_4b_0 M (env2 o1 (some (.str x)) (some (rowsD rs)) (some (.str (pageT x rs))) o5 (some (machD M x rs)) o7) b = .nx (env2 o1 (some (.str x)) (some (rowsD rs)) (some (.str (pageT x rs))) o5 (some (machD M x rs)) (some (.lst [.str x, rowsD rs, .str (pageT x rs), .int rs.length, .bl true]))) b := by
    have e6 : eV 6 (env2 o1 (some (.str x)) (some (rowsD rs)) (some (.str (pageT x rs))) o5 (some (machD M x rs)) o7) b = .ok (machD M x rs) b := rfl
    have a1 : eStrO M (F_Machine_str_ M) (aCons (eV 6) aNil) (env2 o1 (some (.str x)) (some (rowsD rs)) (some (.str (pageT x rs))) o5 (some (machD M x rs)) o7) b = .ok (.str (pageT x rs)) b := by
      unfold machD at hs e6 ⊢
      simp only [eStrO, aCons, e6, bind_ok_, aNil, if_true, hs]
    have a2 : eLenO M (F_Machine_len_ M) (aCons (eV 6) aNil) (env2 o1 (some (.str x)) (some (rowsD rs)) (some (.str (pageT x rs))) o5 (some (machD M x rs)) o7) b = .ok (.int rs.length) b := by
      unfold machD at hl e6 ⊢
      simp only [eLenO, aCons, e6, bind_ok_, aNil, if_true, hl, if_pos h0]
    have a3 : eBoolO M (F_Machine_len_ M) (aCons (eV 6) aNil) (env2 o1 (some (.str x)) (some (rowsD rs)) (some (.str (pageT x rs))) o5 (some (machD M x rs)) o7) b = .ok (.bl true) b := by
      unfold machD at hl e6 ⊢
      simp only [eBoolO, aCons, e6, bind_ok_, aNil, if_true, hl, if_pos h0, hne]
    have b1 : e1 (fldF M "_letters") (eV 6) (env2 o1 (some (.str x)) (some (rowsD rs)) (some (.str (pageT x rs))) o5 (some (machD M x rs)) o7) b = .ok (.str x) b := by
      simp only [e1, e6, bind_ok_, hfl, pureO_some_]
    have b2 : e1 (fldF M "_states") (eV 6) (env2 o1 (some (.str x)) (some (rowsD rs)) (some (.str (pageT x rs))) o5 (some (machD M x rs)) o7) b = .ok (rowsD rs) b := by
      simp only [e1, e6, bind_ok_, hfs, pureO_some_]
    unfold qa_0b_4b_0
    simp only [sAsg, eLst, aCons, a1, a2, a3, b1, b2, bind_ok_, aNil]
    rfl
  have r1 : qa_0b_4b_1 M (env2 o1 (some (.str x)) (some (rowsD rs)) (some (.str (pageT x rs))) o5 (some (machD M x rs)) (some (.lst [.str x, rowsD rs, .str (pageT x rs), .int rs.length, .bl true]))) b = .nx (env2 o1 (some (.str x)) (some (rowsD rs)) (some (.str (pageT x rs))) o5 (some (machD M x rs)) (some (.lst [.str x, rowsD rs, .str (pageT x rs), .int rs.length, .bl true]))) b := by
    have hrl : rs.length ≤ 100000 := by omega
    have hz2 : reprN [.lst [.str x, rowsD rs, .str (pageT x rs), .int rs.length, .bl true]] = some (.str z) := hz
    have c1 : eB reprN (aCons (eV 7) aNil) (env2 o1 (some (.str x)) (some (rowsD rs)) (some (.str (pageT x rs))) o5 (some (machD M x rs)) (some (.lst [.str x, rowsD rs, .str (pageT x rs), .int rs.length, .bl true]))) b = .ok (.str z) b := by
      have e7 : eV 7 (env2 o1 (some (.str x)) (some (rowsD rs)) (some (.str (pageT x rs))) o5 (some (machD M x rs)) (some (.lst [.str x, rowsD rs, .str (pageT x rs), .int rs.length, .bl true]))) b = .ok (.lst [.str x, rowsD rs, .str (pageT x rs), .int rs.length, .bl true]) b := rfl
      simp only [eB, aCons, e7, bind_ok_, aNil, hz2, pureO_some_]
    have c0 : eLst (aCons (eV 2) (aCons (eV 3) (aCons (eV 4) (aCons (eB lenF (aCons (eV 3) aNil)) (aCons (eC (.bl true)) aNil))))) (env2 o1 (some (.str x)) (some (rowsD rs)) (some (.str (pageT x rs))) o5 (some (machD M x rs)) (some (.lst [.str x, rowsD rs, .str (pageT x rs), .int rs.length, .bl true]))) b = .ok (.lst [.str x, rowsD rs, .str (pageT x rs), .int rs.length, .bl true]) b := by
      unfold rowsD
      simp [hrl]
    have c2 : eB reprF (aCons (eLst (aCons (eV 2) (aCons (eV 3) (aCons (eV 4) (aCons (eB lenF (aCons (eV 3) aNil)) (aCons (eC (.bl true)) aNil)))))) aNil) (env2 o1 (some (.str x)) (some (rowsD rs)) (some (.str (pageT x rs))) o5 (some (machD M x rs)) (some (.lst [.str x, rowsD rs, .str (pageT x rs), .int rs.length, .bl true]))) b = .ok (.str z) b := by
      have : ∀ G : EF, ∀ ρ, G ρ b = .ok (.lst [.str x, rowsD rs, .str (pageT x rs), .int rs.length, .bl true]) b → eB reprF (aCons G aNil) ρ b = .ok (.str z) b := fun G ρ h => by
        simp only [eB, aCons, h, bind_ok_, aNil, hz, pureO_some_]
      exact this _ _ c0
    unfold qa_0b_4b_1
    simp only [sIf, bB, e2, c1, c2, bind_ok_, hq, pureO_some_]
    simp
  unfold qa_0b_4b
  rw [seq_step r0]
  exact r1
theorem body02 (M : Addr) (o1 o2 o3 o4 o5 o6 o7 : Option D) (b : Bag) : ∃ (o2' o3' o4' o5' o6' o7' : Option D) (b' : Bag), qa_0b M (env2 o1 o2 o3 o4 o5 o6 o7) b = .nx (env2 o1 o2' o3' o4' o5' o6' o7') b' := by
  obtain ⟨x, b1, h1, hx⟩ := signs_ok b
  obtain ⟨rs, b2, h2, hr⟩ := rows_ok b1 hx
  have h2 : F__law_rows [.bag, .str x, .int 6] b1 = .ok (rowsD rs) b2 := h2
  have h3 := lpage_ok hx hr b2
  have h4 := make_ok M b2 hx hr
  have h5 := read_ok M hx hr b2
  have h6 := str_ok M hx hr b2
  let m := machD M x rs
  have r0 : qa_0b_0 M (env2 o1 o2 o3 o4 o5 o6 o7) b = .nx (env2 o1 (some (.str x)) o3 o4 o5 o6 o7) b1 := by
    simp [qa_0b_0, h1]
  have r1 : qa_0b_1 M (env2 o1 (some (.str x)) o3 o4 o5 o6 o7) b1 = .nx (env2 o1 (some (.str x)) (some (rowsD rs)) o4 o5 o6 o7) b2 := by
    simp [qa_0b_1, h2]
  have r2 : qa_0b_2 M (env2 o1 (some (.str x)) (some (rowsD rs)) o4 o5 o6 o7) b2 = .nx (env2 o1 (some (.str x)) (some (rowsD rs)) (some (.str (pageT x rs))) o5 o6 o7) b2 := by
    simp [qa_0b_2, h3]
  have r3 : qa_0b_3 M (env2 o1 (some (.str x)) (some (rowsD rs)) (some (.str (pageT x rs))) o5 o6 o7) b2 = .nx (env2 o1 (some (.str x)) (some (rowsD rs)) (some (.str (pageT x rs))) (some (.lst [m, m, m, m])) o6 o7) b2 := by
    have m1 := mk_of' M hx hr (G := aCons (eV 2) (aCons (eV 3) aNil)) (ρ := env2 o1 (some (.str x)) (some (rowsD rs)) (some (.str (pageT x rs))) o5 o6 o7) (b := b2) (b1 := b2) rfl
    have m2 : eMakeK 2 M (Fm_Machine M) (pick [1, 0]) (aCons (eV 3) (aCons (eV 2) aNil)) (env2 o1 (some (.str x)) (some (rowsD rs)) (some (.str (pageT x rs))) o5 o6 o7) b2 = .ok m b2 := by
      have hG : aCons (eV 3) (aCons (eV 2) aNil) (env2 o1 (some (.str x)) (some (rowsD rs)) (some (.str (pageT x rs))) o5 o6 o7) b2 = .ok [rowsD rs, .str x] b2 := rfl
      have hp : pick [1, 0] [rowsD rs, D.str x] = [.str x, rowsD rs] := rfl
      have hl : [rowsD rs, D.str x].length = 2 := rfl
      simp only [eMakeK, hG, bind_ok_, hp, hl, if_true, h4]
      rfl
    have m3 : eCM M (F_Machine_read M) (eC (.obj (.ref M))) (aCons (eV 4) aNil) (env2 o1 (some (.str x)) (some (rowsD rs)) (some (.str (pageT x rs))) o5 o6 o7) b2 = .ok m b2 := by
      have hG : aCons (eV 4) aNil (env2 o1 (some (.str x)) (some (rowsD rs)) (some (.str (pageT x rs))) o5 o6 o7) b2 = .ok [.str (pageT x rs)] b2 := rfl
      simp only [eCM, eC, bind_ok_, if_true, hG, h5]
      rfl
    have m4 : eCMK 1 M (F_Machine_read M) (pick [0]) (eC (.obj (.ref M))) (aCons (eV 4) aNil) (env2 o1 (some (.str x)) (some (rowsD rs)) (some (.str (pageT x rs))) o5 o6 o7) b2 = .ok m b2 := by
      have hG : aCons (eV 4) aNil (env2 o1 (some (.str x)) (some (rowsD rs)) (some (.str (pageT x rs))) o5 o6 o7) b2 = .ok [.str (pageT x rs)] b2 := rfl
      have hp : pick [0] [D.str (pageT x rs)] = [.str (pageT x rs)] := rfl
      have hl : [D.str (pageT x rs)].length = 1 := rfl
      simp only [eCMK, eC, bind_ok_, if_true, hG, hp, hl, h5]
      rfl
    unfold qa_0b_3
    have hcons : ∀ (F : EF) (G : AF) (ρ : Env) (d : D) (ds : List D), F ρ b2 = .ok d b2 → G ρ b2 = .ok ds b2 → aCons F G ρ b2 = .ok (d :: ds) b2 := fun F G ρ d ds h h' => by
      simp only [aCons, h, h', bind_ok_]
    have hall := hcons _ _ _ _ _ m1 (hcons _ _ _ _ _ m2 (hcons _ _ _ _ _ m3 (hcons _ _ _ _ _ m4 (show aNil _ b2 = .ok [] b2 from rfl))))
    simp only [sAsg, eLst, hall, bind_ok_]
    rfl
  have r4 : ∃ o6' o7' : Option D, qa_0b_4 M (env2 o1 (some (.str x)) (some (rowsD rs)) (some (.str (pageT x rs))) (some (.lst [m, m, m, m])) o6 o7) b2 = .nx (env2 o1 (some (.str x)) (some (rowsD rs)) (some (.str (pageT x rs))) (some (.lst [m, m, m, m])) o6' o7') b2 := by
    have hm5 : (aAny (e2 addF (eV 5) (eLst (aCons (eCM M (F_Machine_read M) (eC (.obj (.ref M))) (aCons (eStrO M (F_Machine_str_ M) (aCons (eIx (eV 5) (eC (.int 0))) aNil)) aNil)) aNil)))) (env2 o1 (some (.str x)) (some (rowsD rs)) (some (.str (pageT x rs))) (some (.lst [m, m, m, m])) o6 o7) b2 = .ok [m, m, m, m, m] b2 := by
      have i0 : eIx (eV 5) (eC (.int 0)) (env2 o1 (some (.str x)) (some (rowsD rs)) (some (.str (pageT x rs))) (some (.lst [m, m, m, m])) o6 o7) b2 = .ok m b2 := rfl
      have i1 : eStrO M (F_Machine_str_ M) (aCons (eIx (eV 5) (eC (.int 0))) aNil) (env2 o1 (some (.str x)) (some (rowsD rs)) (some (.str (pageT x rs))) (some (.lst [m, m, m, m])) o6 o7) b2 = .ok (.str (pageT x rs)) b2 := by
        have hs : F_Machine_str_ M [m] b2 = .ok (.str (pageT x rs)) b2 := h6
        have key : ∀ (F : EF) (ρ : Env), F ρ b2 = .ok (machD M x rs) b2 → eStrO M (F_Machine_str_ M) (aCons F aNil) ρ b2 = .ok (.str (pageT x rs)) b2 := fun F ρ h => by
          have hs : F_Machine_str_ M [machD M x rs] b2 = .ok (.str (pageT x rs)) b2 := h6
          unfold machD at h hs
          simp only [eStrO, aCons, h, bind_ok_, aNil, if_true, hs]
        exact key _ _ i0
      have i2 : eCM M (F_Machine_read M) (eC (.obj (.ref M))) (aCons (eStrO M (F_Machine_str_ M) (aCons (eIx (eV 5) (eC (.int 0))) aNil)) aNil) (env2 o1 (some (.str x)) (some (rowsD rs)) (some (.str (pageT x rs))) (some (.lst [m, m, m, m])) o6 o7) b2 = .ok m b2 := by
        have : ∀ (G : AF) (ρ : Env), G ρ b2 = .ok [.str (pageT x rs)] b2 → eCM M (F_Machine_read M) (eC (.obj (.ref M))) G ρ b2 = .ok m b2 := fun G ρ h => by
          simp only [eCM, eC, bind_ok_, if_true, h, h5]
          rfl
        refine this _ _ ?_
        have : ∀ (F : EF) (ρ : Env), F ρ b2 = .ok (.str (pageT x rs)) b2 → aCons F aNil ρ b2 = .ok [.str (pageT x rs)] b2 := fun F ρ h => by
          simp only [aCons, h, bind_ok_, aNil]
        exact this _ _ i1
      have i3 : ∀ (F : EF) (ρ : Env), F ρ b2 = .ok m b2 → eLst (aCons F aNil) ρ b2 = .ok (.lst [m]) b2 := fun F ρ h => by
        simp only [eLst, aCons, h, bind_ok_, aNil]
        rfl
      have i4 := i3 _ _ i2
      have i5 : eV 5 (env2 o1 (some (.str x)) (some (rowsD rs)) (some (.str (pageT x rs))) (some (.lst [m, m, m, m])) o6 o7) b2 = .ok (.lst [m, m, m, m]) b2 := rfl
      have i6 : addF (.lst [m, m, m, m]) (.lst [m]) = some (.lst [m, m, m, m, m]) := rfl
      have i7 : allOf (.lst [m, m, m, m, m]) = some [m, m, m, m, m] := rfl
      simp only [aAny, e2, i5, i4, bind_ok_, i6, pureO_some_, i7]
    obtain ⟨ρ', b', f1, o6', o7', f2, f3⟩ := loop_ind (g := gN 6) (B := qa_0b_4b M)
      (fun _ ρ b' => ∃ o6 o7 : Option D, ρ = env2 o1 (some (.str x)) (some (rowsD rs)) (some (.str (pageT x rs))) (some (.lst [m, m, m, m])) o6 o7 ∧ b' = b2)
      [m, m, m, m, m] 0 (fun i d hd ρ b' ⟨o6, o7, g1, g2⟩ => by
        subst g1 g2
        have hdm : d = m := by
          have := List.mem_of_getElem? hd
          simpa using this
        subst hdm
        obtain ⟨o7', g3⟩ := in02 M hx hr o1 (some (.lst [m, m, m, m])) o7 b'
        exact ⟨_, _, b', rfl, g3, some m, o7', rfl, rfl⟩) (env2 o1 (some (.str x)) (some (rowsD rs)) (some (.str (pageT x rs))) (some (.lst [m, m, m, m])) o6 o7) b2 ⟨o6, o7, rfl, rfl⟩
    subst f2 f3
    refine ⟨o6', o7', ?_⟩
    unfold qa_0b_4
    simp only [sFor, hm5, st_ok_]
    exact f1
  obtain ⟨o6', o7', r4⟩ := r4
  refine ⟨some (.str x), some (rowsD rs), some (.str (pageT x rs)), some (.lst [m, m, m, m]), o6', o7', b2, ?_⟩
  unfold qa_0b
  rw [seq_step r0, seq_step r1, seq_step r2, seq_step r3]
  exact r4
theorem right02_ok (M : Addr) (b : Bag) : ∃ b', F__law_right M [.bag] b = .ok (.bl true) b' := by
  obtain ⟨ρ', b', f1, o1, o2, o3, o4, o5, o6, o7, f2⟩ := loop_ind (g := gN 1) (B := qa_0b M)
    (fun i ρ b' => ∃ o1 o2 o3 o4 o5 o6 o7 : Option D, ρ = env2 o1 o2 o3 o4 o5 o6 o7)
    (rangeOf 3) 0 (fun i d hd ρ b' ⟨o1, o2, o3, o4, o5, o6, o7, g1⟩ => by
      subst g1
      obtain ⟨rfl, hi⟩ := range_get (n := 3) hd
      obtain ⟨p2, p3, p4, p5, p6, p7, b'', g3⟩ := body02 M (some (.int i)) o2 o3 o4 o5 o6 o7 b'
      exact ⟨_, _, b'', rfl, g3, some (.int i), p2, p3, p4, p5, p6, p7, rfl⟩) (env2 none none none none none none none) b ⟨none, none, none, none, none, none, none, rfl⟩
  subst f2
  refine ⟨b', ?_⟩
  have e : F__law_right M = runD 8 1 (qa M) := rfl
  rw [e]
  have h1 : qa_0 M (env2 none none none none none none none) b = .nx (env2 o1 o2 o3 o4 o5 o6 o7) b' := by
    simp [qa_0, sFor, aRng, f1]
  have hst : startE 8 [D.bag] = env2 none none none none none none none := rfl
  simp only [runD, List.length_cons, List.length_nil, if_true, hst]
  unfold qa
  rw [seq_step h1]
  rfl
theorem quiet02_ok (M : Addr) (b : Bag) : ∃ b', F__law_quiet M [.bag] b = .ok (.bl true) b' := by
  obtain ⟨b', h⟩ := right02_ok M b
  refine ⟨b', ?_⟩
  unfold F__law_quiet G__law_quiet
  simp [sThru, h]
theorem m_law (M : Addr) (ns : List Int) (h : ns.length ≤ 63) : ∃ b', F_law M [.fl (ns.map D.int)] ⟨0, 0, 0⟩ = .ok (.bl true) b' :=
  law_run (F__law_quiet M) 5 (by decide) (by decide) (fun x y => quiet02_ok M _) ns h
end DL

set_option maxHeartbeats 0
open PySem PySem.W PySem.Calls PyProof.Rows
theorem PySem.Challenge.cw_guardhopes_k02_machines_made_holds : PySem.Challenge.rw_guardhopes_k02_machines_made.Holds := by
  w_on; o_law
  refine HandSHeadRun.head_any (r := OpenLaw.row PySem.Challenge.rw_guardhopes_k02_machines_made) (q := view DL.R.prog [30]) (H := DL.hk) (ob := DL.ob) (M := 6000) (loose := DL.loose) (d := HandSHeadRun.topDef DL.R.prog 30) (kwd := []) DL.ob_eq
    (by kernel_rfl) (fun s => by kernel_rfl) DL.run (by kernel_rfl) (by kernel_rfl) (by kernel_rfl) (by rfl) (by first | assumption | decide +kernel) (by decide +kernel) ⟨rfl, rfl, rfl, rfl, rfl, by decide +kernel⟩ ?hw ?hc
  case hw => w_witness2
  case hc =>
    refine DL.walkG (l := PySem.Challenge.rw_guardhopes_k02_machines_made) (n := 63) (k := 9) (x := "_law_script") rfl (by decide) (by kernel_rfl) ⟨rfl, by decide, by decide⟩ ?F
    intro w mg fa h Y G hmg0
    obtain ⟨K, KX, c⟩ := Y
    have hmg : mg ("law" : PySem.Str) = some (.ref fa) := by
      have e : (HandSHeadRun.topDef DL.R.prog 30).name = ("law" : PySem.Str) := by kernel_rfl
      rw [← e]
      exact hmg0
    obtain ⟨fd, hb, hF⟩ := DL.ok_all KX G c
    have e : fa = He.ga K "law" := by
      have g := He.glo_ok KX G (x := "law") (DL.glo_law c)
      rw [hmg] at g
      cases g
      rfl
    subst e
    exact ⟨K, fd, DL.F_law (He.ga K "Machine"), KX, hb, fun ns hn => DL.m_law _ ns hn, fun base _ _ => hF _ w base⟩
