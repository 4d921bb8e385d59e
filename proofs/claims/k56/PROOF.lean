import PyProof.Rows.All
import Wide.All
import OpenK.AllK
import Wide.FinOn
import HandS.Base
import HandS.Call
import HandS.List
import HandS.Comp
import HandS.Exc
import HandS.Words
import HandS.Iter
import HandS.HeadHook1
import HandS.ExcOwn
import HandS.TupAny
import HandS.Text
import HandS.WordsExc
import HandS.TupMul
import HandS.Star
import HandS.IsInst
import HandS.Property
import HandS.StrMore
import HandS.Replace
import HandS.Style
import HandS.Defaults
import HandS.ClsMeth
import KE.GoesNew
import HandS.MakeKw
import KE.KStateDown
import HandS.Ends
import HandS.Head0
import HandS.Head1
import HandS.Head2
import HandS.HeadEnd
import HandS.HeadHook2
import HandS.Conv
import HandS.More
import HandS.Zip
import HandS.DictComp
import HandS.Deep
import HandS.OwnEq
import HandS.SortRule
import PyProof.Rows.SortKeyStr
import PyProof.Rows.TupIter
import PyProof.Seq
import HandS.ListItems
import KE.KDictList
import PyProof.InstNe
import PyProof.StrWalks
import PyProof.EnumMake
import HandS.FStr
import HandS.MapJoin
import HandS.RaiseMore
import PyProof.Rows.Range3
import PyProof.CallStr
import HandS.Small
import HandS.DictSub
import KE.KDictZip
import KE.KDictPairs
import KE.KDictKeyed
import HandS.TupLe
import HandS.ExcInit
import HandS.TryOnly
import HandS.ReplaceLit
import HandS.Codes
import PySem.Challenge.RW_guardhopes_k56_values_that_are_none
section
set_option Elab.async false
set_option linter.all false
set_option maxRecDepth 100000
set_option maxHeartbeats 4000000
namespace DL
open PySem PySem.Spec PyProof.Rows L2

inductive D where
  | non | bl (b : Bool) | int (i : Int) | str (x : Str)
  | tup (ds : List D) | lst (ds : List D) | fl (ds : List D)
  | ins (C : Addr) (ns : List Str) (ds : List D)
  | obj (v : V)
  | bag
  | dct (ks : List Key) (ds : List D)
  | dtp (ks : List (List Key)) (ds : List D)

structure Bag where
  x : Int
  y : Int
  z : Int

inductive Out (α : Type) where
  | ok (a : α) (b : Bag)
  | ex (c : Str) (ns : List Str) (ds : List D) (bx : Bag)
  | stuck
namespace Out
def bind {α β : Type} (o : Out α) (k : α → Bag → Out β) : Out β := match o with
  | .ok a b => k a b
  | .ex c ns ds bx => .ex c ns ds bx
  | .stuck => .stuck
def pureO {α : Type} (o : Option α) (b : Bag) : Out α := match o with
  | some a => .ok a b
  | none => .stuck
end Out

mutual
inductive DR (K : PySem.W.Frag) (ba : Option Addr) (S : Hp) : V → D → Prop
  | non : DR K ba S .non .non
  | bl (b : Bool) : DR K ba S (.bl b) (.bl b)
  | int (i : Int) : DR K ba S (.int i) (.int i)
  | str (x : Str) : DR K ba S (.str x) (.str x)
  | tup {a : Addr} {xs : List V} {ds : List D} : S a = some (.tup xs) → DRs K ba S xs ds → DR K ba S (.ref a) (.tup ds)
  | lst {a : Addr} {xs : List V} {ds : List D} : S a = some (.lst xs) → DRs K ba S xs ds → DR K ba S (.ref a) (.lst ds)
  | fl {a : Addr} {xs : List V} {ds : List D} : SqL K S a xs → DRs K ba S xs ds → DR K ba S (.ref a) (.fl ds)
  | ins {a C dx : Addr} {fs : List (Str × V)} {ns : List Str} {ds : List D} : S a = some (.ins C dx fs) → fs.map (·.1) = ns → DRs K ba S (fs.map (·.2)) ds → DR K ba S (.ref a) (.ins C ns ds)
  | obj (v : V) : DR K ba S v (.obj v)
  | bag {a : Addr} : ba = some a → DR K ba S (.ref a) .bag
  | dct {a : Addr} {o : Obj} {kvs : List (Key × V)} {ks : List Key} {ds : List D} : S a = some (.frz o (.dK kvs)) → kvs.map (·.1) = ks → DRs K ba S (kvs.map (·.2)) ds → DR K ba S (.ref a) (.dct ks ds)
  | dtp {a : Addr} {o : Obj} {kvs : List (List Key × V)} {ks : List (List Key)} {ds : List D} : S a = some (.frz o (.dT kvs)) → kvs.map (·.1) = ks → DRs K ba S (kvs.map (·.2)) ds → DR K ba S (.ref a) (.dtp ks ds)
inductive DRs (K : PySem.W.Frag) (ba : Option Addr) (S : Hp) : List V → List D → Prop
  | nil : DRs K ba S [] []
  | cons {v : V} {vs : List V} {d : D} {ds : List D} : DR K ba S v d → DRs K ba S vs ds → DRs K ba S (v :: vs) (d :: ds)
end

theorem seqT {K : PySem.W.Frag} {H H' : Hp} {a : Addr} {xs : List V} (e : Same H H') (h : H a = some (.tup xs)) : SqT K H' a xs := .inl (.inl (e _ _ h))
section
variable {K : PySem.W.Frag} {ba : Option Addr} {S S' : Hp}
mutual
theorem DR.mono (e : Same S S') : ∀ (d : D) (v : V), DR K ba S v d → DR K ba S' v d
  | .non, _, h => by cases h; exact .non
  | .bl _, _, h => by cases h; exact .bl _
  | .int _, _, h => by cases h; exact .int _
  | .str _, _, h => by cases h; exact .str _
  | .tup ds, _, h => by
    cases h with
    | tup h1 h2 => exact .tup (e _ _ h1) (DRs.mono e ds _ h2)
  | .lst ds, _, h => by
    cases h with
    | lst h1 h2 => exact .lst (e _ _ h1) (DRs.mono e ds _ h2)
  | .fl ds, _, h => by
    cases h with
    | fl h1 h2 => exact .fl (e.seq h1) (DRs.mono e ds _ h2)
  | .ins C ns ds, _, h => by
    cases h with
    | ins h1 h2 h3 => exact .ins (e _ _ h1) h2 (DRs.mono e ds _ h3)
  | .obj _, _, h => by cases h; exact .obj _
  | .bag, _, h => by
    cases h with
    | bag h1 => exact .bag h1
  | .dct ks ds, _, h => by
    cases h with
    | dct h1 h2 h3 => exact .dct (e _ _ h1) h2 (DRs.mono e ds _ h3)
  | .dtp ks ds, _, h => by
    cases h with
    | dtp h1 h2 h3 => exact .dtp (e _ _ h1) h2 (DRs.mono e ds _ h3)
theorem DRs.mono (e : Same S S') : ∀ (ds : List D) (vs : List V), DRs K ba S vs ds → DRs K ba S' vs ds
  | [], _, h => by cases h; exact .nil
  | d :: ds, _, h => by
    cases h with
    | cons h1 h2 => exact .cons (DR.mono e d _ h1) (DRs.mono e ds _ h2)
end
theorem DR.up {v : V} {d : D} (h : DR K ba S v d) (e : Same S S') : DR K ba S' v d := DR.mono e d v h
theorem DRs.up {vs : List V} {ds : List D} (h : DRs K ba S vs ds) (e : Same S S') : DRs K ba S' vs ds := DRs.mono e ds vs h
theorem DRs.length : ∀ {vs : List V} {ds : List D}, DRs K ba S vs ds → vs.length = ds.length
  | _, [], h => by cases h; rfl
  | _, d :: ds, h => by
    cases h with
    | cons _ h2 => simp [DRs.length h2]
theorem DRs.get : ∀ {vs : List V} {ds : List D} {i : Nat} {d : D}, DRs K ba S vs ds → ds[i]? = some d → ∃ v, vs[i]? = some v ∧ DR K ba S v d
  | _, [], i, d, h, e => by simp at e
  | _, d' :: ds, 0, d, h, e => by
    cases h with
    | cons h1 _ => simp at e; subst e; exact ⟨_, rfl, h1⟩
  | _, d' :: ds, i + 1, d, h, e => by
    cases h with
    | cons _ h2 =>
      obtain ⟨v, e1, r⟩ := DRs.get (i := i) h2 (by simpa using e)
      exact ⟨v, by simpa using e1, r⟩
theorem DRs.take : ∀ {vs : List V} {ds : List D} (n : Nat), DRs K ba S vs ds → DRs K ba S (vs.take n) (ds.take n)
  | _, _, 0, _ => by simpa using DRs.nil
  | _, [], n + 1, h => by cases h; exact .nil
  | _, d :: ds, n + 1, h => by
    cases h with
    | cons h1 h2 => exact .cons h1 (DRs.take n h2)
theorem DRs.drop : ∀ {vs : List V} {ds : List D} (n : Nat), DRs K ba S vs ds → DRs K ba S (vs.drop n) (ds.drop n)
  | _, _, 0, h => by simpa using h
  | _, [], n + 1, h => by cases h; exact .nil
  | _, d :: ds, n + 1, h => by
    cases h with
    | cons h1 h2 => exact DRs.drop n h2
theorem DRs.set : ∀ {vs : List V} {ds : List D} (i : Nat) {v : V} {d : D}, DRs K ba S vs ds → DR K ba S v d → DRs K ba S (vs.set i v) (ds.set i d)
  | _, [], _, _, _, h, _ => by cases h; exact .nil
  | _, _ :: _, 0, _, _, h, r => by
    cases h with
    | cons _ h2 => exact .cons r h2
  | _, _ :: _, i + 1, _, _, h, r => by
    cases h with
    | cons h1 h2 => exact .cons h1 (DRs.set i h2 r)
end

/-- an object that is written, told -/
inductive ODR (K : PySem.W.Frag) (ba : Option Addr) (S : Hp) : HO → D → Prop
  | lst {xs : List V} {ds : List D} : DRs K ba S xs ds → ODR K ba S (.lst xs) (.lst ds)
  | ins {C dx : Addr} {fs : List (Str × V)} {ns : List Str} {ds : List D} : fs.map (·.1) = ns → DRs K ba S (fs.map (·.2)) ds → ODR K ba S (.ins C dx fs) (.ins C ns ds)
  | dct {kvs : List (Key × V)} {ks : List Key} {ds : List D} : kvs.map (·.1) = ks → DRs K ba S (kvs.map (·.2)) ds → ODR K ba S (.dK kvs) (.dct ks ds)
  | dtp {kvs : List (List Key × V)} {ks : List (List Key)} {ds : List D} : kvs.map (·.1) = ks → DRs K ba S (kvs.map (·.2)) ds → ODR K ba S (.dT kvs) (.dtp ks ds)
theorem ODR.up {K : PySem.W.Frag} {ba : Option Addr} {S S' : Hp} {u : HO} {d : D} (h : ODR K ba S u d) (e : Same S S') : ODR K ba S' u d := by
  cases h with
  | lst r => exact .lst (r.up e)
  | ins h r => exact .ins h (r.up e)
  | dct h r => exact .dct h (r.up e)
  | dtp h r => exact .dtp h (r.up e)
/-- how an object of ours stands once it is shared: dicts are locked -/
def lockU (o : Obj) : HO → HO
  | .dK kvs => .frz o (.dK kvs)
  | .dT kvs => .frz o (.dT kvs)
  | u => u
/-- a thing of ours is shared as it is, or it must be locked -/
theorem ODR.how {K : PySem.W.Frag} {ba : Option Addr} {S : Hp} {u : HO} {d : D} (h : ODR K ba S u d) : (∀ o, lockU o u = u) ∨ (Mut (some u) ∧ ∀ o, lockU o u = .frz o u) := by
  cases h with
  | lst r => exact .inl fun _ => rfl
  | ins h r => exact .inl fun _ => rfl
  | dct h r => exact .inr ⟨trivial, fun _ => rfl⟩
  | dtp h r => exact .inr ⟨trivial, fun _ => rfl⟩
inductive SD where
  | sh (d : D)
  | ow (d : D)
abbrev Env := List (Option SD)

/-- at a def's entry: the heap, what is shared, the bag's address -/
structure Cq where
  H0 : Hp
  S0 : Hp
  ba : Option Addr

def BagOk (ba : Option Addr) (b : Bag) (S H : Hp) : Prop := ∀ a, ba = some a → H a = some (.lst [.int b.x, .int b.y, .int b.z]) ∧ S a = none

structure Core (C : Cq) (S : Hp) (b : Bag) (H : Hp) : Prop where
  sub : Same S H
  fr : ∀ a o, C.H0 a = some o → C.ba ≠ some a → H a = some o
  bag : BagOk C.ba b S H
  new : ∀ a o, S a = some o → C.S0 a = some o ∨ C.H0 a = none ∨ ∃ xs, o = .tup xs

inductive Slots (K : PySem.W.Frag) (ba : Option Addr) (S H : Hp) : L2.St → Env → List Addr → Prop
  | nil : Slots K ba S H [] [] []
  | no {x : Option V} {σ : L2.St} {ρ : Env} {O : List Addr} : Slots K ba S H σ ρ O → Slots K ba S H (x :: σ) (none :: ρ) O
  | sh {v : V} {d : D} {σ : L2.St} {ρ : Env} {O : List Addr} : DR K ba S v d → Slots K ba S H σ ρ O → Slots K ba S H (some v :: σ) (some (.sh d) :: ρ) O
  | ow {p : Addr} {u : HO} {d : D} {σ : L2.St} {ρ : Env} {O : List Addr} : H p = some u → ODR K ba S u d → Slots K ba S H σ ρ O → Slots K ba S H (some (.ref p) :: σ) (some (.ow d) :: ρ) (p :: O)

structure Own (C : Cq) (S : Hp) (O : List Addr) : Prop where
  nd : O.Nodup
  al : ∀ p ∈ O, S p = none ∧ C.H0 p = none ∧ C.ba ≠ some p

structure OkS (K : PySem.W.Frag) (C : Cq) (S : Hp) (ρ : Env) (b : Bag) (σ : L2.St) (H : Hp) : Prop where
  core : Core C S b H
  sl : ∃ O, Slots K C.ba S H σ ρ O ∧ Own C S O

section
variable {K : PySem.W.Frag} {ba : Option Addr} {S S' H H' : Hp} {σ : L2.St} {ρ : Env} {O : List Addr}
theorem Slots.len (s : Slots K ba S H σ ρ O) : σ.length = ρ.length := by
  induction s with
  | nil => rfl
  | no _ ih => simp [ih]
  | sh _ _ ih => simp [ih]
  | ow _ _ _ ih => simp [ih]
theorem Slots.mono (s : Slots K ba S H σ ρ O) (e : Same S S') (k : ∀ p ∈ O, ∀ u, H p = some u → H' p = some u) : Slots K ba S' H' σ ρ O := by
  induction s with
  | nil => exact .nil
  | no _ ih => exact .no (ih k)
  | sh r _ ih => exact .sh (r.up e) (ih k)
  | ow h1 h2 _ ih => exact .ow (k _ (List.mem_cons_self) _ h1) (h2.up e) (ih fun p hp => k p (List.mem_cons_of_mem _ hp))
theorem Slots.there (s : Slots K ba S H σ ρ O) : ∀ p ∈ O, ∃ u, H p = some u := by
  induction s with
  | nil => intro p hp; cases hp
  | no _ ih => exact ih
  | sh _ _ ih => exact ih
  | ow h1 _ _ ih =>
    intro p hp
    rcases List.mem_cons.mp hp with e | hp
    · subst e; exact ⟨_, h1⟩
    · exact ih p hp
theorem ODR.nt {u : HO} {d : D} (r : ODR K ba S u d) (xs : List V) : u ≠ .tup xs := fun z => by
  subst z
  cases r
theorem Slots.thereO (s : Slots K ba S H σ ρ O) : ∀ p ∈ O, ∃ u, H p = some u ∧ ∀ xs, u ≠ .tup xs := by
  induction s with
  | nil => intro p hp; cases hp
  | no _ ih => exact ih
  | sh _ _ ih => exact ih
  | ow h1 h2 _ ih =>
    intro p hp
    rcases List.mem_cons.mp hp with e | hp
    · subst e; exact ⟨_, h1, h2.nt⟩
    · exact ih p hp
theorem Slots.getSh : ∀ {σ : L2.St} {ρ : Env} {O : List Addr} {i : Nat} {d : D}, Slots K ba S H σ ρ O → ρ[i]? = some (some (.sh d)) → ∃ v, σ[i]? = some (some v) ∧ DR K ba S v d
  | _, _, _, _, _, .nil, e => by simp at e
  | _, _, _, 0, _, .no _, e => by simp at e
  | _, _, _, 0, _, .sh r _, e => by
    simp at e
    subst e
    exact ⟨_, rfl, r⟩
  | _, _, _, 0, _, .ow _ _ _, e => by simp at e
  | _, _, _, i + 1, _, .no s, e => by
    obtain ⟨v, a, r⟩ := Slots.getSh (i := i) s (by simpa using e)
    exact ⟨v, by simpa using a, r⟩
  | _, _, _, i + 1, _, .sh _ s, e => by
    obtain ⟨v, a, r⟩ := Slots.getSh (i := i) s (by simpa using e)
    exact ⟨v, by simpa using a, r⟩
  | _, _, _, i + 1, _, .ow _ _ s, e => by
    obtain ⟨v, a, r⟩ := Slots.getSh (i := i) s (by simpa using e)
    exact ⟨v, by simpa using a, r⟩
theorem Own.sub {C : Cq} {S : Hp} {O O' : List Addr} (w : Own C S O) (l : O'.Sublist O) : Own C S O' := ⟨w.nd.sublist l, fun p hp => w.al p (l.subset hp)⟩
end
end DL

set_option maxHeartbeats 4000000
namespace DL
open PySem PySem.Spec PyProof.Rows L2
@[simp] def wipeE (ρ : Env) : List Nat → Env
  | [] => ρ
  | v :: vs => (wipeE ρ vs).set v none
section
variable {K : PySem.W.Frag} {C : Cq} {S S' H H' : Hp} {σ : L2.St} {ρ : Env} {b b' : Bag} {p : Addr} {u : HO}
theorem Core.h0 (o : Core C S b H) (hp : H p = none) : C.H0 p = none := by
  cases e : C.H0 p with
  | none => rfl
  | some x =>
    by_cases hb : C.ba = some p
    · rw [(o.bag p hb).1] at hp; cases hp
    · rw [o.fr p x e hb] at hp; cases hp
theorem Core.nba (o : Core C S b H) (hp : H p = none) : C.ba ≠ some p := fun hb => by
  rw [(o.bag p hb).1] at hp; cases hp
theorem Core.sn (o : Core C S b H) (hp : H p = none) : S p = none := o.sub.free hp
theorem same_upd {S : Hp} (hp : S p = none) : Same S (upd S p u) := fun a x e => by
  rw [upd_ne (ne_of_none e hp)]; exact e
theorem Core.allocH (o : Core C S b H) (hp : H p = none) : Core C S b (upd H p u) := by
  refine ⟨fun a x e => ?_, fun a x e hb => ?_, fun a e => ?_, o.new⟩
  · have h := o.sub a x e
    rw [upd_ne (ne_of_none h hp)]; exact h
  · have h := o.fr a x e hb
    rw [upd_ne (ne_of_none h hp)]; exact h
  · obtain ⟨h1, h2⟩ := o.bag a e
    exact ⟨by rw [upd_ne (ne_of_none h1 hp)]; exact h1, h2⟩
theorem OkS.get {i : Nat} {d : D} (o : OkS K C S ρ b σ H) (e : ρ[i]? = some (some (.sh d))) : ∃ v, σ[i]? = some (some v) ∧ DR K C.ba S v d := by
  obtain ⟨O, s, _⟩ := o.sl
  exact s.getSh e
theorem OkS.same (o : OkS K C S ρ b σ H) (hp : H p = none) : Same S (upd S p u) := same_upd (o.core.sn hp)
/-- a fresh list of ours, not shared yet -/
structure OkF (K : PySem.W.Frag) (C : Cq) (S : Hp) (ρ : Env) (b : Bag) (σ : L2.St) (H : Hp) (p : Addr) (u : HO) : Prop where
  core : Core C S b H
  at_ : H p = some u
  sn : S p = none
  h0 : C.H0 p = none
  nba : C.ba ≠ some p
  sl : ∃ O, Slots K C.ba S H σ ρ O ∧ Own C S O ∧ p ∉ O
theorem OkS.fresh (o : OkS K C S ρ b σ H) (hp : H p = none) : OkF K C S ρ b σ (upd H p u) p u := by
  obtain ⟨c, O, s, w⟩ := o
  have ne : ∀ q ∈ O, q ≠ p := fun q hq => by
    obtain ⟨vs, h⟩ := s.there q hq
    exact ne_of_none h hp
  exact ⟨c.allocH hp, upd_same, c.sn hp, c.h0 hp, c.nba hp, O, s.mono (Same.refl _) (fun q hq vs h => by rw [upd_ne (ne q hq)]; exact h), w, fun z => ne p z rfl⟩
theorem OkF.ok (o : OkF K C S ρ b σ H p u) : OkS K C S ρ b σ H := by
  obtain ⟨c, h1, h2, h3, h4, O, s, w, n⟩ := o
  exact ⟨c, O, s, w⟩
theorem OkF.same {u' : HO} (o : OkF K C S ρ b σ H p u) : Same S (upd S p u') := same_upd o.sn
end

def XR (K : PySem.W.Frag) (ba : Option Addr) (S : Hp) (dx : Option Addr) (ns : List Str) (ds : List D) : Prop := match ns with
  | [] => dx = none
  | _ :: _ => ∃ a fs, dx = some a ∧ S a = some (.xd fs) ∧ fs.map (·.1) = ns ∧ DRs K ba S (fs.map (·.2)) ds
/-- an outcome, told: R of what comes, the bag, what is shared, the heap -/
def OutG (K : PySem.W.Frag) (C : Cq) (W : WX) (S : Hp) (ρ : Env) (σ : L2.St) {α : Type} (R : α → Bag → Hp → Hp → Prop) : Out α → Prop
  | .ok a b => ∀ S' H', Same S S' → OkS K C S' ρ b σ H' → R a b S' H'
  | .ex c ns ds bx => ∀ (dx : Option Addr) (S' H' : Hp) (b : Bag), Same S S' → OkS K C S' ρ b σ H' → XR K C.ba S' dx ns ds → b = bx → W (.ref (He.ga K c)) dx σ H'
  | .stuck => False
section
variable {K : PySem.W.Frag} {C : Cq} {W : WX} {S S1 : Hp} {ρ : Env} {σ : L2.St} {α β : Type}
theorem OutG.up {R : α → Bag → Hp → Hp → Prop} {o : Out α} (h : OutG K C W S ρ σ R o) (e : Same S S1) : OutG K C W S1 ρ σ R o := by
  cases o with
  | ok a b => exact fun S' H' e' => h S' H' (e.trans e')
  | ex c ns ds bx => exact fun dx S' H' b e' => h dx S' H' b (e.trans e')
  | stuck => exact h
theorem OutG.bind {R : β → Bag → Hp → Hp → Prop} {o : Out α} {k : α → Bag → Out β} (h : OutG K C W S ρ σ R (o.bind k)) : OutG K C W S ρ σ (fun a b S' _ => OutG K C W S' ρ σ R (k a b)) o := by
  cases o with
  | ok a b => exact fun S' H' e _ => OutG.up h e
  | ex c ns ds bx => exact h
  | stuck => exact h
theorem OutG.pureO {R : α → Bag → Hp → Hp → Prop} {o : Option α} {b : Bag} (h : OutG K C W S ρ σ R (Out.pureO o b)) : ∃ a, o = some a ∧ ∀ S' H', Same S S' → OkS K C S' ρ b σ H' → R a b S' H' := by
  cases o with
  | some a => exact ⟨a, rfl, h⟩
  | none => exact h.elim
end

abbrev EF := Env → Bag → Out D
abbrev AF := Env → Bag → Out (List D)
abbrev BF := Env → Bag → Out Bool

section
variable {X : Cx} {C : Cq} {W : WX} {e a b c : Expr} {pos : Pos} {F Fa Fb Fc : EF}
@[simp] def eV (i : Nat) : EF := fun ρ b => match ρ[i]? with
  | some (some (.sh d)) => .ok d b
  | _ => .stuck
@[simp] def eC (d : D) : EF := fun _ b => .ok d b
@[simp] def e2 (f : D → D → Option D) (Fa Fb : EF) : EF := fun ρ b => (Fa ρ b).bind fun x b1 => (Fb ρ b1).bind fun y b2 => Out.pureO (f x y) b2
def Op2 (K : PySem.W.Frag) (C : Cq) (r : R2) (f : D → D → Option D) : Prop := ∀ (S : Hp) (ρ : Env) (b : Bag) (σ : L2.St) (H : Hp) (v w : V) (d e z : D) (Q : VK), OkS K C S ρ b σ H → DR K C.ba S v d → DR K C.ba S w e → f d e = some z →
  (∀ u S' H', Same S S' → OkS K C S' ρ b σ H' → DR K C.ba S' u z → Q u H') → r v w H Q
/-- a value as a test: a truth -/
@[simp] def bB (F : EF) : BF := fun ρ b => (F ρ b).bind fun d b' => match d with
  | .bl k => .ok k b'
  | _ => .stuck
variable {Ga Gb : BF} {rest : List Expr}
@[simp] def bAnd (Ga Gb : BF) : BF := fun ρ b => (Ga ρ b).bind fun k b' => if k = true then Gb ρ b' else .ok false b'
@[simp] def bOr (Ga Gb : BF) : BF := fun ρ b => (Ga ρ b).bind fun k b' => if k = true then .ok true b' else Gb ρ b'
@[simp] def bNot (Ga : BF) : BF := fun ρ b => (Ga ρ b).bind fun k b' => .ok (!k) b'
/-- as values, truths all -/
@[simp] def eAnd (Fa Fb : EF) : EF := fun ρ b => (Fa ρ b).bind fun d b' => match d with
  | .bl k => if k = true then Fb ρ b' else .ok (.bl false) b'
  | _ => .stuck
@[simp] def eOr (Fa Fb : EF) : EF := fun ρ b => (Fa ρ b).bind fun d b' => match d with
  | .bl k => if k = true then .ok (.bl true) b' else Fb ρ b'
  | _ => .stuck
@[simp] def eNot (Fa : EF) : EF := fun ρ b => (Fa ρ b).bind fun d b' => match d with
  | .bl k => .ok (.bl (!k)) b'
  | _ => .stuck
@[simp] def eIf (G : BF) (Fa Fb : EF) : EF := fun ρ b => (G ρ b).bind fun k b' => if k = true then Fa ρ b' else Fb ρ b'
@[simp] def aNil : AF := fun _ b => .ok [] b
@[simp] def aCons (F : EF) (G : AF) : AF := fun ρ b => (F ρ b).bind fun d b1 => (G ρ b1).bind fun ds b2 => .ok (d :: ds) b2
/-- displays: at most a thousand items -/
@[simp] def eTup (G : AF) : EF := fun ρ b => (G ρ b).bind fun ds b' => if ds.length ≤ 100000 then .ok (.tup ds) b' else .stuck
@[simp] def eLst (G : AF) : EF := fun ρ b => (G ρ b).bind fun ds b' => if ds.length ≤ 100000 then .ok (.lst ds) b' else .stuck
end
end DL

set_option maxHeartbeats 4000000
namespace DL
open PySem PySem.Spec PyProof.Rows L2
inductive SO where
  | nx (ρ : Env) (b : Bag)
  | rt (d : D) (b : Bag)
  | ro (d : D) (b : Bag)
  | bk (ρ : Env) (b : Bag)
  | ct (ρ : Env) (b : Bag)
  | ex (ρ : Env) (c : Str) (ns : List Str) (ds : List D) (bx : Bag)
  | stuck
abbrev SF := Env → Bag → SO
def SOk (K : PySem.W.Frag) (C : Cq) (W : WX) (S : Hp) (E : Ends) : SO → Prop
  | .nx ρ b => ∀ S' σ H, Same S S' → OkS K C S' ρ b σ H → E.nx σ H
  | .rt d b => ∀ S' H v, Same S S' → Core C S' b H → DR K C.ba S' v d → E.rt v H
  | .ro d b => ∀ S' H p u, Same S S' → Core C S' b H → H p = some u → S' p = none → C.H0 p = none → C.ba ≠ some p → ODR K C.ba S' u d → E.rt (.ref p) H
  | .bk ρ b => ∀ S' σ H, Same S S' → OkS K C S' ρ b σ H → E.bk σ H
  | .ct ρ b => ∀ S' σ H, Same S S' → OkS K C S' ρ b σ H → E.ct σ H
  | .ex ρ c ns ds bx => ∀ (dx : Option Addr) S' σ H b, Same S S' → OkS K C S' ρ b σ H → XR K C.ba S' dx ns ds → b = bx → W (.ref (He.ga K c)) dx σ H
  | .stuck => False
/-- what an expression gives to a statement -/
def Out.st {α : Type} (o : Out α) (ρ : Env) (k : α → Bag → SO) : SO := match o with
  | .ok a b => k a b
  | .ex c ns ds bx => .ex ρ c ns ds bx
  | .stuck => .stuck
def SO.seq (o : SO) (k : Env → Bag → SO) : SO := match o with
  | .nx ρ b => k ρ b
  | .rt d b => .rt d b
  | .ro ds b => .ro ds b
  | .bk ρ b => .bk ρ b
  | .ct ρ b => .ct ρ b
  | .ex ρ c ns ds bx => .ex ρ c ns ds bx
  | .stuck => .stuck
section
variable {K : PySem.W.Frag} {C : Cq} {W : WX} {S S1 : Hp} {ρ : Env} {σ : L2.St} {E : Ends} {α : Type}
theorem SOk.up {o : SO} (h : SOk K C W S E o) (e : Same S S1) : SOk K C W S1 E o := by
  cases o with
  | nx ρ b => exact fun S' σ H e' => h S' σ H (e.trans e')
  | rt d b => exact fun S' H v e' => h S' H v (e.trans e')
  | ro ds b => exact fun S' H p vs e' => h S' H p vs (e.trans e')
  | bk ρ b => exact fun S' σ H e' => h S' σ H (e.trans e')
  | ct ρ b => exact fun S' σ H e' => h S' σ H (e.trans e')
  | ex ρ c ns ds bx => exact fun dx S' σ H b e' => h dx S' σ H b (e.trans e')
  | stuck => exact h
theorem SOk.st {o : Out α} {k : α → Bag → SO} (h : SOk K C W S E (o.st ρ k)) : OutG K C W S ρ σ (fun a b S' _ => SOk K C W S' E (k a b)) o := by
  cases o with
  | ok a b => exact fun S' H' e _ => SOk.up h e
  | ex c ns ds bx => exact fun dx S' H' b e o x => h dx S' σ H' b e o x
  | stuck => exact h
theorem SOk.seq {o : SO} {k : Env → Bag → SO} (h : SOk K C W S E (o.seq k)) : SOk K C W S { E with nx := fun σ H => ∃ S' ρ b, OkS K C S' ρ b σ H ∧ SOk K C W S' E (k ρ b) } o := by
  cases o with
  | nx ρ b => exact fun S' σ H e ok => ⟨S', ρ, b, ok, SOk.up h e⟩
  | rt d b => exact h
  | ro ds b => exact h
  | bk ρ b => exact h
  | ct ρ b => exact h
  | ex ρ c ns ds bx => exact h
  | stuck => exact h
end
section
variable {X : Cx} {C : Cq} {W : WX} {st : Stmt} {sts : List Stmt} {e : Expr} {pos : Pos} {F : EF} {G Gr : SF}
@[simp] def sNil : SF := fun ρ b => .nx ρ b
@[simp] def sSeq (G Gr : SF) : SF := fun ρ b => (G ρ b).seq Gr
@[simp] def sRet (F : EF) : SF := fun ρ b => (F ρ b).st ρ fun d b' => .rt d b'
@[simp] def sDrop (F : EF) : SF := fun ρ b => (F ρ b).st ρ fun _ b' => .nx ρ b'
@[simp] def sIf (G : BF) (A B : SF) : SF := fun ρ b => (G ρ b).st ρ fun k b' => if k = true then A ρ b' else B ρ b'
abbrev GF := D → Env → Bag → Option (Env × Bag)
abbrev GsF := List D → Env → Bag → Option (Env × Bag)
@[simp] def gN (i : Nat) : GF := fun d ρ b => some (ρ.set i (some (.sh d)), b)
@[simp] def gsN : GsF
  | [], ρ, b => some (ρ, b)
  | _ :: _, _, _ => none
@[simp] def gsC (g : GF) (gs : GsF) : GsF
  | [], _, _ => none
  | d :: ds, ρ, b => (g d ρ b).bind fun z => gs ds z.1 z.2
@[simp] def gT (n : Nat) (gs : GsF) : GF := fun d ρ b => match d with
  | .tup ds => if ds.length = n then gs ds ρ b else none
  | _ => none
@[simp] def sAsg (F : EF) (g : GF) : SF := fun ρ b => (F ρ b).st ρ fun d b' => match g d ρ b' with
  | some z => .nx z.1 z.2
  | none => .stuck
/-- name = a fresh list, owned -/
@[simp] def sOwn (F : EF) (i : Nat) : SF := fun ρ b => (F ρ b).st ρ fun ds b' => .nx (ρ.set i (some (.ow ds))) b'
/-- an owned slot is shared from here on -/
@[simp] def sFreeze (i : Nat) (G : SF) : SF := fun ρ b => match ρ[i]? with
  | some (some (.ow d)) => G (ρ.set i (some (.sh d))) b
  | _ => G ρ b
end
end DL

set_option maxHeartbeats 400000
namespace DL
open PySem PySem.Spec PyProof.Rows L2
section
variable {K : PySem.W.Frag} {C : Cq} {S S' H H' : Hp} {σ : L2.St} {ρ : Env} {b b' : Bag}
def inner (C : Cq) (S H : Hp) : Cq := ⟨H, S, C.ba⟩
theorem Core.inner (c : Core C S b H) : Core (DL.inner C S H) S b H := ⟨c.sub, fun _ _ e _ => e, c.bag, fun _ _ e => .inl e⟩
theorem Core.outer (c : Core C S b H) (d : Core (DL.inner C S H) S' b' H') : Core C S' b' H' := by
  refine ⟨d.sub, fun a o e hb => d.fr a o (c.fr a o e hb) hb, d.bag, fun a o e => ?_⟩
  rcases d.new a o e with h | h | h
  · exact c.new a o h
  · exact .inr (.inl (c.h0 h))
  · exact .inr (.inr h)
theorem OkS.frame (o : OkS K C S ρ b σ H) (d : Core (DL.inner C S H) S' b' H') (e : Same S S') : OkS K C S' ρ b' σ H' := by
  obtain ⟨c, O, s, w⟩ := o
  refine ⟨c.outer d, O, s.mono e (fun p hp u h => d.fr p u h (w.al p hp).2.2), w.nd, fun p hp => ⟨?_, (w.al p hp).2⟩⟩
  cases q : S' p with
  | none => rfl
  | some u =>
    rcases d.new p u q with h | h | ⟨xs, h⟩
    · have z : S p = some u := h
      rw [(w.al p hp).1] at z; cases z
    · obtain ⟨u', hu⟩ := s.there p hp
      have z : H p = none := h
      rw [hu] at z; cases z
    · obtain ⟨u', hu, nt⟩ := s.thereO p hp
      have z := d.sub _ _ q
      rw [d.fr p u' hu (w.al p hp).2.2, h] at z
      exact absurd (Option.some.inj z) (nt xs)
/-- without the owned -/
@[simp] def unown : Env → Env
  | [] => []
  | some (.ow _) :: ρ => none :: unown ρ
  | x :: ρ => x :: unown ρ
theorem Slots.unown {ba : Option Addr} : ∀ {σ : L2.St} {ρ : Env} {O : List Addr}, Slots K ba S H σ ρ O → Slots K ba S H σ (DL.unown ρ) []
  | _, _, _, .nil => .nil
  | _, _, _, .no s => .no (Slots.unown s)
  | _, _, _, .sh r s => .sh r (Slots.unown s)
  | _, _, _, .ow _ _ s => .no (Slots.unown s)
theorem OkS.inner (o : OkS K C S ρ b σ H) : OkS K (DL.inner C S H) S (DL.unown ρ) b σ H := by
  obtain ⟨c, O, s, w⟩ := o
  exact ⟨c.inner, [], s.unown, List.nodup_nil, fun _ h => by cases h⟩
end
def ItD (K : PySem.W.Frag) (ba : Option Addr) (J : It) (ds : List D) (S : Hp) : Prop := ∀ (C : Cq), C.ba = ba → ∀ (i : Nat) (S' : Hp) (ρ : Env) (b : Bag) (σ : L2.St) (H : Hp), Same S S' → OkS K C S' ρ b σ H →
  (∀ d, ds[i]? = some d → J.go i H ∧ ∀ x H', J.yld i H x H' → ∃ S2, Same S' S2 ∧ OkS K C S2 ρ b σ H' ∧ DR K ba S2 x d ∧ (∀ p u, H p = some u → H' p = some u)) ∧ (ds.length = i → J.stop i H)
theorem ItD.up {K : PySem.W.Frag} {ba : Option Addr} {J : It} {ds : List D} {S S1 : Hp} (h : ItD K ba J ds S) (e : Same S S1) : ItD K ba J ds S1 := fun C hC i S' ρ b σ H e' => h C hC i S' ρ b σ H (e.trans e')
/-- range(n) -/
def rangeOf (i : Int) : List D := (List.range i.toNat).map fun (k : Nat) => D.int (k : Int)
def aRng (G : AF) : AF := fun ρ b => (G ρ b).bind fun ds b' => match ds with
  | [.int i] => if -1000000 ≤ i ∧ i ≤ 1000000 then .ok (rangeOf i) b' else .stuck
  | _ => .stuck
def loopD (g : GF) (B : SF) : List D → Env → Bag → SO
  | [], ρ, b => .nx ρ b
  | d :: ds, ρ, b => match g d ρ b with
    | none => .stuck
    | some z => match B z.1 z.2 with
      | .nx ρ2 b2 => loopD g B ds ρ2 b2
      | .ct ρ2 b2 => loopD g B ds ρ2 b2
      | .bk ρ2 b2 => .nx ρ2 b2
      | .rt d b2 => .rt d b2
      | .ro d b2 => .ro d b2
      | .ex ρ2 c ns es bx => .ex ρ2 c ns es bx
      | .stuck => .stuck
def sFor (F : AF) (g : GF) (B : SF) : SF := fun ρ b => (F ρ b).st ρ fun ds b' => loopD g B ds ρ b'
def Out.noex {α : Type} (o : Out α) : Out α := match o with
  | .ok a b => .ok a b
  | .ex _ _ _ _ => .stuck
  | .stuck => .stuck
def lcD (g : GF) (T : BF) (F : EF) : List D → Env → Bag → Out (List D)
  | [], _, b => .ok [] b
  | d :: ds, ρ, b => match g d ρ b with
    | none => .stuck
    | some z => ((T z.1 z.2).noex).bind fun k b1 => if k = true then ((F z.1 b1).noex).bind fun y b2 => (lcD g T F ds ρ b2).bind fun ys b3 => .ok (y :: ys) b3 else lcD g T F ds ρ b1
@[simp] def eLc (Fi : AF) (vs : List Nat) (g : GF) (T : BF) (F : EF) : EF := fun ρ b => (Fi ρ b).bind fun ds b1 => if ds.length ≤ 100000 then (lcD g T F ds (wipeE (unown ρ) vs) b1).bind fun ys b2 => .ok (.lst ys) b2 else .stuck
end DL

set_option maxHeartbeats 1000000
namespace DL
open PySem PySem.Spec PyProof.Rows L2
abbrev DFn := List D → Bag → Out D
@[simp] def startE (n : Nat) (ds : List D) : Env := ds.map (fun d => some (.sh d)) ++ List.replicate (n - ds.length) none
def SO.out : SO → Out D
  | .rt d b => .ok d b
  | .nx _ b => .ok .non b
  | .ex _ c ns ds bx => .ex c ns ds bx
  | _ => .stuck
/-- n names, m parameters -/
@[simp] def runD (n m : Nat) (G : SF) : DFn := fun ds b => if ds.length = m then (G (startE n ds) b).out else .stuck
variable {Gd Gd' : Around → Prop}
structure FnG (P : Program) (w : World) (K : PySem.W.Frag) (mg : Str → Option Value) (base : Heap) (Gd : Around → Prop) (k : Nat) (f : Addr) (fd : FuncData) (ps : List Str) (sp : Sp) : Prop where
  many : ∀ vs H Q E, sp vs H Q E → vs.length = ps.length
  go : ∀ (A : Around) (fr : List PySem.Env) (s : Shared) (H : Hp) (ar : Args) (us : List Value) (vs : List V) (Q : VK) (E : XK), Room k A → Gd A → Env0 P w K mg base A fr s H → BindsTo s fd ar (ps.zip us) → Vals vs us → sp vs H Q E →
    codeAny (model P w) A (.call (.ref f) ar) (CR (L2.CX P w) fr P w H s Q E) s
section
variable {P : Program} {w : World} {K : PySem.W.Frag} {mg : Str → Option Value} {base : Heap} {k : Nat} {f : Addr} {fd : FuncData} {ps N : List Str} {sp : Sp}
theorem FnG.up {j : Nat} (F : FnG P w K mg base Gd j f fd ps sp) (h : j ≤ k) : FnG P w K mg base Gd k f fd ps sp := ⟨F.many, fun A fr s H ar us vs Q E r => F.go A fr s H ar us vs Q E (r.mono h)⟩
theorem FnG.body {x qual : Str} {st : Stmt} (F : Fun K x qual st f fd) (Sc : FnScope N ps (defScope st)) (many : ∀ vs H Q E, sp vs H Q E → vs.length = ps.length)
    (hb : ∀ (cdv : Value) (A : Around) (fr : List PySem.Env) (s : Shared) (H : Hp) (vs : List V) (Q : VK) (E : XK), Room k (A.deeper (envOfC qual (defScope st) s.heap.objs.size f cdv)) → Gd A → sp vs H Q E →
      ∃ t, PSs (cxOf (L2.CX P w) P w K mg base N qual (defScope st) f cdv A fr s H E) (defBody st) t ∧ t { nx := fun _ H' => Q .non H', rt := Q } (L2.start N vs) H) : FnG P w K mg base Gd (k + 1) f fd ps sp := by
  obtain ⟨oc, od, kV, doc, pm, an, cdv, ct, osl, rfl, lk, hc⟩ := F.ex
  refine ⟨many, fun A fr s H ar us vs Q E room hg e bt rv hs => ?_⟩
  have old : ∀ b o, base.get? b = some o → s.heap.get? b = some o := fun b o q => (e.bs b o q).1
  have kin := e.mod.kin.keeps old
  refine codeAny_call_function room.depth (kin f _ lk) rfl Sc.co Sc.gen rfl (PySem.W.codeRec_of kin hc) (bt _ _ _ _ (wpAny_newFunctionEnv_cells Sc.kind (fun y hy => ?_) fun env he s1 x => ?_))
  · have hm := (List.of_mem_zip (show (y.1, y.2) ∈ ps.zip us from hy)).1
    rcases Sc.par y.1 hm with q | q
    · exact Or.inl q
    · exact Or.inr ⟨q, PySem.W.cellsFrom_some _ _ _ (Or.inl q)⟩
  · subst he
    obtain ⟨t, ht, hq⟩ := hb cdv A fr s H vs Q E (room.deeper _) hg hs
    have start := inv_start (CX := L2.CX P w) (f := f) (qual := qual) (cd := cdv) (E := E) Sc room.hd e (many vs H Q E hs) rv x
    refine ⟨(e.mod.nolimit.keeps old).keeps x.toInCall.keep, codeAny_func (wpAny_mono (ht.run [] s1 _ H _ start hq) (fun fl s' z => ?_) fun _ _ z => z)⟩
    cases fl with
    | brk => obtain ⟨_, _, _, z⟩ := z; exact z.elim
    | cont => obtain ⟨_, _, _, z⟩ := z; exact z.elim
    | next => obtain ⟨_, H', J, z⟩ := z; exact ⟨V.non, H', J.os, J.bare, J.base, J.hok, rfl, z⟩
    | ret u => obtain ⟨v, _, H', J, r, z⟩ := z; exact ⟨v, H', J.os, J.bare, J.base, J.hok, r, z⟩
end
section
variable {X : Cx} {k : Nat} {f : Addr} {fd : FuncData} {ps : List Str} {sp : Sp} {pins : List (Addr × Obj)} {σ : L2.St} {H : Hp} {s : Shared} {Q : VK} {W : WX}
/-- what a code of ours ends with, seen from the caller -/
theorem end_of (tk : Takes X W) (I : Inv X pins σ H s) {r : Result} {s' : Shared} (h : CR (L2.CX X.prog X.w) X.stack X.prog X.w H s Q (fun c d H' => W c d σ H') r s') :
    (∃ u, r = .ok (.ret u) ∧ EP X pins σ Q u s') ∨ ∃ e, r = .error e ∧ X.xe e s' := by
  cases r with
  | error e => exact Or.inr ⟨e, rfl, tk e s' (XE.of_call I (fun _ _ _ z => z) h)⟩
  | ok fl =>
    cases fl with
    | ret u => exact Or.inl ⟨u, rfl, I.after h⟩
    | brk => exact False.elim h
    | cont => exact False.elim h
    | next => exact False.elim h
/-- the callee's run; bt says how what is passed comes to its parameters -/
theorem FnG.at_ (F : FnG X.prog X.w X.K X.mg X.base Gd k f fd ps sp) (room : Room k X.A) (hg : Gd X.A) (tk : Takes X W) (I : Inv X pins σ H s) {us : List Value} {kw : List (Str × Value)} {ws : List Value} {zs : List V} (bt : BindsTo s fd ⟨us, kw⟩ (ps.zip ws)) (r : Vals zs ws)
    (h : sp zs H Q (fun c d H' => W c d σ H')) : wpAny (model X.prog X.w) X.A (call (.ref f) us kw) (EP X pins σ Q) X.xe s := by
  refine wpAny_call (codeAny_mono (F.go X.A X.stack s H ⟨us, kw⟩ ws zs Q _ room hg I.env0 bt r h) fun r s' z => ?_)
  rcases end_of tk I z with ⟨u, rfl, q⟩ | ⟨e, rfl, q⟩
  · exact q
  · exact q
end
@[simp] def eCall (F : DFn) (G : AF) : EF := fun ρ b => (G ρ b).bind fun ds b' => F ds b'
end DL

set_option maxHeartbeats 1000000
namespace DL
open PySem PySem.Spec PyProof.Rows L2
mutual
def D.pd : D → Option PyData
  | .non => some .none
  | .bl b => some (.bool b)
  | .int i => some (.int i)
  | .str x => some (.str x)
  | .tup ds => (pds ds).map .tuple
  | .lst ds => (pds ds).map .list
  | .fl ds => (pds ds).map .list
  | .ins _ _ _ => none
  | .obj _ => none
  | .bag => none
  | .dct _ _ => none
  | .dtp _ _ => none
def pds : List D → Option (List PyData)
  | [] => some []
  | d :: ds => match d.pd with
    | some p => (pds ds).map (p :: ·)
    | none => none
end
section
variable {K : PySem.W.Frag} {ba : Option Addr} {S H : Hp}
mutual
theorem DR.dp (e : Same S H) : ∀ (d : D) (v : V) (p : PyData), DR K ba S v d → d.pd = some p → Dp K H v p
  | .non, _, _, h, q => by
    simp only [D.pd, Option.some.injEq] at q
    subst q; cases h; exact .non
  | .bl _, _, _, h, q => by
    simp only [D.pd, Option.some.injEq] at q
    subst q; cases h; exact .bl _
  | .int _, _, _, h, q => by
    simp only [D.pd, Option.some.injEq] at q
    subst q; cases h; exact .int _
  | .str _, _, _, h, q => by
    simp only [D.pd, Option.some.injEq] at q
    subst q; cases h; exact .str _
  | .tup ds, _, _, h, q => by
    simp only [D.pd, Option.map_eq_some_iff] at q
    obtain ⟨ps, hp, rfl⟩ := q
    cases h with
    | tup h1 h2 => exact .tup (seqT e h1) (DRs.dp e ds _ _ h2 hp)
  | .lst ds, _, _, h, q => by
    simp only [D.pd, Option.map_eq_some_iff] at q
    obtain ⟨ps, hp, rfl⟩ := q
    cases h with
    | lst h1 h2 => exact .lst (SqL.of (e _ _ h1)) (DRs.dp e ds _ _ h2 hp)
  | .fl ds, _, _, h, q => by
    simp only [D.pd, Option.map_eq_some_iff] at q
    obtain ⟨ps, hp, rfl⟩ := q
    cases h with
    | fl h1 h2 => exact .lst (e.seq h1) (DRs.dp e ds _ _ h2 hp)
  | .ins _ _ _, _, _, _, q => by simp [D.pd] at q
  | .obj _, _, _, _, q => by simp [D.pd] at q
  | .bag, _, _, _, q => by simp [D.pd] at q
  | .dct _ _, _, _, _, q => by simp [D.pd] at q
  | .dtp _ _, _, _, _, q => by simp [D.pd] at q
theorem DRs.dp (e : Same S H) : ∀ (ds : List D) (vs : List V) (ps : List PyData), DRs K ba S vs ds → pds ds = some ps → DpAll K H vs ps
  | [], _, _, h, q => by
    simp only [pds, Option.some.injEq] at q
    subst q; cases h; exact .nil
  | d :: ds, _, _, h, q => by
    cases h with
    | cons h1 h2 =>
      unfold pds at q
      cases hd : d.pd with
      | none => rw [hd] at q; simp at q
      | some p =>
        rw [hd] at q
        simp only [Option.map_eq_some_iff] at q
        obtain ⟨ps', hp, rfl⟩ := q
        exact .cons (DR.dp e d _ _ h1 hd) (DRs.dp e ds _ _ h2 hp)
end
end
@[simp] def addF : D → D → Option D
  | .int i, .int j => some (.int (i + j))
  | .str x, .str y => if x.length + y.length ≤ 100000 then some (.str (x ++ y)) else none
  | .lst a, .lst b => if a.length + b.length ≤ 100000 then some (.lst (a ++ b)) else none
  | .tup a, .tup b => if a.length + b.length ≤ 100000 then some (.tup (a ++ b)) else none
  | _, _ => none
@[simp] def subF : D → D → Option D
  | .int i, .int j => some (.int (i - j))
  | _, _ => none
@[simp] def mulF : D → D → Option D
  | .str x, .int k => if (x.length ≤ 1000 ∧ -1000 ≤ k ∧ k ≤ 1000) ∨ (x.length ≤ 10000 ∧ -100 ≤ k ∧ k ≤ 100) then some (.str (Txt.mul x k)) else none
  | .int i, .int j => if (-(2 ^ 64) < i ∧ i < 2 ^ 64) ∨ (-(2 ^ 64) < j ∧ j < 2 ^ 64) then some (.int (i * j)) else none
  | .tup a, .int k => if 1 ≤ k ∧ k ≤ 1000 ∧ a.length ≤ 1000 ∧ 0 < a.length then some (.tup (List.replicate k.toNat a).flatten) else none
  | .lst a, .int k => if -1000 ≤ k ∧ k ≤ 1000 ∧ a.length ≤ 100 then some (.lst (List.replicate k.toNat a).flatten) else none
  | _, _ => none
@[simp] def modF : D → D → Option D
  | .int i, .int j => if 0 < j then some (.int (i % j)) else none
  | _, _ => none
@[simp] def fdivF : D → D → Option D
  | .int i, .int j => if 0 < j ∧ j < 1073741824 then some (.int (i / j)) else none
  | _, _ => none
@[simp] def ltF : D → D → Option D
  | .int i, .int j => some (.bl (decide (i < j)))
  | .str i, .str j => some (.bl (decide (i.cps.toList < j.cps.toList)))
  | _, _ => none
@[simp] def leF : D → D → Option D
  | .int i, .int j => some (.bl (decide (i ≤ j)))
  | .str i, .str j => some (.bl (!decide (j.cps.toList < i.cps.toList)))
  | _, _ => none
@[simp] def gtF : D → D → Option D
  | .int i, .int j => some (.bl (decide (j < i)))
  | _, _ => none
@[simp] def geF : D → D → Option D
  | .int i, .int j => some (.bl (decide (j ≤ i)))
  | _, _ => none
def eqF (d e : D) : Option D := match d.pd, e.pd with
  | some p, some q => if SeqAt.shaped p = true ∧ SeqAt.shaped q = true then some (.bl (PyData.eqv p q)) else none
  | _, _ => none
def neF (d e : D) : Option D := match d.pd, e.pd with
  | some p, some q => if SeqAt.shaped p = true ∧ SeqAt.shaped q = true then some (.bl (!PyData.eqv p q)) else none
  | _, _ => none
section
variable {X : Cx} {C : Cq} {W : WX} {e a b : Expr} {pos : Pos} {F Fa Fb : EF} {G : AF}
theorem i2 {K : PySem.W.Frag} {f : D → D → Option D} {Cc : Int → Int → Prop} {g : Int → Int → V} {g' : Int → Int → D} (hf : ∀ d e z, f d e = some z → ∃ i j, d = .int i ∧ e = .int j ∧ Cc i j ∧ z = g' i j) (hg : ∀ S i j, DR K C.ba S (g i j) (g' i j)) : Op2 K C (rI Cc g) f := by
  intro S ρ b σ H v w d e z Q ok r1 r2 hz q
  obtain ⟨i, j, rfl, rfl, hc, rfl⟩ := hf _ _ _ hz
  cases r1; cases r2
  exact ⟨i, j, rfl, rfl, hc, q _ S H (Same.refl _) ok (hg S i j)⟩
/-- a < b < c: both asked -/
@[simp] def e3 (f f' : D → D → Option D) (Fa Fb Fc : EF) : EF := fun ρ b => (Fa ρ b).bind fun x b1 => (Fb ρ b1).bind fun y b2 => match f x y with
  | some (.bl true) => (Fc ρ b2).bind fun z b3 => Out.pureO (f' y z) b3
  | some (.bl false) => .ok (.bl false) b2
  | _ => .stuck
/-- -n -/
@[simp] def negF : D → Option D
  | .int i => some (.int (-i))
  | _ => none
@[simp] def e1 (f : D → Option D) (Fa : EF) : EF := fun ρ b => (Fa ρ b).bind fun x b1 => Out.pureO (f x) b1
end
end DL

set_option maxHeartbeats 1000000
namespace DL
open PySem PySem.Spec PyProof.Rows L2
section
variable {X : Cx} {C : Cq} {W : WX} {e a b : Expr} {pos : Pos} {F Fa Fb : EF} {G : AF}
@[simp] def Bag.ds (b : Bag) : List D := [.int b.x, .int b.y, .int b.z]
@[simp] def ixF (b : Bag) : D → D → Option D
  | .lst ds, .int i => atI ds i
  | .fl ds, .int i => atI ds i
  | .tup ds, .int i => atI ds i
  | .str x, .int i => if x.length ≤ 100000 then (atI x.cps.toList i).map fun c => .str ⟨#[c]⟩ else none
  | .bag, .int i => atI b.ds i
  | _, _ => none
@[simp] def eIx (Fa Fb : EF) : EF := fun ρ b => (Fa ρ b).bind fun x b1 => (Fb ρ b1).bind fun y b2 => Out.pureO (ixF b2 x y) b2
theorem DRs.atI {K : PySem.W.Frag} {ba : Option Addr} {S : Hp} {vs : List V} {ds : List D} {i : Int} {d : D} (h : DRs K ba S vs ds) (e : atI ds i = some d) : ∃ v, L2.atI vs i = some v ∧ DR K ba S v d := by
  unfold L2.atI at e ⊢
  rw [h.length]
  cases hi : ixN ds.length i with
  | none => rw [hi] at e; cases e
  | some j =>
    rw [hi] at e
    exact h.get e
abbrev OF := Env → Bag → Out (Option Int)
def oNo : OF := fun _ b => .ok none b
def oSome (F : EF) : OF := fun ρ b => (F ρ b).bind fun d b' => match d with
  | .int i => .ok (some i) b'
  | _ => .stuck
def cutD (xs : List D) (lo hi : Option Int) : List D := (xs.drop (HT.sIx xs.length 0 lo)).take (HT.sIx xs.length xs.length hi - HT.sIx xs.length 0 lo)
def slF (lo hi : Option Int) : D → Option D
  | .lst ds => some (.lst (cutD ds lo hi))
  | .fl ds => some (.lst (cutD ds lo hi))
  | .tup ds => some (.tup (cutD ds lo hi))
  | .str x => if x.length ≤ 100000 then some (.str (cutS x lo hi)) else none
  | _ => none
def eSl (F : EF) (lo hi : OF) : EF := fun ρ b => (F ρ b).bind fun d b1 => (lo ρ b1).bind fun l b2 => (hi ρ b2).bind fun h b3 => Out.pureO (slF l h d) b3
@[simp] def eB (f : List D → Option D) (G : AF) : EF := fun ρ b => (G ρ b).bind fun ds b' => Out.pureO (f ds) b'
@[simp] def lenF : List D → Option D
  | [.lst ds] => some (.int ds.length)
  | [.fl ds] => some (.int ds.length)
  | [.tup ds] => some (.int ds.length)
  | [.str x] => if x.length ≤ 100000 then some (.int x.length) else none
  | _ => none
def tupleF : List D → Option D
  | [.lst ds] => some (.tup ds)
  | [.fl ds] => some (.tup ds)
  | [.tup ds] => some (.tup ds)
  | _ => none
/-- all of a list of truths -/
def truths : List D → Option (List Bool)
  | [] => some []
  | .bl k :: ds => (truths ds).map (k :: ·)
  | _ :: _ => none
def allF : List D → Option D
  | [.lst ds] => (truths ds).map fun ks => .bl (ks.all id)
  | _ => none
end
end DL

set_option maxHeartbeats 1000000
namespace DL
open PySem PySem.Spec PyProof.Rows L2
section
variable {X : Cx} {C : Cq} {W : WX} {st : Stmt} {e a b o : Expr} {es : List Expr} {pos apos cpos : Pos} {F Fa Fb : EF} {G : AF}
/-- xs.append(e), xs an owned list in slot i -/
@[simp] def sPush (i : Nat) (F : EF) : SF := fun ρ b => match ρ[i]? with
  | some (some (.ow (.lst ds))) => (F ρ b).st ρ fun d b' => if ds.length ≤ 100000 then .nx (ρ.set i (some (.ow (.lst (ds ++ [d]))))) b' else .stuck
  | _ => .stuck
/-- .. into the bag in slot i -/
@[simp] def Bag.set (b : Bag) (k : Int) (z : Int) : Option Bag := if k = 0 then some ⟨z, b.y, b.z⟩ else if k = 1 then some ⟨b.x, z, b.z⟩ else if k = 2 then some ⟨b.x, b.y, z⟩ else none
theorem OkF.frame {K : PySem.W.Frag} {S S' H H' : Hp} {ρ : Env} {b b' : Bag} {σ : L2.St} {p : Addr} {u : HO} (o : OkF K C S ρ b σ H p u) (d : Core (inner C S H) S' b' H') (es : Same S S') (nt : ∀ xs, u ≠ .tup xs := by first | (intro _ z; cases z; done) | (intro _ z; subst z; cases ‹ODR _ _ _ (.tup _) _›)) : OkF K C S' ρ b' σ H' p u := by
  obtain ⟨c, h1, h2, h3, h4, O, s, w, n⟩ := o
  have none_of : ∀ q u, S q = none → H q = some u → C.ba ≠ some q → (∀ xs, u ≠ .tup xs) → S' q = none := fun q u hS hH hb nt => by
    cases z : S' q with
    | none => rfl
    | some v =>
      rcases d.new q v z with y | y | ⟨ys, y⟩
      · have y' : S q = some v := y
        rw [hS] at y'; cases y'
      · have y' : H q = none := y
        rw [hH] at y'; cases y'
      · have y' := d.sub _ _ z
        rw [d.fr q u hH hb, y] at y'
        exact absurd (Option.some.inj y') (nt ys)
  refine ⟨c.outer d, d.fr p u h1 h4, none_of p u h2 h1 h4 nt, h3, h4, O, s.mono es (fun q hq v h => d.fr q v h (w.al q hq).2.2), ⟨w.nd, fun q hq => ⟨?_, (w.al q hq).2⟩⟩, n⟩
  obtain ⟨v, hv, nv⟩ := s.thereO q hq
  exact none_of q v (w.al q hq).1 hv (w.al q hq).2.2 nv
end
end DL

set_option maxHeartbeats 2000000

set_option maxHeartbeats 1000000
namespace DL
open PySem PySem.Spec PyProof.Rows L2
section
variable {X : Cx} {C : Cq} {W : WX} {st : Stmt} {e a b c o tg l : Expr} {es : List Expr} {pos apos cpos : Pos} {F Fa Fb Fc : EF} {G : AF}
def signsOf (x : Str) : List D := x.cps.toList.map fun c => .str ⟨#[c]⟩
def enumOf (ds : List D) : List D := (List.range ds.length).zipWith (fun (k : Nat) d => D.tup [.int k, d]) ds
def aEnumT (G : AF) : AF := fun ρ b => (G ρ b).bind fun ds b' => match ds with
  | [.tup ds] => .ok (enumOf ds) b'
  | _ => .stuck
def zipOf (xs ys : List D) : List D := xs.zipWith (fun d e => D.tup [d, e]) ys
def aZipS (G : AF) : AF := fun ρ b => (G ρ b).bind fun ds b' => match ds with
  | [.str x, .str y] => .ok (zipOf (signsOf x) (signsOf y)) b'
  | _ => .stuck
def anySeq : D → Option (List D)
  | .lst ds => some ds
  | .fl ds => some ds
  | .tup ds => some ds
  | _ => none
def aStar (F : EF) (G : AF) : AF := fun ρ b => (F ρ b).bind fun d b1 => match anySeq d with
  | some xs => (G ρ b1).bind fun ds b2 => .ok (xs ++ ds) b2
  | none => .stuck
end
end DL

set_option maxHeartbeats 1000000
namespace DL
open PySem PySem.Spec PyProof.Rows L2
section
variable {X : Cx} {C : Cq} {W : WX} {st : Stmt} {e a b c o tg l : Expr} {es : List Expr} {pos apos cpos : Pos} {F Fa Fb Fc : EF} {G : AF}
structure ClsI (K : PySem.W.Frag) (C : Addr) : Prop where
  cl : Cls K C
  ha : PySem.W.findIn K (.ref C) "__class__" = some (some (.builtin "object.__class__"))
  hn : PySem.W.specialIn K (.builtin "object.__class__") "__get__" = some (some (.builtin "getset_descriptor.__get__"))
  htk : PySem.W.takesIn K (.builtin "object.__class__") = some true
  hm : PySem.W.mroIn K C (.type "object") = some true
@[simp] def tyD : D → Option (String ⊕ Addr)
  | .non => some (.inl "NoneType")
  | .bl _ => some (.inl "bool")
  | .int _ => some (.inl "int")
  | .str _ => some (.inl "str")
  | .tup _ => some (.inl "tuple")
  | .lst _ => some (.inl "list")
  | .fl _ => some (.inl "list")
  | .ins C _ _ => some (.inr C)
  | .obj _ => none
  | .bag => none
  | .dct _ _ => some (.inl "dict")
  | .dtp _ _ => none
def isiF (c : V) (kb : String → Option Bool) (own : Addr → Option Bool) : List D → Option D
  | [d, .obj c'] => if c' = c then (match tyD d with
    | some (.inl n) => (kb n).map .bl
    | some (.inr A) => (own A).map .bl
    | none => none) else none
  | _ => none
def inF : D → D → Option D
  | .str x, .str z => match x.cps.toList with
    | [c] => some (.bl (decide (c ∈ z.cps.toList)))
    | _ => none
  | _, _ => none
def eM (f : Str → List D → Option D) (Fo : EF) (G : AF) : EF := fun ρ b => (Fo ρ b).bind fun d b1 => match d with
  | .str x => (G ρ b1).bind fun ds b2 => Out.pureO (f x ds) b2
  | _ => .stuck
def findF (x : Str) : List D → Option D
  | [.str y] => some (.int (Txt.find x y))
  | _ => none
def lkD : List Str → List D → Str → Option D
  | n :: ns, d :: ds, f => if (f == n) = true then some d else lkD ns ds f
  | _, _, _ => none
def fldF (A : Addr) (f : Str) : D → Option D
  | .ins A' ns ds => if A' = A then lkD ns ds f else none
  | _ => none
end
end DL

set_option maxHeartbeats 1000000
namespace DL
open PySem PySem.Spec PyProof.Rows L2
section
variable {K : PySem.W.Frag} {C : Cq} {S S' H H' : Hp} {ρ : Env} {b : Bag} {σ : L2.St} {p : Addr} {u u' : HO}
/-- what was run in an inner run, its names otherwise, is ours again -/
theorem OkF.again {ρ' : Env} {b' : Bag} {σ' : L2.St} (o : OkF K C S ρ b σ H p u) (d : OkS K (inner C S H) S' ρ' b' σ' H') (nt : ∀ xs, u ≠ .tup xs := by first | (intro _ z; cases z; done) | (intro _ z; subst z; cases ‹ODR _ _ _ (.tup _) _›)) : OkF K C S' ρ' b' σ' H' p u := by
  obtain ⟨c, h1, h2, h3, h4, O, s, w, n⟩ := o
  obtain ⟨dc, O', s', w'⟩ := d
  have sp' : S' p = none := by
    cases z : S' p with
    | none => rfl
    | some v =>
      rcases dc.new p v z with y | y | ⟨ys, y⟩
      · have y' : S p = some v := y
        rw [h2] at y'; cases y'
      · have y' : H p = none := y
        rw [h1] at y'; cases y'
      · have y' := dc.sub _ _ z
        rw [dc.fr p u h1 h4, y] at y'
        exact absurd (Option.some.inj y') (nt ys)
  have hin : ∀ q ∈ O', H q = none := fun q hq => (w'.al q hq).2.1
  refine ⟨c.outer dc, dc.fr p u h1 h4, sp', h3, h4, O', s', ⟨w'.nd, fun q hq => ⟨(w'.al q hq).1, ?_, (w'.al q hq).2.2⟩⟩, fun z => ?_⟩
  · exact c.h0 (hin q hq)
  · rw [hin p z] at h1; cases h1
end
abbrev IO := Out (List Str × List D)
def IOk (K : PySem.W.Frag) (C : Cq) (W : WX) (A x : Addr) (S : Hp) (E : Ends) : IO → Prop
  | .ok z b => ∀ S' σ H dx fs, Same S S' → Core C S' b H → H x = some (.ins A dx fs) → S' x = none → fs.map (·.1) = z.1 → DRs K C.ba S' (fs.map (·.2)) z.2 → E.nx σ H
  | .ex c ns ds bx => ∀ (dx : Option Addr) S' σ H b, Same S S' → Core C S' b H → XR K C.ba S' dx ns ds → b = bx → W (.ref (He.ga K c)) dx σ H
  | .stuck => False
theorem IOk.up {K : PySem.W.Frag} {C : Cq} {W : WX} {A x : Addr} {S S1 : Hp} {E : Ends} {o : IO} (h : IOk K C W A x S E o) (e : Same S S1) : IOk K C W A x S1 E o := by
  cases o with
  | ok z b => exact fun S' σ H dx fs e' => h S' σ H dx fs (e.trans e')
  | ex c ns ds bx => exact fun dx S' σ H b e' => h dx S' σ H b (e.trans e')
  | stuck => exact h
section
variable {X : Cx} {C : Cq} {E : XK} {e : Expr} {es : List Expr} {pos p : Pos} {G : AF} {A f : Addr} {k : Nat} {fd : FuncData} {ps : List Str} {x : Str}
def eMake (A : Addr) (Fm : List D → Bag → IO) (G : AF) : EF := fun ρ b => (G ρ b).bind fun ds b' => (Fm ds b').bind fun z b2 => .ok (.ins A z.1 z.2) b2
end
end DL

set_option maxHeartbeats 1000000
namespace DL
open PySem PySem.Spec PyProof.Rows L2
section
variable {X : Cx} {C : Cq} {W : WX} {st : Stmt} {e a b c o tg l : Expr} {es : List Expr} {pos apos cpos : Pos} {F Fa Fb Fc : EF} {G : AF}
@[simp] def allOf : D → Option (List D)
  | .lst ds => some ds
  | .fl ds => some ds
  | .tup ds => some ds
  | .str x => some (signsOf x)
  | _ => none
@[simp] def aAny (F : EF) : AF := fun ρ b => (F ρ b).bind fun d b' => Out.pureO (allOf d) b'
@[simp] def bYes : BF := fun _ b => .ok true b
theorem OkF.allocH {K : PySem.W.Frag} {S H : Hp} {ρ : Env} {b : Bag} {σ : L2.St} {p q : Addr} {u t : HO} (o : OkF K C S ρ b σ H p u) (hq : H q = none) : OkF K C S ρ b σ (upd H q t) p u := by
  obtain ⟨c, h1, h2, h3, h4, O, s, w, n⟩ := o
  refine ⟨c.allocH hq, ?_, h2, h3, h4, O, s.mono (Same.refl _) (fun r hr v h => ?_), w, n⟩
  · rw [upd_ne (ne_of_none h1 hq)]; exact h1
  · rw [upd_ne (ne_of_none h hq)]; exact h
end
end DL

set_option maxHeartbeats 1000000
namespace DL
open PySem PySem.Spec PyProof.Rows L2
structure QD where
  at_ : PySem.W.Frag → Addr
  name : Str
  qual : Str
  st : Stmt
def fnV (K : PySem.W.Frag) (a : Addr) : He.FnW := match K.lookup a with
  | some ⟨_, _, .func fd, _⟩ => some (fd.name, fd.qualname, fd.params, fd.body, fd.scope, fd.globals, fd.closure, fd.builtins)
  | _ => none
def QD.val (d : QD) : He.FnW := some (d.name, d.qual, defArgs d.st, .stmts (defBody d.st), defScope d.st, mainGlobals, [], builtinsNs)
def noneV : Value → Bool
  | .none => true
  | _ => false
def QD.ok (K : PySem.W.Frag) (d : QD) : Bool := PySem.W.keepIn K (.ref (d.at_ K)) && (match K.lookup (d.at_ K) with
  | some ⟨_, _, .func fd, _⟩ => PySem.W.codeIn K fd.code d.qual && noneV fd.defaults
  | _ => false)
theorem QD.get {K : PySem.W.Frag} {d : QD} (e : fnV K (d.at_ K) = d.val) (c : d.ok K = true) : ∃ fd, Fun K d.name d.qual d.st (d.at_ K) fd := by
  unfold QD.ok at c
  rw [Bool.and_eq_true] at c
  obtain ⟨kp, c⟩ := c
  unfold fnV at e
  cases q : K.lookup (d.at_ K) with
  | none => rw [q] at c; cases c
  | some o =>
    obtain ⟨oc, od, dt, osl⟩ := o
    rw [q] at c e
    cases dt with
    | func fd =>
      obtain ⟨n1, n2, n3, n4, n5, n6, n7, n8, n9, n10, n11, n12, n13, n14, n15⟩ := fd
      have e : (some (n1, n2, n3, n4, n5, n6, n7, n15) : He.FnW) = d.val := e
      unfold QD.val at e
      simp only [Option.some.injEq, Prod.mk.injEq] at e
      obtain ⟨h1, h2, h3, h4, h5, h6, h7, h8⟩ := e
      subst h1 h2 h3 h4 h5 h6 h7 h8
      have c : (PySem.W.codeIn K n13 d.qual && noneV n8) = true := c
      rw [Bool.and_eq_true] at c
      obtain ⟨c1, c2⟩ := c
      cases n8 <;> first | cases c2 | skip
      exact ⟨_, ⟨oc, od, n9, n10, n11, n12, n13, n14, osl, rfl, q, c1⟩, kp⟩
    | _ => cases c
abbrev QA : Type := Bool × List He.FnW
def obK (fn : List QD) (ex : PySem.W.Frag → Bool) (K : PySem.W.Frag) : QA := (ex K && fn.all fun d => d.ok K, fn.map fun d => fnV K (d.at_ K))
def vaK (fn : List QD) : QA := (true, fn.map QD.val)
end DL

set_option maxHeartbeats 1000000
namespace DL
open PySem PySem.Spec PyProof.Rows L2
section
variable {α β : Type} {a : α} {b : Bag} {k : α → Bag → Out β} {c : Str} {ns : List Str} {ds : List D} {ρ : Env} {ks : α → Bag → SO} {kr : Env → Bag → SO} {d : D}
theorem atI_nat {xs : List α} {i : Nat} {x : α} (h : xs[i]? = some x) : atI xs (i : Int) = some x := by
  have hl : i < xs.length := (List.getElem?_eq_some_iff.mp h).1
  have : (i : Int) < (xs.length : Int) := by omega
  simp [atI, ixN, this, h]
end
end DL

set_option maxHeartbeats 1000000
namespace DL
open PySem PySem.Spec PyProof.Rows L2
section
variable {X : Cx} {C : Cq} {W : WX} {k : Nat} {A f : Addr} {fd : FuncData} {ps : List Str} {a : Expr} {pos p : Pos} {G : AF} {Fn : DFn}
/-- len(e), e an object of the class A whose __len__ is Fn -/
@[simp] def eLenO (A : Addr) (Fn : DFn) (G : AF) : EF := fun ρ b => (G ρ b).bind fun ds b1 => match ds with
  | [.ins A' ns es] => if A' = A then (match Fn [.ins A' ns es] b1 with
    | .ok (.int n) b2 => if 0 ≤ n ∧ n < 2 ^ 63 then .ok (.int n) b2 else .stuck
    | _ => .stuck) else .stuck
  | _ => .stuck
end
def intsD : List D → Option (List Int)
  | [] => some []
  | .int i :: ds => (intsD ds).map (i :: ·)
  | _ :: _ => none
def topI : Int → List Int → Int
  | m, [] => m
  | m, i :: is => topI (if m < i then i else m) is
def maxLF : List D → Option D
  | [.lst ds] => (intsD ds).bind fun is => match is with
    | i :: is => some (.int (topI i is))
    | [] => none
  | _ => none
theorem topI_ge : ∀ (is : List Int) (m : Int), m ≤ topI m is ∧ (∀ y ∈ is, y ≤ topI m is) ∧ (topI m is = m ∨ topI m is ∈ is)
  | [], m => ⟨Int.le_refl _, fun _ h => (by cases h), .inl rfl⟩
  | i :: is, m => by
    obtain ⟨h1, h2, h3⟩ := topI_ge is (if m < i then i else m)
    unfold topI
    by_cases h : m < i
    · rw [if_pos h] at h1 h2 h3 ⊢
      exact ⟨by omega, fun y hy => (List.mem_cons.mp hy).elim (fun e => by rw [e]; exact h1) (h2 y), .inr (h3.elim (fun e => by rw [e]; exact List.mem_cons_self) (List.mem_cons_of_mem _))⟩
    · rw [if_neg h] at h1 h2 h3 ⊢
      exact ⟨h1, fun y hy => (List.mem_cons.mp hy).elim (fun e => by rw [e]; omega) (h2 y), h3.elim .inl fun z => .inr (List.mem_cons_of_mem _ z)⟩
end DL

set_option maxHeartbeats 1000000
namespace DL
open PySem PySem.Spec PyProof.Rows L2
@[simp] def flatD : D → Option V
  | .non => some .non
  | .bl b => some (.bl b)
  | .int i => some (.int i)
  | .str x => some (.str x)
  | _ => none
@[simp] def flatsD : List D → Option (List V)
  | [] => some []
  | d :: ds => (flatD d).bind fun v => (flatsD ds).map (v :: ·)
section
variable {X : Cx} {C : Cq} {W : WX} {o e a b : Expr} {es : List Expr} {pos apos cpos : Pos} {F Fa Fb : EF} {G : AF}
@[simp] def inQ : D → D → Option D
  | d, .lst es => (flatD d).bind fun y => (flatsD es).map fun ys => .bl (inV y ys)
  | d, .fl es => (flatD d).bind fun y => (flatsD es).map fun ys => .bl (inV y ys)
  | d, .tup es => (flatD d).bind fun y => (flatsD es).map fun ys => .bl (inV y ys)
  | _, _ => none
@[simp] def ninQ : D → D → Option D
  | d, .lst es => (flatD d).bind fun y => (flatsD es).map fun ys => .bl (!inV y ys)
  | d, .fl es => (flatD d).bind fun y => (flatsD es).map fun ys => .bl (!inV y ys)
  | d, .tup es => (flatD d).bind fun y => (flatsD es).map fun ys => .bl (!inV y ys)
  | _, _ => none
end
end DL

set_option maxHeartbeats 1000000
namespace DL
open PySem PySem.Spec PyProof.Rows L2
section
variable {X : Cx} {C : Cq} {W : WX} {o e a b : Expr} {es : List Expr} {pos apos cpos p : Pos} {F Fa Fb : EF} {G : AF} {st : Stmt}
@[simp] def shlF : D → D → Option D
  | .int i, .int j => if 0 ≤ j ∧ j ≤ 1000 ∧ i.natAbs < 2 ^ 64 then some (.int (i * 2 ^ j.toNat)) else none
  | _, _ => none
@[simp] def shrF : D → D → Option D
  | .int i, .int j => if 0 ≤ j then some (.int (i / 2 ^ j.toNat)) else none
  | _, _ => none
@[simp] def bandF : D → D → Option D
  | .int i, .int j => some (.int (Builtin.bitAnd i j))
  | _, _ => none
@[simp] def borF : D → D → Option D
  | .int i, .int j => some (.int (Builtin.bitOr i j))
  | _, _ => none
@[simp] def isNF : D → Option D
  | .obj _ => none
  | .non => some (.bl true)
  | _ => some (.bl false)
@[simp] def truD : D → Option Bool
  | .non => some false
  | .bl k => some k
  | .int i => some (i != 0)
  | .str x => if x.length ≤ 100000 then some ((x.length : Int) != 0) else none
  | .lst ds => some (!ds.isEmpty)
  | .fl ds => some (!ds.isEmpty)
  | .tup ds => some (!ds.isEmpty)
  | _ => none
@[simp] def bT (F : EF) : BF := fun ρ b => (F ρ b).bind fun d b' => match truD d with
  | some k => .ok k b'
  | none => .stuck
def sumF : List D → Option D
  | [.lst ds] => (intsD ds).map fun is => .int is.sum
  | _ => none
def anyF : List D → Option D
  | [.lst ds] => (truths ds).map fun ks => .bl (ks.any id)
  | _ => none
def whileD (c : BF) (B : SF) : Nat → Env → Bag → SO
  | 0, _, _ => .stuck
  | n + 1, ρ, b => (c ρ b).st ρ fun k b1 => if k = true then (match B ρ b1 with
    | .nx ρ2 b2 => whileD c B n ρ2 b2
    | .ct ρ2 b2 => whileD c B n ρ2 b2
    | .bk ρ2 b2 => .nx ρ2 b2
    | .rt d b2 => .rt d b2
    | .ro d b2 => .ro d b2
    | .ex ρ2 c ns es bx => .ex ρ2 c ns es bx
    | .stuck => .stuck) else .nx ρ b1
def sWhile (n : Nat) (c : BF) (B : SF) : SF := fun ρ b => whileD c B n ρ b
/-- len(x) -/
@[simp] def eLenOw (i : Nat) : EF := fun ρ b => match ρ[i]? with
  | some (some (.ow (.lst ds))) => .ok (.int ds.length) b
  | some (some (.sh (.lst ds))) => .ok (.int ds.length) b
  | _ => .stuck
/-- x[e] -/
@[simp] def eIxOw (i : Nat) (F : EF) : EF := fun ρ b => match ρ[i]? with
  | some (some (.ow (.lst ds))) => (F ρ b).bind fun d b1 => match d with
    | .int k => Out.pureO (atI ds k) b1
    | _ => .stuck
  | some (some (.sh (.lst ds))) => (F ρ b).bind fun d b1 => match d with
    | .int k => Out.pureO (atI ds k) b1
    | _ => .stuck
  | _ => .stuck
/-- x, as a test -/
@[simp] def bOw (i : Nat) : BF := fun ρ b => match ρ[i]? with
  | some (some (.ow (.lst ds))) => .ok (!ds.isEmpty) b
  | _ => .stuck
@[simp] def sPop (i j : Nat) : SF := fun ρ b => match ρ[i]? with
  | some (some (.ow (.lst ds))) => match ds[ds.length - 1]? with
    | some d => .nx ((ρ.set i (some (.ow (.lst ds.dropLast)))).set j (some (.sh d))) b
    | none => .stuck
  | _ => .stuck
end
end DL

set_option maxHeartbeats 1000000
namespace DL
open PySem PySem.Spec PyProof.Rows L2
@[simp] def keyD : D → Option Key
  | .int i => some (.inl i)
  | .str x => some (.inr x)
  | _ => none
def lookK : List Key → List D → Key → Option D
  | k :: ks, d :: ds, j => if k = j then some d else lookK ks ds j
  | _, _, _ => none
/-- the values behind a store of one that is there -/
def setK : List Key → List D → Key → D → List D
  | k :: ks, d :: ds, j, e => (if k = j then e else d) :: setK ks ds j e
  | _, ds, _, _ => ds
def putD (ks : List Key) (ds : List D) (j : Key) (e : D) : D := if ks.any (fun k => decide (k = j)) then .dct ks (setK ks ds j e) else .dct (ks ++ [j]) (ds ++ [e])
section
variable {X : Cx} {C : Cq} {W : WX} {o e a b : Expr} {es : List Expr} {pos pos' apos cpos p : Pos} {F Fa Fb Fk Fv : EF} {G : AF} {st : Stmt}
/-- {} -/
@[simp] def eDnew : EF := fun _ b => .ok (.dct [] []) b
/-- x[k] = v, x owned -/
@[simp] def sDput (i : Nat) (Fk Fv : EF) : SF := fun ρ b => match ρ[i]? with
  | some (some (.ow (.dct ks ds))) => (Fv ρ b).st ρ fun d b1 => (Fk ρ b1).st ρ fun k b2 => match keyD k with
    | some j => if ks.length ≤ 100000 then .nx (ρ.set i (some (.ow (putD ks ds j d)))) b2 else .stuck
    | none => .stuck
  | _ => .stuck
/-- x[k], x owned -/
@[simp] def eDgOw (i : Nat) (F : EF) : EF := fun ρ b => match ρ[i]? with
  | some (some (.ow (.dct ks ds))) => (F ρ b).bind fun k b1 => match keyD k with
    | some j => Out.pureO (lookK ks ds j) b1
    | none => .stuck
  | _ => .stuck
/-- d[k] -/
@[simp] def eDg (Fo F : EF) : EF := fun ρ b => (Fo ρ b).bind fun d b1 => match d with
  | .dct ks ds => (F ρ b1).bind fun k b2 => match keyD k with
    | some j => Out.pureO (lookK ks ds j) b2
    | none => .stuck
  | _ => .stuck
end
end DL

set_option maxHeartbeats 2000000
namespace DL
open PySem PySem.Spec PyProof.Rows L2
def lc2D (g : GF) (Fi1 : AF) (vs1 : List Nat) (g1 : GF) (F : EF) : List D → Env → Bag → Out (List D)
  | [], _, b => .ok [] b
  | d :: ds, ρ, b => match g d ρ b with
    | none => .stuck
    | some z => ((Fi1 (unown z.1) z.2).noex).bind fun es b1 => (lcD g1 bYes F es (wipeE (unown z.1) vs1) b1).bind fun ys b2 => (lc2D g Fi1 vs1 g1 F ds ρ b2).bind fun zs b3 => .ok (ys ++ zs) b3
@[simp] def eLc2 (Fi : AF) (vs : List Nat) (g : GF) (Fi1 : AF) (vs1 : List Nat) (g1 : GF) (F : EF) : EF := fun ρ b => (Fi ρ b).bind fun ds b1 => (lc2D g Fi1 vs1 g1 F ds (wipeE (unown ρ) vs) b1).bind fun ys b2 => if ys.length ≤ 100000 then .ok (.lst ys) b2 else .stuck
end DL

set_option maxHeartbeats 1000000
namespace DL
open PySem PySem.Spec PyProof.Rows L2
section
variable {X : Cx} {C : Cq} {W : WX} {o e a b : Expr} {es : List Expr} {pos pos' p p2 : Pos} {F Fa Fb : EF} {G : AF}
/-- list(range(n)) -/
@[simp] def eLstRg (F : EF) : EF := fun ρ b => (F ρ b).bind fun d b1 => match d with
  | .int n => if 0 ≤ n ∧ n ≤ 100000 then .ok (.lst (rangeOf n)) b1 else .stuck
  | _ => .stuck
end
end DL

set_option maxHeartbeats 2000000
namespace DL
open PySem PySem.Spec PyProof.Rows L2
def ownB (M : Addr) : Addr → Option Bool := fun A => if A = M then some false else none
def ownM (M : Addr) : Addr → Option Bool := fun A => if A = M then some true else none
def kitM (n : String) : Option Bool := if n = "NoneType" ∨ n = "bool" ∨ n = "int" ∨ n = "str" ∨ n = "tuple" ∨ n = "list" then some false else none
end DL

set_option maxHeartbeats 2000000

set_option maxHeartbeats 1000000
namespace DL
open PySem PySem.Spec PyProof.Rows L2
section
variable {X : Cx} {C : Cq} {W : WX} {o e a b c : Expr} {es : List Expr} {pos pos' apos cpos p : Pos} {F Fa Fb Fk Fv : EF} {G : AF} {st : Stmt}
def aZipX (G : AF) : AF := fun ρ b => (G ρ b).bind fun ds b' => match ds with
  | [.str x, .tup ys] => .ok (zipOf (signsOf x) ys) b'
  | [.str x, .lst ys] => .ok (zipOf (signsOf x) ys) b'
  | _ => .stuck
def eDone (Fk Fv : EF) : EF := fun ρ b => match Fk (unown ρ) b with
  | .ok k b1 => match Fv (unown ρ) b1 with
    | .ok v b2 => match keyD k with
      | some j => .ok (.dct [j] [v]) b2
      | none => .stuck
    | _ => .stuck
  | _ => .stuck
@[simp] def eInDOw (neg : Bool) (i : Nat) (F : EF) : EF := fun ρ b => match ρ[i]? with
  | some (some (.ow (.dct ks ds))) => (F ρ b).bind fun k b1 => match keyD k with
    | some j => .ok (.bl (if neg then !(ks.any fun k => decide (k = j)) else ks.any fun k => decide (k = j))) b1
    | none => .stuck
  | _ => .stuck
@[simp] def sAug (i : Nat) (F : EF) : SF := fun ρ b => match ρ[i]? with
  | some (some (.sh (.int k))) => (F ρ b).st ρ fun d b1 => match d with
    | .int j => .nx (ρ.set i (some (.sh (.int (k + j))))) b1
    | _ => .stuck
  | _ => .stuck
@[simp] def eLstD (F : EF) : EF := fun ρ b => (F ρ b).bind fun d b1 => match d with
  | .dct ks _ => .ok (.lst (ks.map fun k => match k with | .inl i => .int i | .inr x => .str x)) b1
  | _ => .stuck
end
end DL

set_option maxHeartbeats 1000000
namespace DL
open PySem PySem.Spec PyProof.Rows L2
@[simp] def isN2 (d e : D) : Option D := match e with
  | .non => isNF d
  | _ => none
@[simp] def notN2 (d e : D) : Option D := match e with
  | .non => (match isNF d with
    | some (.bl k) => some (.bl (!k))
    | _ => none)
  | _ => none
end DL

set_option maxHeartbeats 1000000

set_option maxHeartbeats 1000000
namespace DL
open PySem PySem.Spec PyProof.Rows L2 RZ
section
variable {X : Cx} {C : Cq} {W : WX} {a b c e o : Expr} {pos p apos cpos : Pos} {Fa Fb Fc F Fo Fk Fd : EF} {G : AF} {st : Stmt}
@[simp] def eGet (Fo Fk Fd : EF) : EF := fun ρ b => (Fo ρ b).bind fun d b1 => match d with
  | .dct ks ds => (Fk ρ b1).bind fun k b2 => (Fd ρ b2).bind fun z b3 => match keyD k with
    | some j => .ok ((lookK ks ds j).getD z) b3
    | none => .stuck
  | _ => .stuck
def unK : Key → D
  | .inl i => .int i
  | .inr x => .str x
def itemsD (ks : List Key) (ds : List D) : List D := ks.zipWith (fun k d => D.tup [unK k, d]) ds
def aItems (F : EF) : AF := fun ρ b => (F ρ b).bind fun d b' => match d with
  | .dct ks ds => .ok (itemsD ks ds) b'
  | _ => .stuck
/-- zip of two of any sort -/
def aZipA (G : AF) : AF := fun ρ b => (G ρ b).bind fun ds b' => match ds with
  | [.lst xs, .lst ys] => .ok (zipOf xs ys) b'
  | [.tup xs, .tup ys] => .ok (zipOf xs ys) b'
  | [.str x, .str y] => .ok (zipOf (signsOf x) (signsOf y)) b'
  | [.str x, .tup ys] => .ok (zipOf (signsOf x) ys) b'
  | [.str x, .lst ys] => .ok (zipOf (signsOf x) ys) b'
  | _ => .stuck
end
end DL

set_option maxHeartbeats 1000000
namespace DL
open PySem PySem.Spec PyProof.Rows L2
section
variable {K : PySem.W.Frag} {C : Cq} {ba : Option Addr} {S S' H H' : Hp} {b b' : Bag}
theorem Slots.append {σ' : L2.St} {ρ' : Env} {O' : List Addr} : ∀ {σ : L2.St} {ρ : Env} {O : List Addr}, Slots K ba S H σ ρ O → Slots K ba S H σ' ρ' O' → Slots K ba S H (σ ++ σ') (ρ ++ ρ') (O ++ O')
  | _, _, _, .nil, h' => h'
  | _, _, _, .no s, h' => .no (Slots.append s h')
  | _, _, _, .sh r s, h' => .sh r (Slots.append s h')
  | _, _, _, .ow h1 h2 s, h' => .ow h1 h2 (Slots.append s h')
theorem Slots.split {σ' : L2.St} {ρ' : Env} : ∀ {σ : L2.St} {ρ : Env} {O : List Addr}, σ.length = ρ.length → Slots K ba S H (σ ++ σ') (ρ ++ ρ') O → ∃ O1 O2, O = O1 ++ O2 ∧ Slots K ba S H σ ρ O1 ∧ Slots K ba S H σ' ρ' O2
  | [], [], O, _, h => ⟨[], O, rfl, .nil, h⟩
  | [], _ :: _, _, hl, _ => by simp at hl
  | _ :: _, [], _, hl, _ => by simp at hl
  | x :: σ, y :: ρ, O, hl, h => by
    have hl2 : σ.length = ρ.length := by simpa using hl
    rw [List.cons_append, List.cons_append] at h
    cases h with
    | no s =>
      obtain ⟨O1, O2, e, h1, h2⟩ := Slots.split hl2 s
      exact ⟨O1, O2, e, .no h1, h2⟩
    | sh r s =>
      obtain ⟨O1, O2, e, h1, h2⟩ := Slots.split hl2 s
      exact ⟨O1, O2, e, .sh r h1, h2⟩
    | ow g1 g2 s =>
      obtain ⟨O1, O2, e, h1, h2⟩ := Slots.split hl2 s
      exact ⟨_ :: O1, O2, by rw [e]; rfl, .ow g1 g2 h1, h2⟩
end
section
variable {X : Cx} {C : Cq} {W : WX} {st : Stmt}
theorem OkS.len {K : PySem.W.Frag} {S H : Hp} {ρ : Env} {b : Bag} {σ : L2.St} (o : OkS K C S ρ b σ H) : σ.length = ρ.length := by
  obtain ⟨c, O, s, w⟩ := o
  exact s.len
end
end DL

set_option maxHeartbeats 1000000

set_option maxHeartbeats 1000000

set_option maxHeartbeats 1000000

set_option maxHeartbeats 1000000

set_option maxHeartbeats 1000000

set_option maxHeartbeats 4000000
namespace SrtO
open PySem PyProof.Rows Srt
section
variable {prog : Program} {w : World} {A : Around} {E : Value → Shared → Prop} {s : Shared}
def IsPairS (h : Heap) (v : Value) (x : PySem.Str) (y : Int) : Prop := ∃ a o t u n, v = .ref a ∧ h.get? a = some o ∧ o.cls = .type "tuple" ∧ o.data = .seq #[.str x t, .int y u] n
theorem IsPairS.keeps {h h' : Heap} {v : Value} {x : PySem.Str} {y : Int} (p : IsPairS h v x y) (k : ∀ b o, h.get? b = some o → o.cls = .type "tuple" → h'.get? b = some o) : IsPairS h' v x y := by
  obtain ⟨a, o, t, u, n, e, ho, hc, hd⟩ := p
  exact ⟨a, o, t, u, n, e, k _ _ ho hc, hc, hd⟩
def lexT (p q : PySem.Str × Int) : Bool := if p.1 = q.1 then decide (p.2 < q.2) else decide (p.1.cps.toList < q.1.cps.toList)
end
end SrtO

set_option maxHeartbeats 1000000
namespace DL
open PySem PySem.Spec PyProof.Rows L2
open SrtO (lexT Swo Stb Srtd)
/-- what stands behind the items -/
inductive ItT (K : PySem.W.Frag) (H : Hp) : List V → List (Str × Int) → Prop
  | nil : ItT K H [] []
  | cons {t : Addr} {p : Str × Int} {vs : List V} {l : List (Str × Int)} : SqT K H t [.str p.1, .int p.2] → ItT K H vs l → ItT K H (.ref t :: vs) (p :: l)
open Classical in
noncomputable def keyOf (K : PySem.W.Frag) (H : Hp) (v : V) : Str × Int := if h : ∃ (p : Str × Int) (t : Addr), v = .ref t ∧ SqT K H t [.str p.1, .int p.2] then h.choose else ("", 0)
theorem ItT.all {K : PySem.W.Frag} {H : Hp} : ∀ {vs : List V} {l : List (Str × Int)}, ItT K H vs l → (∀ v ∈ vs, ∃ (p : Str × Int) (t : Addr), v = .ref t ∧ SqT K H t [.str p.1, .int p.2])
  | _, _, .nil => fun v h => by cases h
  | _, _, .cons h r => fun v hv => by
    rcases List.mem_cons.mp hv with rfl | hv
    · exact ⟨_, _, rfl, h⟩
    · exact r.all v hv
theorem ItT.of {K : PySem.W.Frag} {H : Hp} : ∀ (ys : List V), (∀ v ∈ ys, ∃ t, v = .ref t ∧ SqT K H t [.str (keyOf K H v).1, .int (keyOf K H v).2]) → ItT K H ys (ys.map (keyOf K H))
  | [], _ => .nil
  | y :: ys, h => by
    have h1 := h y List.mem_cons_self
    have h2 := ItT.of ys fun v hv => h v (List.mem_cons_of_mem _ hv)
    obtain ⟨t, e, h1⟩ := h1
    rw [List.map_cons]
    generalize keyOf K H y = p at h1 ⊢
    subst e
    exact .cons h1 h2
end DL

set_option maxHeartbeats 1000000

set_option maxHeartbeats 2000000
namespace DL
open PySem PySem.Spec PyProof.Rows L2
section
variable {X : Cx} {C : Cq} {W : WX} {e a : Expr} {pos apos cpos p : Pos} {F : EF} {te : TE}
def eVals (F : EF) : EF := fun ρ b => (F ρ b).bind fun d b1 => match d with
  | .dct _ ds => .ok (.lst ds) b1
  | _ => .stuck
end
def dcD (g : GF) (T : BF) (Fk Fv : EF) : List D → Env → D → Bag → Out D
  | [], _, acc, b => .ok acc b
  | d :: ds, ρ, acc, b => match g d ρ b with
    | none => .stuck
    | some z => ((T z.1 z.2).noex).bind fun k b1 => if k = true then ((Fk z.1 b1).noex).bind fun y b2 => ((Fv z.1 b2).noex).bind fun w b3 => match acc, keyD y with
      | .dct ks vs, some j => dcD g T Fk Fv ds ρ (putD ks vs j w) b3
      | _, _ => .stuck
      else dcD g T Fk Fv ds ρ acc b1
@[simp] def eDc (Fi : AF) (vs : List Nat) (g : GF) (T : BF) (Fk Fv : EF) : EF := fun ρ b => (Fi ρ b).bind fun ds b1 => if ds.length ≤ 100000 then dcD g T Fk Fv ds (wipeE (unown ρ) vs) (.dct [] []) b1 else .stuck
end DL

set_option maxHeartbeats 1000000

set_option maxHeartbeats 1000000

set_option maxHeartbeats 1000000

set_option maxHeartbeats 1000000
namespace DL
open PySem PySem.Spec PyProof.Rows L2
section
variable {X : Cx} {C : Cq} {W : WX} {k : Nat} {A f : Addr} {fd : FuncData} {ps : List Str} {a e : Expr} {es : List Expr} {pos p apos : Pos} {F Fa Fb : EF} {G : AF} {Fn : DFn}
/-- int(e), e a text -/
@[simp] def intTF : List D → Option D
  | [.str x] => if x.length ≤ 640 then (PySem.intText? x).map D.int else none
  | _ => none
/-- x.split(y) -/
@[simp] def splitF : Str → List D → Option D
  | x, [.str y] => if (y.length == 0) = false ∧ x.length ≤ 100000 then some (.lst ((Txt.split x y).map D.str)) else none
  | _, _ => none
end
section
variable {X : Cx} {C : Cq} {W : WX} {E : XK} {k i : Nat} {A f : Addr} {fd : FuncData} {ps : List Str} {e : Expr} {es : List Expr} {pos p : Pos} {G : AF} {x : Str}
def eMakeL (i : Nat) (A : Addr) (Fm : List D → Bag → IO) (G : AF) : EF := fun ρ b => match ρ[i]? with
  | some (some (.sh (.obj (.ref A')))) => if A' = A then eMake A Fm G ρ b else .stuck
  | _ => .stuck
end
section
variable {X : Cx} {C : Cq} {W : WX} {k : Nat} {A f q : Addr} {mc : Value} {fd : FuncData} {ps : List Str} {o e : Expr} {es : List Expr} {pos apos : Pos} {G : AF} {Fo : EF} {Fn : DFn} {m : Str} {pl : Sem Bool}
/-- C.m(e, ..), m a classmethod -/
def eCM (A : Addr) (Fn : DFn) (Fo : EF) (G : AF) : EF := fun ρ b => (Fo ρ b).bind fun d b1 => match d with
  | .obj (.ref A') => if A' = A then (G ρ b1).bind fun ds b2 => Fn (.obj (.ref A) :: ds) b2 else .stuck
  | _ => .stuck
end
end DL

set_option maxHeartbeats 1000000

set_option maxHeartbeats 2000000
namespace LzZ
open PySem PySem.Spec PyProof.Rows L2 PySem.W
section
variable {prog : Program} {w : World} {A : Around} {E : Value → Shared → Prop} {s : Shared} {z TI TO i1 i2 T : Addr} {fp1 fp2 : List Addr} {n1 n2 i : Nat} {P1 P2 : Nat → Value → Prop} {St1 St2 : Nat → Heap → Prop} {a1 a2 : Value} {f : Bool} {oT : Obj}
def ZSt (z TI TO i1 i2 L : Addr) (St1 St2 : Nat → Heap → Prop) (i : Nat) (h : Heap) : Prop :=
  IsTupOf2 h TI (.ref i1) (.ref i2) ∧ St1 i h ∧ St2 i h ∧ ((IsZip h z TI TO .none ∧ ∃ a b, IsTupOf2 h TO a b) ∨ ∃ T f oT, IsZipHeld h z TI TO T f ∧ h.get? T = some oT ∧ T ≠ z ∧ T ≠ i1 ∧ T ≠ i2 ∧ T ≠ L)
structure Off (z TI TO : Addr) (fp1 fp2 : List Addr) (L : Addr) : Prop where
  z : L ≠ z
  TI : L ≠ TI
  TO : L ≠ TO
  f1 : L ∉ fp1
  f2 : L ∉ fp2
theorem ZSt.keep {L : Addr} {h h' : Heap} (D1 : Draws prog w A.in1 i1 fp1 n1 P1 St1) (D2 : Draws prog w A.in1 i2 fp2 n2 P2 St2) (o : Off z TI TO fp1 fp2 L) (x : ZSt z TI TO i1 i2 L St1 St2 i h) (hk : ∀ b o, b ≠ L → h.get? b = some o → h'.get? b = some o) : ZSt z TI TO i1 i2 L St1 St2 i h' := by
  obtain ⟨hTI, s1, s2, hz⟩ := x
  refine ⟨hk _ _ o.TI.symm hTI, D1.frame _ _ _ s1 fun b hb u e => hk b u (fun q => o.f1 (q ▸ hb)) e, D2.frame _ _ _ s2 fun b hb u e => hk b u (fun q => o.f2 (q ▸ hb)) e, ?_⟩
  rcases hz with ⟨hz, a, b, hTO⟩ | ⟨T, f, oT, hz, hT, r1, r2, r3, r4⟩
  · exact .inl ⟨hk _ _ o.z.symm hz, a, b, hk _ _ o.TO.symm hTO⟩
  · exact .inr ⟨T, f, oT, hk _ _ o.z.symm hz, hk _ _ r4 hT, r1, r2, r3, r4⟩
end
/-- the tuples that were made -/
structure Made (P1 P2 : Nat → Value → Prop) (lo : Addr) (h : Heap) (as : List Addr) : Prop where
  rise : as.Pairwise (· < ·)
  above : ∀ a ∈ as, lo ≤ a
  pairs : ∀ (j : Nat) (a : Addr), as[j]? = some a → ∃ x y, P1 j x ∧ P2 j y ∧ IsTupOf2 h a x y
theorem Made.there {P1 P2 : Nat → Value → Prop} {lo : Addr} {h : Heap} {as : List Addr} (g : Made P1 P2 lo h as) {a : Addr} (ha : a ∈ as) : a < h.objs.size := by
  obtain ⟨j, hj⟩ := List.mem_iff_getElem?.mp ha
  obtain ⟨_, _, _, _, e⟩ := g.pairs j a hj
  exact Heap.lt_size e
end LzZ

set_option maxHeartbeats 2000000

set_option maxHeartbeats 2000000

set_option maxHeartbeats 1000000

set_option maxHeartbeats 1000000
namespace DL
open PySem PySem.Spec PyProof.Rows L2
def strsV (ks : List Str) : List V := ks.map V.str
def eqsV : List Value → List Str → Bool
  | [], [] => true
  | .str y _ :: us, k :: ks => decide (y = k) && eqsV us ks
  | _, _ => false
/-- the address holds a tuple of these texts, and keeps it -/
structure KTup (K : PySem.W.Frag) (a : Addr) (ks : List Str) : Prop where
  ex : ∃ o its n, K.lookup a = some o ∧ o.cls = .type "tuple" ∧ o.data = .seq its n ∧ its.size ≤ sizeLine ∧ Vals (strsV ks) its.toList
def isKT (K : PySem.W.Frag) (a : Addr) (ks : List Str) : Bool := match K.lookup a with
  | some o => decide (o.cls = .type "tuple") && (match o.data with
    | .seq its _ => decide (its.size ≤ sizeLine) && eqsV its.toList ks
    | _ => false)
  | none => false
@[simp] def inKF (ks : List Str) : D → Option D
  | .str y => some (.bl (decide (y ∈ ks)))
  | _ => none
end DL

set_option maxHeartbeats 1000000
namespace DL
open PySem PySem.Spec PyProof.Rows L2
def startF (x : Str) : List D → Option D
  | [.str y] => some (.bl (Txt.startswith x y))
  | _ => none
end DL

set_option maxHeartbeats 1000000
namespace DL
open PySem PySem.Spec PyProof.Rows L2
@[simp] def notB2 : D → D → Option D
  | .bl a, .bl c => some (.bl (!decide (a = c)))
  | _, _ => none
end DL

set_option maxHeartbeats 1000000
namespace DL
open PySem PySem.Spec PyProof.Rows L2
def sRaise (x f : Str) (F : EF) : SF := fun ρ b => (F ρ b).st ρ fun d b' => .ex ρ x [f] [d] b'
/-- what an except clause says of classes: m c tells whether it takes an exception of the class c -/
def sTry (m : Str → Option Bool) (F G : SF) : SF := fun ρ b => match F ρ b with
  | .ex ρ1 c ns ds b1 => (match m c with
    | some true => G ρ1 b1
    | some false => .ex ρ1 c ns ds b1
    | none => .stuck)
  | r => r
def SO.noex : SO → Bool
  | .ex _ _ _ _ _ => false
  | _ => true
end DL

set_option maxHeartbeats 1000000
namespace DL
open PySem PySem.Spec PyProof.Rows L2
def excO (K : PySem.W.Frag) (C : Addr) : Bool := match K.lookup C with
  | some ⟨.type "type", _, .cls cd, sl⟩ => (match cd.mro, sl.toList with
    | .ref C' :: bm, [_, _, _, _, some (.builtin n), _] => C' == C && (n == "ValueError.__new__" && (!cd.hasDel && (cd.hasDict && PySem.HandSPX.refsVE bm)))
    | _, _ => false)
  | _ => false
def excB (K : PySem.W.Frag) (x f : Str) : Bool := excO K (He.ga K x) && (He.eqO (PySem.W.findIn K (.ref (He.ga K x)) "__setattr__") (some (some (.builtin "object.__setattr__"))) && (decide (PySem.W.subIn K (.ref (He.ga K x)) (.type "BaseException") = some true) && (decide (PySem.W.typeIn K (.ref (He.ga K x)) = some (.type "type")) && (PySem.W.keepIn K (.ref (He.ga K x)) &&
  (He.eqO (PySem.W.findIn K (.ref (He.ga K x)) "__init__") (some (some (.ref (He.ma K (He.ga K x) "__init__")))) && (decide (PySem.W.typeIn K (.ref (He.ma K (He.ga K x) "__init__")) = some (.type "function")) && He.eqO (PySem.W.findIn K (.ref (He.ga K x)) f) (some none)))))))
def exmB (K : PySem.W.Frag) (x : Str) (cs : List (Str × Bool)) : Bool := cs.all fun p => decide (PySem.W.exmOne K (.ref (He.ga K p.1)) (.ref (He.ga K x)) = some p.2)
def sTryX (cs : List (Str × Bool)) (F G : SF) : SF := sTry (fun c => cs.lookup c) F (fun ρ b => if (G ρ b).noex = true then G ρ b else .stuck)
end DL

set_option maxHeartbeats 1000000

set_option maxHeartbeats 2000000
namespace DL
open PySem PySem.Spec PyProof.Rows L2
def G_is_letters (M : Addr) : SF := (sSeq (sIf (bOr (bNot (bB (eB (isiF (.ty "str") (fun n => kitB n "str") (ownB M)) (aCons (eV 0) (aCons (eC (.obj (.ty "str"))) aNil))))) (bNot (bB (e3 leF leF (eC (.int 1)) (eB lenF (aCons (eV 0) aNil)) (eC (.int 3)))))) (sRet (eC (.bl false))) sNil) (sSeq (sAsg (eB allF (aCons (eLc (aAny (eV 0)) [2] (gN 2) bYes (e2 inF (eV 2) (eC (.str "abcdefghijklmnopqrstuvwxyz")))) aNil)) (gN 1)) (sRet (eAnd (eV 1) (eB allF (aCons (eLc (aZipS (aCons (eV 0) (aCons (eSl (eV 0) (oSome (eC (.int 1))) oNo) aNil))) [3, 4] (gT 2 (gsC (gN 3) (gsC (gN 4) gsN))) bYes (e2 ltF (eV 3) (eV 4))) aNil))))))
def F_is_letters (M : Addr) : DFn := runD 5 1 (G_is_letters M)
def G_is_number (M : Addr) : SF := (sRet (eAnd (eB (isiF (.ty "int") (fun n => kitB n "int") (ownB M)) (aCons (eV 0) (aCons (eC (.obj (.ty "int"))) aNil))) (eAnd (eNot (eB (isiF (.ty "bool") (fun n => kitB n "bool") (ownB M)) (aCons (eV 0) (aCons (eC (.obj (.ty "bool"))) aNil)))) (e3 leF leF (eC (.int 0)) (eV 0) (eV 1)))))
def F_is_number (M : Addr) : DFn := runD 2 2 (G_is_number M)
def G_is_state (M : Addr) : SF := (sSeq (sIf (bOr (bNot (bB (eB (isiF (.ty "tuple") (fun n => kitB n "tuple") (ownB M)) (aCons (eV 0) (aCons (eC (.obj (.ty "tuple"))) aNil))))) (bB (e2 neF (eB lenF (aCons (eV 0) aNil)) (eC (.int 2))))) (sRet (eC (.bl false))) sNil) (sSeq (sAsg (eV 0) (gT 2 (gsC (gN 3) (gsC (gN 4) gsN)))) (sSeq (sIf (bOr (bNot (bB (eCall (F_is_number M) (aCons (eV 3) (aCons (eC (.int 6)) aNil))))) (bOr (bNot (bB (eB (isiF (.ty "tuple") (fun n => kitB n "tuple") (ownB M)) (aCons (eV 4) (aCons (eC (.obj (.ty "tuple"))) aNil))))) (bB (e2 neF (eB lenF (aCons (eV 4) aNil)) (eV 1))))) (sRet (eC (.bl false))) sNil) (sRet (eB allF (aCons (eLc (aAny (eV 4)) [5] (gN 5) bYes (eCall (F_is_number M) (aCons (eV 5) (aCons (e2 subF (eV 2) (eC (.int 1))) aNil)))) aNil))))))
def F_is_state (M : Addr) : DFn := runD 6 3 (G_is_state M)
def G_first_wrong_state (M : Addr) : SF := (sSeq (sFor (aEnumT (aCons (eV 1) aNil)) (gT 2 (gsC (gN 2) (gsC (gN 3) gsN))) (sIf (bOr (bB (e2 eqF (eV 2) (eC (.int 6)))) (bNot (bB (eCall (F_is_state M) (aCons (eV 3) (aCons (eB lenF (aCons (eV 0) aNil)) (aCons (eB lenF (aCons (eV 1) aNil)) aNil))))))) (sRet (eV 2)) sNil)) (sRet (e1 negF (eC (.int 1)))))
def F_first_wrong_state (M : Addr) : DFn := runD 4 2 (G_first_wrong_state M)
/-- what is made, for right letters and states -/
def Fm_Machine (M : Addr) : List D → Bag → IO := fun ds b => match ds with
  | [l, .tup ss] => (match F_is_letters M [l] b with
    | .ok (.bl true) b1 => if ss.length = 0 then .stuck else (match F_first_wrong_state M [l, .tup ss] b1 with
      | .ok (.int i) b2 => if 0 ≤ i then .stuck else .ok (["_letters", "_states"], [l, .tup ss]) b2
      | _ => .stuck)
    | _ => .stuck)
  | _ => .stuck
def G_check_machine (M : Addr) : SF := (sIf (bNot (bB (eB (isiF (.ref M) kitM (ownM M)) (aCons (eV 0) (aCons (eC (.obj (.ref M))) aNil))))) (sRaise "NotAMachine" "given" (eV 0)) sNil)
def F_check_machine (M : Addr) : DFn := runD 1 1 (G_check_machine M)
def G_is_spelled (M : Addr) : SF := (sRet (eAnd (eB (isiF (.ty "str") (fun n => kitB n "str") (ownB M)) (aCons (eV 1) (aCons (eC (.obj (.ty "str"))) aNil))) (eB allF (aCons (eLc (aAny (eV 1)) [2] (gN 2) bYes (e2 inF (eV 2) (eV 0))) aNil))))
def F_is_spelled (M : Addr) : DFn := runD 3 2 (G_is_spelled M)
def G_is_endless (M : Addr) : SF := (sSeq (sIf (bOr (bNot (bB (eB (isiF (.ty "tuple") (fun n => kitB n "tuple") (ownB M)) (aCons (eV 1) (aCons (eC (.obj (.ty "tuple"))) aNil))))) (bB (e2 neF (eB lenF (aCons (eV 1) aNil)) (eC (.int 2))))) (sRet (eC (.bl false))) sNil) (sSeq (sAsg (eV 1) (gT 2 (gsC (gN 2) (gsC (gN 3) gsN)))) (sRet (eAnd (eCall (F_is_spelled M) (aCons (eV 0) (aCons (eV 2) aNil))) (eAnd (eCall (F_is_spelled M) (aCons (eV 0) (aCons (eV 3) aNil))) (e2 gtF (eB lenF (aCons (eV 3) aNil)) (eC (.int 0))))))))
def F_is_endless (M : Addr) : DFn := runD 4 2 (G_is_endless M)
def G_is_lasso (M : Addr) : SF := (sRet (eAnd (eCall (F_is_endless M) (aCons (eV 0) (aCons (eV 1) aNil))) (eB allF (aCons (eLc (aAny (eV 1)) [2] (gN 2) bYes (e2 leF (eB lenF (aCons (eV 2) aNil)) (eC (.int 200)))) aNil))))
def F_is_lasso (M : Addr) : DFn := runD 3 2 (G_is_lasso M)
def G_Machine_len_ (M : Addr) : SF := (sRet (eB lenF (aCons (e1 (fldF M "_states") (eV 0)) aNil)))
def F_Machine_len_ (M : Addr) : DFn := runD 1 1 (G_Machine_len_ M)
def G_states_along (M : Addr) : SF := (sSeq (sOwn (eLst aNil) 3) (sSeq (sFor (aAny (eV 2)) (gN 4) (sSeq (sAsg (eIx (eIx (e1 (fldF M "_states") (eV 0)) (eV 1)) (eC (.int 1))) (gN 5)) (sSeq (sAsg (eIx (eV 5) (eM findF (e1 (fldF M "_letters") (eV 0)) (aCons (eV 4) aNil))) (gN 1)) (sPush 3 (eV 1))))) (sFreeze 3 (sRet (eV 3)))))
def F_states_along (M : Addr) : DFn := runD 6 3 (G_states_along M)
def G_state_behind (M : Addr) : SF := (sRet (eIx (eLst (aCons (eV 1) (aStar (eCall (F_states_along M) (aCons (eV 0) (aCons (eV 1) (aCons (eV 2) aNil)))) aNil))) (e1 negF (eC (.int 1)))))
def F_state_behind (M : Addr) : DFn := runD 3 3 (G_state_behind M)
def G_takes (M : Addr) : SF := (sSeq (sAsg (eV 1) (gT 2 (gsC (gN 2) (gsC (gN 3) gsN)))) (sSeq (sAsg (e2 mulF (eV 3) (eLenO M (F_Machine_len_ M) (aCons (eV 0) aNil))) (gN 4)) (sSeq (sAsg (eCall (F_state_behind M) (aCons (eV 0) (aCons (eC (.int 0)) (aCons (e2 addF (eV 2) (eV 4)) aNil)))) (gN 5)) (sRet (e2 eqF (e2 modF (eB maxLF (aCons (eLc (aAny (eCall (F_states_along M) (aCons (eV 0) (aCons (eV 5) (aCons (eV 4) aNil))))) [6] (gN 6) bYes (eIx (eIx (e1 (fldF M "_states") (eV 0)) (eV 6)) (eC (.int 0)))) aNil)) (eC (.int 2))) (eC (.int 0)))))))
def F_takes (M : Addr) : DFn := runD 7 2 (G_takes M)
def G_lies_in (M : Addr) : SF := (sSeq (sDrop (eCall (F_check_machine M) (aCons (eV 0) aNil))) (sSeq (sIf (bNot (bB (eCall (F_is_lasso M) (aCons (e1 (fldF M "_letters") (eV 0)) (aCons (eV 1) aNil))))) (sRaise "InvalidLasso" "given" (eV 1)) sNil) (sRet (eCall (F_takes M) (aCons (eV 0) (aCons (eV 1) aNil))))))
def F_lies_in (M : Addr) : DFn := runD 2 2 (G_lies_in M)
end DL

set_option maxHeartbeats 2000000
namespace DL
open PySem PySem.Spec PyProof.Rows L2
def G_is_word (M : Addr) : SF := (sRet (eAnd (eCall (F_is_spelled M) (aCons (eV 0) (aCons (eV 1) aNil))) (e2 leF (eB lenF (aCons (eV 1) aNil)) (eC (.int 200)))))
def F_is_word (M : Addr) : DFn := runD 2 2 (G_is_word M)
def G_state_after (M : Addr) : SF := (sSeq (sDrop (eCall (F_check_machine M) (aCons (eV 0) aNil))) (sSeq (sIf (bNot (bB (eCall (F_is_word M) (aCons (e1 (fldF M "_letters") (eV 0)) (aCons (eV 1) aNil))))) (sRaise "InvalidWord" "given" (eV 1)) sNil) (sRet (eCall (F_state_behind M) (aCons (eV 0) (aCons (eC (.int 0)) (aCons (eV 1) aNil)))))))
def F_state_after (M : Addr) : DFn := runD 2 2 (G_state_after M)
end DL

set_option maxHeartbeats 2000000
namespace DL
open PySem PySem.Spec PyProof.Rows L2
def G_arrows_of (M : Addr) : SF := (sRet (eLc (aAny (e1 (fldF M "_states") (eV 0))) [1] (gN 1) bYes (eIx (eV 1) (eC (.int 1)))))
def F_arrows_of (M : Addr) : DFn := runD 2 1 (G_arrows_of M)
def G_colours_of (M : Addr) : SF := (sRet (eLc (aAny (e1 (fldF M "_states") (eV 0))) [1] (gN 1) bYes (eIx (eV 1) (eC (.int 0)))))
def F_colours_of (M : Addr) : DFn := runD 2 1 (G_colours_of M)
def G_bits_ahead : SF := (sSeq (sOwn eDnew 2) (sSeq (sFor (aAny (eV 1)) (gN 3) (sDput 2 (eV 3) (eB sumF (aCons (eLc (aAny (eV 1)) [5] (gN 5) (bB (e2 inQ (eV 5) (eIx (eV 0) (eV 3)))) (e2 shlF (eC (.int 1)) (eV 5))) aNil)))) (sSeq (sFor (aAny (eV 1)) (gN 4) (sFor (aAny (eV 1)) (gN 3) (sIf (bT (e2 bandF (e2 shrF (eDgOw 2 (eV 3)) (eV 4)) (eC (.int 1)))) (sDput 2 (eV 3) (e2 borF (eDgOw 2 (eV 3)) (eDgOw 2 (eV 4)))) sNil))) (sFreeze 2 (sRet (eV 2))))))
def F_bits_ahead : DFn := runD 6 2 (G_bits_ahead)
def G_greatest_loops : SF := (sSeq (sAsg (eCall (F_bits_ahead) (aCons (eV 0) (aCons (eV 1) aNil))) (gN 2)) (sSeq (sOwn (eLst aNil) 3) (sSeq (sFor (aAny (eV 1)) (gN 4) (sSeq (sAsg (eLc (aAny (eV 1)) [6] (gN 6) (bT (e2 bandF (e2 bandF (e2 shrF (eDg (eV 2) (eV 4)) (eV 6)) (e2 shrF (eDg (eV 2) (eV 6)) (eV 4))) (eC (.int 1)))) (eV 6)) (gN 5)) (sIf (bAnd (bT (eV 5)) (bB (e2 eqF (eIx (eV 5) (eC (.int 0))) (eV 4)))) (sPush 3 (eV 5)) sNil))) (sFreeze 3 (sRet (eV 3))))))
def F_greatest_loops : DFn := runD 7 2 (G_greatest_loops)
def G_without_wrong_top : SF := (sSeq (sFor (aAny (eV 1)) (gT 2 (gsC (gN 2) (gsC (gN 3) gsN))) (sSeq (sAsg (eB maxLF (aCons (eLc (aAny (eV 0)) [5] (gN 5) bYes (eIx (eV 2) (eV 5))) aNil)) (gN 4)) (sIf (bB (e2 neF (e2 modF (eV 4) (eC (.int 2))) (eV 3))) (sRet (eLc (aAny (eV 0)) [5] (gN 5) (bB (e2 ltF (eIx (eV 2) (eV 5)) (eV 4))) (eV 5))) sNil))) (sRet (eV 0)))
def F_without_wrong_top : DFn := runD 6 2 (G_without_wrong_top)
def G_loops_as_asked : SF := (sSeq (sOwn (eLst aNil) 3) (sSeq (sOwn (eLst (aCons (eV 1) aNil)) 4) (sSeq (sWhile 100000 (bOw 4) (sSeq (sPop 4 5) (sFor (aAny (eCall (F_greatest_loops) (aCons (eV 0) (aCons (eV 5) aNil)))) (gN 6) (sSeq (sAsg (eCall (F_without_wrong_top) (aCons (eV 6) (aCons (eV 2) aNil))) (gN 7)) (sIf (bB (e2 eqF (eB lenF (aCons (eV 7) aNil)) (eB lenF (aCons (eV 6) aNil)))) (sPush 3 (eV 6)) (sPush 4 (eV 7))))))) (sFreeze 3 (sRet (eV 3))))))
def F_loops_as_asked : DFn := runD 8 3 (G_loops_as_asked)
def G_leading_to : SF := (sSeq (sAsg (eLc (aRng (aCons (eB lenF (aCons (eV 0) aNil)) aNil)) [4] (gN 4) bYes (e2 inQ (eV 4) (eV 1))) (gN 2)) (sSeq (sFor (aAny (eV 0)) (gN 3) (sAsg (eLc (aRng (aCons (eB lenF (aCons (eV 0) aNil)) aNil)) [4] (gN 4) bYes (eOr (eIx (eV 2) (eV 4)) (eB anyF (aCons (eLc (aAny (eIx (eV 0) (eV 4))) [5] (gN 5) bYes (eIx (eV 2) (eV 5))) aNil)))) (gN 2))) (sRet (eLc (aRng (aCons (eB lenF (aCons (eV 0) aNil)) aNil)) [4] (gN 4) (bB (eIx (eV 2) (eV 4))) (eV 4)))))
def F_leading_to : DFn := runD 6 2 (G_leading_to)
def G_leading_to_loops (M : Addr) : SF := (sSeq (sAsg (eCall (F_arrows_of M) (aCons (eV 0) aNil)) (gN 2)) (sSeq (sAsg (eCall (F_loops_as_asked) (aCons (eV 2) (aCons (eLstRg (eLenO M (F_Machine_len_ M) (aCons (eV 0) aNil))) (aCons (eLst (aCons (eTup (aCons (eCall (F_colours_of M) (aCons (eV 0) aNil)) (aCons (eV 1) aNil))) aNil)) aNil)))) (gN 3)) (sRet (eCall (F_leading_to) (aCons (eV 2) (aCons (eLc2 (aAny (eV 3)) [4, 5] (gN 4) (aAny (eV 4)) [5] (gN 5) (eV 5)) aNil))))))
def F_leading_to_loops (M : Addr) : DFn := runD 6 2 (G_leading_to_loops M)
def G_live (M : Addr) : SF := (sSeq (sDrop (eCall (F_check_machine M) (aCons (eV 0) aNil))) (sRet (eB tupleF (aCons (eCall (F_leading_to_loops M) (aCons (eV 0) (aCons (eC (.int 0)) aNil))) aNil))))
def F_live (M : Addr) : DFn := runD 1 1 (G_live M)
end DL

set_option maxHeartbeats 2000000
namespace DL
open PySem PySem.Spec PyProof.Rows L2
def G_sure (M : Addr) : SF := (sSeq (sDrop (eCall (F_check_machine M) (aCons (eV 0) aNil))) (sSeq (sAsg (eCall (F_leading_to_loops M) (aCons (eV 0) (aCons (eC (.int 1)) aNil))) (gN 1)) (sRet (eB tupleF (aCons (eLc (aRng (aCons (eLenO M (F_Machine_len_ M) (aCons (eV 0) aNil)) aNil)) [2] (gN 2) (bB (e2 ninQ (eV 2) (eV 1))) (eV 2)) aNil)))))
def F_sure (M : Addr) : DFn := runD 3 1 (G_sure M)
end DL

set_option maxHeartbeats 2000000
namespace DL
open PySem PySem.Spec PyProof.Rows L2
def G_dead (M : Addr) : SF := (sSeq (sAsg (eCall (F_live M) (aCons (eV 0) aNil)) (gN 1)) (sRet (eLc (aRng (aCons (eLenO M (F_Machine_len_ M) (aCons (eV 0) aNil)) aNil)) [2] (gN 2) (bB (e2 ninQ (eV 2) (eV 1))) (eV 2))))
def F_dead (M : Addr) : DFn := runD 3 1 (G_dead M)
def G_verdict_at (M : Addr) : SF := (sSeq (sIf (bB (e2 inQ (eV 1) (eCall (F_dead M) (aCons (eV 0) aNil)))) (sRet (eC (.str "bad"))) sNil) (sRet (eIf (bB (e2 inQ (eV 1) (eCall (F_sure M) (aCons (eV 0) aNil)))) (eC (.str "good")) (eC (.str "open")))))
def F_verdict_at (M : Addr) : DFn := runD 2 2 (G_verdict_at M)
def G_verdict (M : Addr) : SF := (sRet (eCall (F_verdict_at M) (aCons (eV 0) (aCons (eCall (F_state_after M) (aCons (eV 0) (aCons (eV 1) aNil))) aNil))))
def F_verdict (M : Addr) : DFn := runD 2 2 (G_verdict M)
end DL

set_option maxHeartbeats 2000000
namespace DL
open PySem PySem.Spec PyProof.Rows L2
def G_words_from : SF := (sSeq (sOwn (eDone (eV 2) (eC (.str ""))) 4) (sSeq (sOwn (eLst (aCons (eV 2) aNil)) 5) (sSeq (sAsg (eC (.int 0)) (gN 6)) (sSeq (sWhile 100000 (bB (e2 ltF (eV 6) (eLenOw 5))) (sSeq (sAsg (eIxOw 5 (eV 6)) (gN 7)) (sSeq (sAsg (eIx (eV 1) (eV 7)) (gN 8)) (sSeq (sFor (aZipX (aCons (eV 0) (aCons (eV 8) aNil))) (gT 2 (gsC (gN 9) (gsC (gN 10) gsN))) (sIf (bAnd (bB (e2 inQ (eV 10) (eV 3))) (bB (eInDOw true 4 (eV 10)))) (sSeq (sDput 4 (eV 10) (e2 addF (eDgOw 4 (eV 7)) (eV 9))) (sPush 5 (eV 10))) sNil)) (sAug 6 (eC (.int 1))))))) (sFreeze 4 (sRet (eV 4)))))))
def F_words_from : DFn := runD 11 4 (G_words_from)
def G_first_words (M : Addr) : SF := (sRet (eCall (F_words_from) (aCons (e1 (fldF M "_letters") (eV 0)) (aCons (eCall (F_arrows_of M) (aCons (eV 0) aNil)) (aCons (eC (.int 0)) (aCons (eLstRg (eLenO M (F_Machine_len_ M) (aCons (eV 0) aNil))) aNil))))))
def F_first_words (M : Addr) : DFn := runD 1 1 (G_first_words M)
def G_reached (M : Addr) : SF := (sRet (eLstD (eCall (F_first_words M) (aCons (eV 0) aNil))))
def F_reached (M : Addr) : DFn := runD 1 1 (G_reached M)
def G_is_watchable (M : Addr) : SF := (sSeq (sDrop (eCall (F_check_machine M) (aCons (eV 0) aNil))) (sSeq (sAsg (eCall (F_leading_to) (aCons (eCall (F_arrows_of M) (aCons (eV 0) aNil)) (aCons (eLst (aStar (eCall (F_dead M) (aCons (eV 0) aNil)) (aStar (eCall (F_sure M) (aCons (eV 0) aNil)) aNil))) aNil))) (gN 1)) (sRet (eB allF (aCons (eLc (aAny (eCall (F_reached M) (aCons (eV 0) aNil))) [2] (gN 2) bYes (e2 inQ (eV 2) (eV 1))) aNil)))))
def F_is_watchable (M : Addr) : DFn := runD 3 1 (G_is_watchable M)
end DL

set_option maxHeartbeats 2000000
namespace DL
open PySem PySem.Spec PyProof.Rows L2
def G_nested_loops (M : Addr) : SF := (sSeq (sAsg (eCall (F_arrows_of M) (aCons (eV 0) aNil)) (gN 3)) (sSeq (sAsg (eCall (F_colours_of M) (aCons (eV 0) aNil)) (gN 4)) (sSeq (sFor (aAny (eCall (F_loops_as_asked) (aCons (eV 3) (aCons (eCall (F_reached M) (aCons (eV 0) aNil)) (aCons (eLst (aCons (eTup (aCons (eV 4) (aCons (eV 2) aNil))) aNil)) aNil))))) (gN 5) (sFor (aAny (eCall (F_loops_as_asked) (aCons (eV 3) (aCons (eV 5) (aCons (eLst (aCons (eTup (aCons (eV 4) (aCons (eV 1) aNil))) aNil)) aNil))))) (gN 6) (sRet (eTup (aCons (eV 6) (aCons (eV 5) aNil)))))) (sRet (eC .non)))))
def F_nested_loops (M : Addr) : DFn := runD 7 3 (G_nested_loops M)
def G_does_stay (M : Addr) : SF := (sSeq (sDrop (eCall (F_check_machine M) (aCons (eV 0) aNil))) (sRet (e2 isN2 (eCall (F_nested_loops M) (aCons (eV 0) (aCons (eC (.int 1)) (aCons (eC (.int 0)) aNil)))) (eC .non))))
def F_does_stay (M : Addr) : DFn := runD 1 1 (G_does_stay M)
def G_comes_again (M : Addr) : SF := (sSeq (sDrop (eCall (F_check_machine M) (aCons (eV 0) aNil))) (sRet (e2 isN2 (eCall (F_nested_loops M) (aCons (eV 0) (aCons (eC (.int 0)) (aCons (eC (.int 1)) aNil)))) (eC .non))))
def F_comes_again (M : Addr) : DFn := runD 1 1 (G_comes_again M)
def G_top_of : SF := (sSeq (sAsg (eB maxLF (aCons (eLc (aAny (eV 1)) [3] (gN 3) bYes (eIx (eV 0) (eV 3))) aNil)) (gN 2)) (sRet (eIx (eLc (aAny (eV 1)) [3] (gN 3) (bB (e2 eqF (eIx (eV 0) (eV 3)) (eV 2))) (eV 3)) (eC (.int 0)))))
def F_top_of : DFn := runD 4 2 (G_top_of)
def G_word_round : SF := (sSeq (sAsg (eIx (eLc (aZipX (aCons (eV 0) (aCons (eIx (eV 1) (eIx (eV 3) (eC (.int 0)))) aNil))) [7, 8] (gT 2 (gsC (gN 7) (gsC (gN 8) gsN))) (bB (e2 inQ (eV 8) (eV 2))) (eTup (aCons (eV 7) (aCons (eV 8) aNil)))) (eC (.int 0))) (gT 2 (gsC (gN 4) (gsC (gN 5) gsN)))) (sSeq (sFor (aAny (eTup (aStar (eSl (eV 3) (oSome (eC (.int 1))) oNo) (aCons (eIx (eV 3) (eC (.int 0))) aNil)))) (gN 6) (sSeq (sAsg (e2 addF (eV 4) (eDg (eCall (F_words_from) (aCons (eV 0) (aCons (eV 1) (aCons (eV 5) (aCons (eV 2) aNil))))) (eV 6))) (gN 4)) (sAsg (eV 6) (gN 5)))) (sRet (eV 4))))
def F_word_round : DFn := runD 9 4 (G_word_round)
end DL

set_option maxHeartbeats 2000000
namespace DL
open PySem PySem.Spec PyProof.Rows L2
def G_is_duty (M : Addr) : SF := (sRet (eAnd (eCall (F_comes_again M) (aCons (eV 0) aNil)) (eCall (F_does_stay M) (aCons (eV 0) aNil))))
def F_is_duty (M : Addr) : DFn := runD 1 1 (G_is_duty M)
def G_has_loop (M : Addr) : SF := (sRet (e2 gtF (eB lenF (aCons (eCall (F_loops_as_asked) (aCons (eCall (F_arrows_of M) (aCons (eV 0) aNil)) (aCons (eV 1) (aCons (eLst (aCons (eTup (aCons (eCall (F_colours_of M) (aCons (eV 0) aNil)) (aCons (eV 2) aNil))) aNil)) aNil)))) aNil)) (eC (.int 0))))
def F_has_loop (M : Addr) : DFn := runD 3 3 (G_has_loop M)
def G_is_promise (M : Addr) : SF := (sSeq (sDrop (eCall (F_check_machine M) (aCons (eV 0) aNil))) (sSeq (sAsg (eCall (F_sure M) (aCons (eV 0) aNil)) (gN 1)) (sRet (eNot (eCall (F_has_loop M) (aCons (eV 0) (aCons (eLc (aAny (eCall (F_reached M) (aCons (eV 0) aNil))) [2] (gN 2) (bB (e2 ninQ (eV 2) (eV 1))) (eV 2)) (aCons (eC (.int 0)) aNil))))))))
def F_is_promise (M : Addr) : DFn := runD 3 1 (G_is_promise M)
def G_is_hope (M : Addr) : SF := (sSeq (sDrop (eCall (F_check_machine M) (aCons (eV 0) aNil))) (sSeq (sAsg (eCall (F_live M) (aCons (eV 0) aNil)) (gN 1)) (sRet (eB allF (aCons (eLc (aAny (eCall (F_reached M) (aCons (eV 0) aNil))) [2] (gN 2) bYes (e2 inQ (eV 2) (eV 1))) aNil)))))
def F_is_hope (M : Addr) : DFn := runD 3 1 (G_is_hope M)
def G_is_guard (M : Addr) : SF := (sSeq (sDrop (eCall (F_check_machine M) (aCons (eV 0) aNil))) (sSeq (sAsg (eCall (F_live M) (aCons (eV 0) aNil)) (gN 1)) (sRet (eNot (eCall (F_has_loop M) (aCons (eV 0) (aCons (eLc (aAny (eCall (F_reached M) (aCons (eV 0) aNil))) [2] (gN 2) (bB (e2 inQ (eV 2) (eV 1))) (eV 2)) (aCons (eC (.int 1)) aNil))))))))
def F_is_guard (M : Addr) : DFn := runD 3 1 (G_is_guard M)
end DL

set_option maxHeartbeats 2000000
namespace DL
open PySem PySem.Spec PyProof.Rows L2
def G_check_pair (M : Addr) : SF := (sSeq (sDrop (eCall (F_check_machine M) (aCons (eV 0) aNil))) (sSeq (sDrop (eCall (F_check_machine M) (aCons (eV 1) aNil))) (sIf (bB (e2 neF (e1 (fldF M "_letters") (eV 0)) (e1 (fldF M "_letters") (eV 1)))) (sRaise "OtherLetters" "given" (eV 1)) sNil)))
def F_check_pair (M : Addr) : DFn := runD 2 2 (G_check_pair M)
def G_pair_colours (M : Addr) : SF := (sSeq (sAsg (eLc2 (aAny (e1 (fldF M "_states") (eV 0))) [3, 4] (gN 3) (aAny (e1 (fldF M "_states") (eV 1))) [4] (gN 4) (eTup (aCons (eIx (eV 3) (eC (.int 0))) (aCons (eIx (eV 4) (eC (.int 0))) aNil)))) (gN 2)) (sRet (eTup (aCons (eLc (aAny (eV 2)) [5] (gN 5) bYes (eIx (eV 5) (eC (.int 0)))) (aCons (eLc (aAny (eV 2)) [5] (gN 5) bYes (eIx (eV 5) (eC (.int 1)))) aNil)))))
def F_pair_colours (M : Addr) : DFn := runD 6 2 (G_pair_colours M)
def G_pair_arrows (M : Addr) : SF := (sSeq (sAsg (eLenO M (F_Machine_len_ M) (aCons (eV 1) aNil)) (gN 2)) (sRet (eLc2 (aAny (e1 (fldF M "_states") (eV 0))) [3, 4] (gN 3) (aAny (e1 (fldF M "_states") (eV 1))) [4] (gN 4) (eLc (aZipA (aCons (eIx (eV 3) (eC (.int 1))) (aCons (eIx (eV 4) (eC (.int 1))) aNil))) [5, 6] (gT 2 (gsC (gN 5) (gsC (gN 6) gsN))) bYes (e2 addF (e2 mulF (eV 5) (eV 2)) (eV 6))))))
def F_pair_arrows (M : Addr) : DFn := runD 7 2 (G_pair_arrows M)
def G_lasso_from : SF := (sSeq (sAsg (eCall (F_words_from) (aCons (eV 0) (aCons (eV 1) (aCons (eV 2) (aCons (eLstRg (eB lenF (aCons (eV 1) aNil))) aNil))))) (gN 4)) (sSeq (sAsg (eCall (F_loops_as_asked) (aCons (eV 1) (aCons (eLstD (eV 4)) (aCons (eV 3) aNil)))) (gN 5)) (sSeq (sIf (bNot (bT (eV 5))) (sRet (eC .non)) sNil) (sSeq (sAsg (eIx (eV 5) (eC (.int 0))) (gN 6)) (sSeq (sAsg (eLst (aCons (eIx (eV 6) (eC (.int 0))) (aStar (eLc (aAny (eV 3)) [8] (gN 8) bYes (eCall (F_top_of) (aCons (eIx (eV 8) (eC (.int 0))) (aCons (eV 6) aNil)))) aNil))) (gN 7)) (sRet (eTup (aCons (eDg (eV 4) (eIx (eV 6) (eC (.int 0)))) (aCons (eCall (F_word_round) (aCons (eV 0) (aCons (eV 1) (aCons (eV 6) (aCons (eV 7) aNil))))) aNil)))))))))
def F_lasso_from : DFn := runD 9 4 (G_lasso_from)
def G_lasso_between (M : Addr) : SF := (sSeq (sAsg (eCall (F_pair_colours M) (aCons (eV 0) (aCons (eV 1) aNil))) (gT 2 (gsC (gN 4) (gsC (gN 5) gsN)))) (sRet (eCall (F_lasso_from) (aCons (e1 (fldF M "_letters") (eV 0)) (aCons (eCall (F_pair_arrows M) (aCons (eV 0) (aCons (eV 1) aNil))) (aCons (eC (.int 0)) (aCons (eLst (aCons (eTup (aCons (eV 4) (aCons (eV 2) aNil))) (aCons (eTup (aCons (eV 5) (aCons (eV 3) aNil))) aNil))) aNil)))))))
def F_lasso_between (M : Addr) : DFn := runD 6 4 (G_lasso_between M)
def G_breaking (M : Addr) : SF := (sSeq (sDrop (eCall (F_check_pair M) (aCons (eV 0) (aCons (eV 1) aNil)))) (sRet (eCall (F_lasso_between M) (aCons (eV 0) (aCons (eV 1) (aCons (eC (.int 0)) (aCons (eC (.int 1)) aNil)))))))
def F_breaking (M : Addr) : DFn := runD 2 2 (G_breaking M)
def G_parting (M : Addr) : SF := (sSeq (sDrop (eCall (F_check_pair M) (aCons (eV 0) (aCons (eV 1) aNil)))) (sSeq (sAsg (eCall (F_lasso_between M) (aCons (eV 0) (aCons (eV 1) (aCons (eC (.int 0)) (aCons (eC (.int 1)) aNil))))) (gN 2)) (sRet (eIf (bB (e2 isN2 (eV 2) (eC .non))) (eCall (F_lasso_between M) (aCons (eV 0) (aCons (eV 1) (aCons (eC (.int 1)) (aCons (eC (.int 0)) aNil))))) (eV 2)))))
def F_parting (M : Addr) : DFn := runD 3 2 (G_parting M)
def G_alike (M : Addr) : SF := (sRet (e2 isN2 (eCall (F_parting M) (aCons (eV 0) (aCons (eV 1) aNil))) (eC .non)))
def F_alike (M : Addr) : DFn := runD 2 2 (G_alike M)
def G_within (M : Addr) : SF := (sRet (e2 isN2 (eCall (F_breaking M) (aCons (eV 0) (aCons (eV 1) aNil))) (eC .non)))
def F_within (M : Addr) : DFn := runD 2 2 (G_within M)
end DL

set_option maxHeartbeats 2000000

set_option maxHeartbeats 2000000
namespace DL
open PySem PySem.Spec PyProof.Rows L2
def G_with_colours (M : Addr) : SF := (sRet (eMake M (Fm_Machine M) (aCons (e1 (fldF M "_letters") (eV 0)) (aCons (eB tupleF (aCons (eLc (aEnumT (aCons (e1 (fldF M "_states") (eV 0)) aNil)) [2, 3] (gT 2 (gsC (gN 2) (gsC (gN 3) gsN))) bYes (eTup (aCons (eIx (eV 1) (eV 2)) (aCons (eIx (eV 3) (eC (.int 1))) aNil)))) aNil)) aNil))))
def F_with_colours (M : Addr) : DFn := runD 4 2 (G_with_colours M)
end DL

set_option maxHeartbeats 2000000

set_option maxHeartbeats 2000000

set_option maxHeartbeats 2000000
namespace DL
open PySem PySem.Spec PyProof.Rows L2
def G_first_word_to : SF := (sSeq (sAsg (eCall (F_words_from) (aCons (eV 0) (aCons (eV 1) (aCons (eV 2) (aCons (eLstRg (eB lenF (aCons (eV 1) aNil))) aNil))))) (gN 4)) (sSeq (sAsg (eLc (aItems (eV 4)) [6, 7] (gT 2 (gsC (gN 6) (gsC (gN 7) gsN))) (bB (e2 inQ (eV 6) (eV 3))) (eV 7)) (gN 5)) (sRet (eIf (bT (eV 5)) (eIx (eV 5) (eC (.int 0))) (eC .non)))))
def F_first_word_to : DFn := runD 8 4 (G_first_word_to)
end DL

set_option maxHeartbeats 2000000
namespace DL
open PySem PySem.Spec PyProof.Rows L2
def G_least_colours (F_least_colours : DFn) : SF := (sSeq (sOwn (eDc (aAny (eV 2)) [3] (gN 3) bYes (eV 3) (eC (.int 0))) 4) (sSeq (sFor (aAny (eCall (F_greatest_loops) (aCons (eV 0) (aCons (eV 2) aNil)))) (gN 5) (sSeq (sAsg (eB maxLF (aCons (eLc (aAny (eV 5)) [3] (gN 3) bYes (eIx (eV 1) (eV 3))) aNil)) (gN 6)) (sSeq (sAsg (eCall (F_least_colours) (aCons (eV 0) (aCons (eV 1) (aCons (eLc (aAny (eV 5)) [3] (gN 3) (bB (e2 ltF (eIx (eV 1) (eV 3)) (eV 6))) (eV 3)) aNil)))) (gN 7)) (sSeq (sAsg (eB maxLF (aCons (eLst (aCons (eC (.int 0)) (aStar (eVals (eV 7)) aNil))) aNil)) (gN 8)) (sSeq (sAsg (e2 addF (eV 8) (e2 modF (e2 addF (eV 8) (eV 6)) (eC (.int 2)))) (gN 9)) (sFor (aAny (eV 5)) (gN 3) (sDput 4 (eV 3) (eGet (eV 7) (eV 3) (eV 9))))))))) (sFreeze 4 (sRet (eV 4)))))
def F_least_colours_n : Nat → DFn
  | 0 => fun _ _ => .stuck
  | n + 1 => runD 10 3 (G_least_colours (F_least_colours_n n))
def F_least_colours : DFn := F_least_colours_n 8
end DL

set_option maxHeartbeats 2000000

set_option maxHeartbeats 2000000
namespace DL
open PySem PySem.Spec PyProof.Rows L2
def G_recoloured (M : Addr) : SF := (sSeq (sDrop (eCall (F_check_machine M) (aCons (eV 0) aNil))) (sSeq (sAsg (eCall (F_least_colours) (aCons (eCall (F_arrows_of M) (aCons (eV 0) aNil)) (aCons (eCall (F_colours_of M) (aCons (eV 0) aNil)) (aCons (eCall (F_reached M) (aCons (eV 0) aNil)) aNil)))) (gN 1)) (sRet (eCall (F_with_colours M) (aCons (eV 0) (aCons (eLc (aRng (aCons (eLenO M (F_Machine_len_ M) (aCons (eV 0) aNil)) aNil)) [2] (gN 2) bYes (eGet (eV 1) (eV 2) (eC (.int 0)))) aNil))))))
def F_recoloured (M : Addr) : DFn := runD 3 1 (G_recoloured M)
def G_depth (M : Addr) : SF := (sSeq (sDrop (eCall (F_check_machine M) (aCons (eV 0) aNil))) (sRet (eB maxLF (aCons (eCall (F_colours_of M) (aCons (eCall (F_recoloured M) (aCons (eV 0) aNil)) aNil)) aNil))))
def F_depth (M : Addr) : DFn := runD 1 1 (G_depth M)
end DL

set_option maxHeartbeats 2000000

set_option maxHeartbeats 2000000
namespace DL
open PySem PySem.Spec PyProof.Rows L2
def G_stuck_pairs (M : Addr) : SF := (sSeq (sAsg (eCall (F_pair_arrows M) (aCons (eV 0) (aCons (eV 1) aNil))) (gN 2)) (sSeq (sAsg (eCall (F_pair_colours M) (aCons (eV 0) (aCons (eV 1) aNil))) (gT 2 (gsC (gN 3) (gsC (gN 4) gsN)))) (sSeq (sAsg (eCall (F_loops_as_asked) (aCons (eV 2) (aCons (eLstRg (eB lenF (aCons (eV 2) aNil))) (aCons (eLst (aCons (eTup (aCons (eV 3) (aCons (eC (.int 0)) aNil))) (aCons (eTup (aCons (eV 4) (aCons (eC (.int 0)) aNil))) aNil))) aNil)))) (gN 5)) (sSeq (sAsg (eCall (F_leading_to) (aCons (eV 2) (aCons (eLc2 (aAny (eV 5)) [8, 9] (gN 8) (aAny (eV 8)) [9] (gN 9) (eV 9)) aNil))) (gN 6)) (sSeq (sAsg (eCall (F_live M) (aCons (eV 0) aNil)) (gN 7)) (sRet (eLc (aRng (aCons (eB lenF (aCons (eV 2) aNil)) aNil)) [9] (gN 9) (bAnd (bB (e2 inQ (e2 fdivF (eV 9) (eLenO M (F_Machine_len_ M) (aCons (eV 1) aNil))) (eV 7))) (bB (e2 ninQ (eV 9) (eV 6)))) (eV 9))))))))
def F_stuck_pairs (M : Addr) : DFn := runD 10 2 (G_stuck_pairs M)
def G_jam (M : Addr) : SF := (sSeq (sDrop (eCall (F_check_pair M) (aCons (eV 0) (aCons (eV 1) aNil)))) (sRet (eCall (F_first_word_to) (aCons (e1 (fldF M "_letters") (eV 0)) (aCons (eCall (F_pair_arrows M) (aCons (eV 0) (aCons (eV 1) aNil))) (aCons (eC (.int 0)) (aCons (eCall (F_stuck_pairs M) (aCons (eV 0) (aCons (eV 1) aNil))) aNil)))))))
def F_jam (M : Addr) : DFn := runD 2 2 (G_jam M)
def G_in_step (M : Addr) : SF := (sRet (e2 isN2 (eCall (F_jam M) (aCons (eV 0) (aCons (eV 1) aNil))) (eC .non)))
def F_in_step (M : Addr) : DFn := runD 2 2 (G_in_step M)
end DL

set_option maxHeartbeats 2000000

set_option maxHeartbeats 2000000

set_option maxHeartbeats 2000000
namespace DL
open PySem PySem.Spec PyProof.Rows L2
def G_told_letters : SF := (sSeq (sAsg (eM splitF (eV 0) (aCons (eC (.str " ")) aNil)) (gN 1)) (sSeq (sIf (bOr (bB (e2 neF (eIx (eV 1) (eC (.int 0))) (eC (.str "machine")))) (bB (e2 neF (eB lenF (aCons (eV 1) aNil)) (eC (.int 2))))) (sRet (eC .non)) sNil) (sRet (eIx (eV 1) (eC (.int 1))))))
def F_told_letters : DFn := runD 2 1 (G_told_letters)
def G_told_state : SF := (sSeq (sAsg (eM splitF (eV 0) (aCons (eC (.str " ")) aNil)) (gN 1)) (sSeq (sIf (bOr (bB (e2 neF (eIx (eV 1) (eC (.int 0))) (eC (.str "state")))) (bB (e2 ltF (eB lenF (aCons (eV 1) aNil)) (eC (.int 2))))) (sRet (eC .non)) sNil) (sSeq (sIf (bNot (bB (eB allF (aCons (eLc (aAny (eSl (eV 1) (oSome (eC (.int 1))) oNo)) [3] (gN 3) bYes (eAnd (e2 eqF (eB lenF (aCons (eV 3) aNil)) (eC (.int 1))) (e2 inF (eV 3) (eC (.str "0123456789"))))) aNil)))) (sRet (eC .non)) sNil) (sSeq (sAsg (eLc (aAny (eSl (eV 1) (oSome (eC (.int 1))) oNo)) [3] (gN 3) bYes (eB intTF (aCons (eV 3) aNil))) (gN 2)) (sRet (eTup (aCons (eIx (eV 2) (eC (.int 0))) (aCons (eB tupleF (aCons (eSl (eV 2) (oSome (eC (.int 1))) oNo) aNil)) aNil))))))))
def F_told_state : DFn := runD 4 1 (G_told_state)
def G_Machine_read (M : Addr) : SF := (sSeq (sIf (bNot (bB (eB (isiF (.ty "str") (fun n => kitB n "str") (ownB M)) (aCons (eV 1) (aCons (eC (.obj (.ty "str"))) aNil))))) (sRaise "InvalidText" "given" (eV 1)) sNil) (sSeq (sAsg (eM splitF (eV 1) (aCons (eC (.str "\n")) aNil)) (gN 2)) (sSeq (sAsg (eCall (F_told_letters) (aCons (eIx (eV 2) (eC (.int 0))) aNil)) (gN 3)) (sSeq (sAsg (eB tupleF (aCons (eLc (aAny (eSl (eV 2) (oSome (eC (.int 1))) oNo)) [5] (gN 5) bYes (eCall (F_told_state) (aCons (eV 5) aNil))) aNil)) (gN 4)) (sSeq (sIf (bOr (bNot (bB (eCall (F_is_letters M) (aCons (eV 3) aNil)))) (bOr (bB (e2 eqF (eB lenF (aCons (eV 4) aNil)) (eC (.int 0)))) (bB (e2 geF (eCall (F_first_wrong_state M) (aCons (eV 3) (aCons (eV 4) aNil))) (eC (.int 0)))))) (sRaise "InvalidText" "given" (eV 1)) sNil) (sRet (eMakeL 0 M (Fm_Machine M) (aCons (eV 3) (aCons (eV 4) aNil)))))))))
def F_Machine_read (M : Addr) : DFn := runD 6 2 (G_Machine_read M)
end DL

set_option maxHeartbeats 2000000

set_option maxHeartbeats 2000000

set_option maxHeartbeats 2000000

set_option maxHeartbeats 2000000
namespace DL
open PySem PySem.Spec PyProof.Rows L2
def G_machine_told (M : Addr) : SF := (sTryX [("InvalidText", true)] (sRet (eCM M (F_Machine_read M) (eC (.obj (.ref M))) (aCons (eV 0) aNil))) (sRet (eC .non)))
def F_machine_told (M : Addr) : DFn := runD 1 1 (G_machine_told M)
def G_is_demand_form (M : Addr) : SF := (sSeq (sIf (bOr (bNot (bB (eB (isiF (.ty "tuple") (fun n => kitB n "tuple") (ownB M)) (aCons (eV 1) (aCons (eC (.obj (.ty "tuple"))) aNil))))) (bOr (bNot (bB (e3 leF leF (eC (.int 1)) (eB lenF (aCons (eV 1) aNil)) (eC (.int 2))))) (bNot (bB (eB (isiF (.ty "str") (fun n => kitB n "str") (ownB M)) (aCons (eIx (eV 1) (eC (.int 0))) (aCons (eC (.obj (.ty "str"))) aNil))))))) (sRet (eC (.bl false))) sNil) (sSeq (sIf (bB (e2 eqF (eB lenF (aCons (eV 1) aNil)) (eC (.int 1)))) (sRet (e1 (inKF ["guard", "hope", "promise", "duty", "again", "stays", "watchable"]) (eIx (eV 1) (eC (.int 0))))) sNil) (sSeq (sAsg (eV 1) (gT 2 (gsC (gN 2) (gsC (gN 3) gsN)))) (sSeq (sIf (bB (e2 eqF (eV 2) (eC (.str "depth")))) (sRet (eCall (F_is_number M) (aCons (eV 3) (aCons (eC (.int 6)) aNil)))) sNil) (sSeq (sIf (bB (e2 inQ (eV 2) (eTup (aCons (eC (.str "in")) (aCons (eC (.str "out")) aNil))))) (sRet (eCall (F_is_lasso M) (aCons (eV 0) (aCons (eV 3) aNil)))) sNil) (sSeq (sIf (bB (e2 inQ (eV 2) (eTup (aCons (eC (.str "bad")) (aCons (eC (.str "good")) aNil))))) (sRet (eCall (F_is_word M) (aCons (eV 0) (aCons (eV 3) aNil)))) sNil) (sRet (eAnd (e2 eqF (eV 2) (eC (.str "like"))) (e2 notN2 (eCall (F_machine_told M) (aCons (eV 3) aNil)) (eC .non))))))))))
def F_is_demand_form (M : Addr) : DFn := runD 4 2 (G_is_demand_form M)
def G_is_demand (M : Addr) : SF := (sSeq (sIf (bNot (bB (eCall (F_is_demand_form M) (aCons (e1 (fldF M "_letters") (eV 0)) (aCons (eV 1) aNil))))) (sRet (eC (.bl false))) sNil) (sRet (eOr (e2 neF (eIx (eV 1) (eC (.int 0))) (eC (.str "like"))) (e2 eqF (e1 (fldF M "_letters") (eCall (F_machine_told M) (aCons (eIx (eV 1) (eC (.int 1))) aNil))) (e1 (fldF M "_letters") (eV 0))))))
def F_is_demand (M : Addr) : DFn := runD 2 2 (G_is_demand M)
def G_is_kind (M : Addr) : SF := (sSeq (sIf (bB (e2 eqF (eV 1) (eC (.str "guard")))) (sRet (eCall (F_is_guard M) (aCons (eV 0) aNil))) sNil) (sSeq (sIf (bB (e2 eqF (eV 1) (eC (.str "hope")))) (sRet (eCall (F_is_hope M) (aCons (eV 0) aNil))) sNil) (sSeq (sIf (bB (e2 eqF (eV 1) (eC (.str "promise")))) (sRet (eCall (F_is_promise M) (aCons (eV 0) aNil))) sNil) (sSeq (sIf (bB (e2 eqF (eV 1) (eC (.str "duty")))) (sRet (eCall (F_is_duty M) (aCons (eV 0) aNil))) sNil) (sSeq (sIf (bB (e2 eqF (eV 1) (eC (.str "again")))) (sRet (eCall (F_comes_again M) (aCons (eV 0) aNil))) sNil) (sSeq (sIf (bB (e2 eqF (eV 1) (eC (.str "stays")))) (sRet (eCall (F_does_stay M) (aCons (eV 0) aNil))) sNil) (sRet (eCall (F_is_watchable M) (aCons (eV 0) aNil)))))))))
def F_is_kind (M : Addr) : DFn := runD 2 2 (G_is_kind M)
def G_holds (M : Addr) : SF := (sSeq (sDrop (eCall (F_check_machine M) (aCons (eV 0) aNil))) (sSeq (sIf (bNot (bB (eCall (F_is_demand M) (aCons (eV 0) (aCons (eV 1) aNil))))) (sRaise "InvalidDemand" "given" (eV 1)) sNil) (sSeq (sIf (bB (e2 eqF (eB lenF (aCons (eV 1) aNil)) (eC (.int 1)))) (sRet (eCall (F_is_kind M) (aCons (eV 0) (aCons (eIx (eV 1) (eC (.int 0))) aNil)))) sNil) (sSeq (sAsg (eV 1) (gT 2 (gsC (gN 2) (gsC (gN 3) gsN)))) (sSeq (sIf (bB (e2 eqF (eV 2) (eC (.str "depth")))) (sRet (e2 leF (eCall (F_depth M) (aCons (eV 0) aNil)) (eV 3))) sNil) (sSeq (sIf (bB (e2 inQ (eV 2) (eTup (aCons (eC (.str "bad")) (aCons (eC (.str "good")) aNil))))) (sRet (e2 eqF (eCall (F_verdict M) (aCons (eV 0) (aCons (eV 3) aNil))) (eV 2))) sNil) (sSeq (sIf (bB (e2 eqF (eV 2) (eC (.str "like")))) (sRet (eCall (F_alike M) (aCons (eV 0) (aCons (eCall (F_machine_told M) (aCons (eV 3) aNil)) aNil)))) sNil) (sRet (e2 eqF (eCall (F_lies_in M) (aCons (eV 0) (aCons (eV 3) aNil))) (e2 eqF (eV 2) (eC (.str "in"))))))))))))
def F_holds (M : Addr) : DFn := runD 4 2 (G_holds M)
end DL

set_option maxHeartbeats 2000000

set_option maxHeartbeats 2000000

set_option maxHeartbeats 2000000
namespace DL
open PySem PySem.Spec PyProof.Rows L2
def G_shows_turning (M : Addr) : SF := (sSeq (sIf (bOr (bNot (bB (eB (isiF (.ty "tuple") (fun n => kitB n "tuple") (ownB M)) (aCons (eV 1) (aCons (eC (.obj (.ty "tuple"))) aNil))))) (bB (e2 neF (eB lenF (aCons (eV 1) aNil)) (eC (.int 3))))) (sRet (eC (.bl false))) sNil) (sSeq (sIf (bNot (bB (eB allF (aCons (eLc (aAny (eV 1)) [9] (gN 9) bYes (eCall (F_is_spelled M) (aCons (e1 (fldF M "_letters") (eV 0)) (aCons (eV 9) aNil)))) aNil)))) (sRet (eC (.bl false))) sNil) (sSeq (sAsg (eV 1) (gT 3 (gsC (gN 3) (gsC (gN 4) (gsC (gN 5) gsN))))) (sSeq (sAsg (eCall (F_state_behind M) (aCons (eV 0) (aCons (eC (.int 0)) (aCons (eV 3) aNil)))) (gN 6)) (sSeq (sIf (bOr (bB (e2 eqF (eB lenF (aCons (eV 4) aNil)) (eC (.int 0)))) (bB (e2 neF (eCall (F_state_behind M) (aCons (eV 0) (aCons (eV 6) (aCons (eV 4) aNil)))) (eV 6)))) (sRet (eC (.bl false))) sNil) (sSeq (sIf (bOr (bB (e2 eqF (eB lenF (aCons (eV 5) aNil)) (eC (.int 0)))) (bB (e2 neF (eCall (F_state_behind M) (aCons (eV 0) (aCons (eV 6) (aCons (eV 5) aNil)))) (eV 6)))) (sRet (eC (.bl false))) sNil) (sSeq (sAsg (eB maxLF (aCons (eLc (aAny (eCall (F_states_along M) (aCons (eV 0) (aCons (eV 6) (aCons (eV 4) aNil))))) [10] (gN 10) bYes (eIx (eIx (e1 (fldF M "_states") (eV 0)) (eV 10)) (eC (.int 0)))) aNil)) (gN 7)) (sSeq (sAsg (eB maxLF (aCons (eLc (aAny (eCall (F_states_along M) (aCons (eV 0) (aCons (eV 6) (aCons (eV 5) aNil))))) [10] (gN 10) bYes (eIx (eIx (e1 (fldF M "_states") (eV 0)) (eV 10)) (eC (.int 0)))) aNil)) (gN 8)) (sRet (eAnd (e2 ltF (eV 7) (eV 8)) (eAnd (e2 eqF (e2 modF (eV 7) (eC (.int 2))) (eV 2)) (e2 neF (e2 modF (eV 8) (eC (.int 2))) (eV 2)))))))))))))
def F_shows_turning (M : Addr) : DFn := runD 11 3 (G_shows_turning M)
def G_accepts_one (M : Addr) : SF := (sSeq (sIf (bB (e2 eqF (eV 0) (eC (.str "notagain")))) (sRet (eCall (F_shows_turning M) (aCons (eV 1) (aCons (eV 2) (aCons (eC (.int 0)) aNil))))) sNil) (sRet (eAnd (e2 eqF (eV 0) (eC (.str "notstays"))) (eCall (F_shows_turning M) (aCons (eV 1) (aCons (eV 2) (aCons (eC (.int 1)) aNil)))))))
def F_accepts_one (M : Addr) : DFn := runD 3 3 (G_accepts_one M)
def G_is_empty (M : Addr) : SF := (sRet (eAnd (eB (isiF (.ty "tuple") (fun n => kitB n "tuple") (ownB M)) (aCons (eV 0) (aCons (eC (.obj (.ty "tuple"))) aNil))) (e2 eqF (eB lenF (aCons (eV 0) aNil)) (eC (.int 0)))))
def F_is_empty (M : Addr) : DFn := runD 1 1 (G_is_empty M)
def G_accepts_demand (M : Addr) : SF := (sSeq (sIf (bOr (bNot (bB (eCall (F_is_empty M) (aCons (eV 3) aNil)))) (bNot (bB (eCall (F_is_demand M) (aCons (eV 1) (aCons (eV 2) aNil)))))) (sRet (eC (.bl false))) sNil) (sRet (e2 eqF (eCall (F_holds M) (aCons (eV 1) (aCons (eV 2) aNil))) (e2 eqF (eV 0) (eC (.str "holds"))))))
def F_accepts_demand (M : Addr) : DFn := runD 4 4 (G_accepts_demand M)
def G_shows_open (M : Addr) : SF := (sSeq (sIf (bOr (bNot (bB (eCall (F_is_word M) (aCons (e1 (fldF M "_letters") (eV 0)) (aCons (eV 1) aNil))))) (bOr (bNot (bB (eB (isiF (.ty "tuple") (fun n => kitB n "tuple") (ownB M)) (aCons (eV 2) (aCons (eC (.obj (.ty "tuple"))) aNil))))) (bB (e2 neF (eB lenF (aCons (eV 2) aNil)) (eC (.int 2)))))) (sRet (eC (.bl false))) sNil) (sSeq (sIf (bNot (bB (eB allF (aCons (eLc (aAny (eV 2)) [3] (gN 3) bYes (eAnd (eCall (F_is_endless M) (aCons (e1 (fldF M "_letters") (eV 0)) (aCons (eV 3) aNil))) (eM startF (eIx (eV 3) (eC (.int 0))) (aCons (eV 1) aNil)))) aNil)))) (sRet (eC (.bl false))) sNil) (sRet (eAnd (eCall (F_takes M) (aCons (eV 0) (aCons (eIx (eV 2) (eC (.int 0))) aNil))) (eNot (eCall (F_takes M) (aCons (eV 0) (aCons (eIx (eV 2) (eC (.int 1))) aNil))))))))
def F_shows_open (M : Addr) : DFn := runD 4 3 (G_shows_open M)
def G_is_jam (M : Addr) : SF := (sSeq (sAsg (e2 addF (e2 mulF (eCall (F_state_behind M) (aCons (eV 0) (aCons (eC (.int 0)) (aCons (eV 2) aNil)))) (eLenO M (F_Machine_len_ M) (aCons (eV 1) aNil))) (eCall (F_state_behind M) (aCons (eV 1) (aCons (eC (.int 0)) (aCons (eV 2) aNil))))) (gN 3)) (sRet (e2 inQ (eV 3) (eCall (F_stuck_pairs M) (aCons (eV 0) (aCons (eV 1) aNil))))))
def F_is_jam (M : Addr) : DFn := runD 4 3 (G_is_jam M)
def G_accepts_pair (M : Addr) : SF := (sSeq (sIf (bB (e2 eqF (eV 0) (eC (.str "same")))) (sRet (eAnd (eCall (F_is_empty M) (aCons (eV 3) aNil)) (eCall (F_alike M) (aCons (eV 1) (aCons (eV 2) aNil))))) sNil) (sSeq (sIf (bB (e2 eqF (eV 0) (eC (.str "inside")))) (sRet (eAnd (eCall (F_is_empty M) (aCons (eV 3) aNil)) (eCall (F_within M) (aCons (eV 1) (aCons (eV 2) aNil))))) sNil) (sSeq (sIf (bB (e2 eqF (eV 0) (eC (.str "step")))) (sRet (eAnd (eCall (F_is_empty M) (aCons (eV 3) aNil)) (eCall (F_in_step M) (aCons (eV 1) (aCons (eV 2) aNil))))) sNil) (sSeq (sIf (bB (e2 eqF (eV 0) (eC (.str "jams")))) (sRet (eAnd (eCall (F_is_spelled M) (aCons (e1 (fldF M "_letters") (eV 1)) (aCons (eV 3) aNil))) (eCall (F_is_jam M) (aCons (eV 1) (aCons (eV 2) (aCons (eV 3) aNil)))))) sNil) (sSeq (sIf (bNot (bB (eCall (F_is_endless M) (aCons (e1 (fldF M "_letters") (eV 1)) (aCons (eV 3) aNil))))) (sRet (eC (.bl false))) sNil) (sSeq (sIf (bB (e2 eqF (eV 0) (eC (.str "parted")))) (sRet (e2 neF (eCall (F_takes M) (aCons (eV 1) (aCons (eV 3) aNil))) (eCall (F_takes M) (aCons (eV 2) (aCons (eV 3) aNil))))) sNil) (sRet (eAnd (e2 eqF (eV 0) (eC (.str "breaks"))) (eAnd (eCall (F_takes M) (aCons (eV 1) (aCons (eV 3) aNil))) (eNot (eCall (F_takes M) (aCons (eV 2) (aCons (eV 3) aNil)))))))))))))
def F_accepts_pair (M : Addr) : DFn := runD 4 4 (G_accepts_pair M)
def G_accepts (M : Addr) : SF := (sSeq (sIf (bOr (bNot (bB (eB (isiF (.ty "tuple") (fun n => kitB n "tuple") (ownB M)) (aCons (eV 0) (aCons (eC (.obj (.ty "tuple"))) aNil))))) (bOr (bNot (bB (e3 leF leF (eC (.int 2)) (eB lenF (aCons (eV 0) aNil)) (eC (.int 3))))) (bNot (bB (eB (isiF (.ty "str") (fun n => kitB n "str") (ownB M)) (aCons (eIx (eV 0) (eC (.int 0))) (aCons (eC (.obj (.ty "str"))) aNil))))))) (sRet (eC (.bl false))) sNil) (sSeq (sAsg (eIx (eV 0) (eC (.int 0))) (gN 2)) (sSeq (sAsg (eCall (F_machine_told M) (aCons (eIx (eV 0) (eC (.int 1))) aNil)) (gN 3)) (sSeq (sIf (bB (e2 isN2 (eV 3) (eC .non))) (sRet (eC (.bl false))) sNil) (sSeq (sIf (bB (e2 eqF (eB lenF (aCons (eV 0) aNil)) (eC (.int 2)))) (sRet (eCall (F_accepts_one M) (aCons (eV 2) (aCons (eV 3) (aCons (eV 1) aNil))))) sNil) (sSeq (sIf (bB (e2 inQ (eV 2) (eTup (aCons (eC (.str "holds")) (aCons (eC (.str "fails")) aNil))))) (sRet (eCall (F_accepts_demand M) (aCons (eV 2) (aCons (eV 3) (aCons (eIx (eV 0) (eC (.int 2))) (aCons (eV 1) aNil)))))) sNil) (sSeq (sIf (bB (e2 eqF (eV 2) (eC (.str "open")))) (sRet (eCall (F_shows_open M) (aCons (eV 3) (aCons (eIx (eV 0) (eC (.int 2))) (aCons (eV 1) aNil))))) sNil) (sSeq (sAsg (eCall (F_machine_told M) (aCons (eIx (eV 0) (eC (.int 2))) aNil)) (gN 4)) (sSeq (sIf (bOr (bB (e2 isN2 (eV 4) (eC .non))) (bB (e2 neF (e1 (fldF M "_letters") (eV 4)) (e1 (fldF M "_letters") (eV 3))))) (sRet (eC (.bl false))) sNil) (sRet (eCall (F_accepts_pair M) (aCons (eV 2) (aCons (eV 3) (aCons (eV 4) (aCons (eV 1) aNil)))))))))))))))
def F_accepts (M : Addr) : DFn := runD 5 2 (G_accepts M)
end DL

set_option maxHeartbeats 2000000

set_option maxHeartbeats 2000000

set_option maxHeartbeats 2000000

set_option maxHeartbeats 1000000

set_option maxHeartbeats 2000000

set_option maxHeartbeats 2000000
namespace DL
open PySem PySem.Spec PyProof.Rows L2
def top (i : Nat) : Stmt := PySem.Challenge.pw_guardhopes_k56_values_that_are_none.main.body.getD i (.Pass ⟨0, 0, 0, 0⟩)
def Getter (K : PySem.W.Frag) (M : Addr) (pr fl : Str) : Prop := ∃ p g fd, PropOf K M pr p g ∧ (∀ P w mg base, FnOk P w K mg base CX0 1 g fd ["self"] (getSp M fl)) ∧ Binds K fd ["self"] []
structure Facts (K : PySem.W.Frag) (mg : Str → Option Value) (M : Addr) : Prop where
  m_abs : mg "abs" = none
  m_all : mg "all" = none
  m_any : mg "any" = none
  m_bool : mg "bool" = none
  m_divmod : mg "divmod" = none
  m_enumerate : mg "enumerate" = none
  m_int : mg "int" = none
  m_isinstance : mg "isinstance" = none
  m_len : mg "len" = none
  m_list : mg "list" = none
  m_max : mg "max" = none
  m_min : mg "min" = none
  m_range : mg "range" = none
  m_repr : mg "repr" = none
  m_str : mg "str" = none
  m_sum : mg "sum" = none
  m_tuple : mg "tuple" = none
  m_zip : mg "zip" = none
  m_EVEN : ∃ t, mg "EVEN" = some (.int 0 t)
  m_MOST_COLOUR : ∃ t, mg "MOST_COLOUR" = some (.int 6 t)
  m_MOST_LETTERS : ∃ t, mg "MOST_LETTERS" = some (.int 3 t)
  m_MOST_STATES : ∃ t, mg "MOST_STATES" = some (.int 6 t)
  m_MOST_WORD : ∃ t, mg "MOST_WORD" = some (.int 200 t)
  m_ODD : ∃ t, mg "ODD" = some (.int 1 t)
  m_ALPHABET : ∃ t, mg "ALPHABET" = some (.str "abcdefghijklmnopqrstuvwxyz" t)
  m_BAD : ∃ t, mg "BAD" = some (.str "bad" t)
  m_BREAKS : ∃ t, mg "BREAKS" = some (.str "breaks" t)
  m_DEPTH : ∃ t, mg "DEPTH" = some (.str "depth" t)
  m_DIGITS : ∃ t, mg "DIGITS" = some (.str "0123456789" t)
  m_FAILS : ∃ t, mg "FAILS" = some (.str "fails" t)
  m_GOOD : ∃ t, mg "GOOD" = some (.str "good" t)
  m_HOLDS : ∃ t, mg "HOLDS" = some (.str "holds" t)
  m_IN : ∃ t, mg "IN" = some (.str "in" t)
  m_INSIDE : ∃ t, mg "INSIDE" = some (.str "inside" t)
  m_JAMS : ∃ t, mg "JAMS" = some (.str "jams" t)
  m_LIKE : ∃ t, mg "LIKE" = some (.str "like" t)
  m_NOT_AGAIN : ∃ t, mg "NOT_AGAIN" = some (.str "notagain" t)
  m_NOT_STAYS : ∃ t, mg "NOT_STAYS" = some (.str "notstays" t)
  m_OPEN : ∃ t, mg "OPEN" = some (.str "open" t)
  m_OUT : ∃ t, mg "OUT" = some (.str "out" t)
  m_PARTED : ∃ t, mg "PARTED" = some (.str "parted" t)
  m_SAME : ∃ t, mg "SAME" = some (.str "same" t)
  m_STEP : ∃ t, mg "STEP" = some (.str "step" t)
  m_KINDS : ∃ ad, mg "KINDS" = some (.ref ad) ∧ KTup K ad ["guard", "hope", "promise", "duty", "again", "stays", "watchable"]
  m_Machine : mg "Machine" = some (.ref M)
  cM : Cls K M
  iM : ClsI K M
  n_letters : NoAttr K M "_letters"
  n_states : NoAttr K M "_states"
  g_letters : Getter K M "letters" "_letters"
  g_states : Getter K M "states" "_states"
  k_str : PySem.W.kitOne K (.ref M) (.type "str") = some false
  k_int : PySem.W.kitOne K (.ref M) (.type "int") = some false
  k_bool : PySem.W.kitOne K (.ref M) (.type "bool") = some false
  k_tuple : PySem.W.kitOne K (.ref M) (.type "tuple") = some false
  k_M : PySem.W.kitOne K (.ref M) (.ref M) = some true
  k_b : ∀ n, kitM n = some false → PySem.W.kitOne K (.type n) (.ref M) = some false
theorem Facts.own {K : PySem.W.Frag} {mg : Str → Option Value} {M : Addr} (T : Facts K mg M) {u : Value} (h : PySem.W.kitOne K (.ref M) u = some false) {A : Addr} {b : Bool} (e : ownB M A = some b) : ClsI K A ∧ PySem.W.kitOne K (.ref A) u = some b := by
  unfold ownB at e
  split at e
  · rename_i hA; subst hA; cases e; exact ⟨T.iM, h⟩
  · cases e
theorem Facts.ownM {K : PySem.W.Frag} {mg : Str → Option Value} {M : Addr} (T : Facts K mg M) {A : Addr} {b : Bool} (e : DL.ownM M A = some b) : ClsI K A ∧ PySem.W.kitOne K (.ref A) (.ref M) = some b := by
  unfold DL.ownM at e
  split at e
  · rename_i hA; subst hA; cases e; exact ⟨T.iM, T.k_M⟩
  · cases e
theorem Facts.kitM {K : PySem.W.Frag} {mg : Str → Option Value} {M : Addr} (T : Facts K mg M) {n : String} {b : Bool} (e : DL.kitM n = some b) : PySem.W.kitOne K (.type n) (.ref M) = some b := by
  have : b = false := by
    unfold DL.kitM at e
    split at e
    · cases e; rfl
    · cases e
  subst this
  exact T.k_b n e
section
variable {P : Program} {w : World} {K : PySem.W.Frag} {mg : Str → Option Value} {base : Heap} {M fa : Addr} {fd : FuncData}
abbrev s__law_cell : Stmt := (top 122)
abbrev s_is_letters : Stmt := (top 19)
abbrev s_is_number : Stmt := (top 18)
abbrev s_is_state : Stmt := (top 20)
abbrev s_first_wrong_state : Stmt := (top 21)
abbrev s_Machine_init : Stmt := (inClass (top 25) 0)
abbrev s__law_bank : Stmt := (top 125)
abbrev s_told_letters : Stmt := (top 24)
abbrev s_told_state : Stmt := (top 23)
abbrev s_Machine_read : Stmt := (inClass (top 25) 1)
abbrev s_machine_told : Stmt := (top 93)
abbrev s_is_spelled : Stmt := (top 28)
abbrev s_states_along : Stmt := (top 32)
abbrev s_state_behind : Stmt := (top 33)
abbrev s_shows_turning : Stmt := (top 115)
abbrev s_accepts_one : Stmt := (top 117)
abbrev s_is_empty : Stmt := (top 114)
abbrev s_is_endless : Stmt := (top 30)
abbrev s_is_lasso : Stmt := (top 31)
abbrev s_is_word : Stmt := (top 29)
abbrev s_is_demand_form : Stmt := (top 95)
abbrev s_is_demand : Stmt := (top 96)
abbrev s_check_machine : Stmt := (top 26)
abbrev s_Machine_len_ : Stmt := (inClass (top 25) 4)
abbrev s_arrows_of : Stmt := (top 43)
abbrev s_colours_of : Stmt := (top 44)
abbrev s_bits_ahead : Stmt := (top 50)
abbrev s_greatest_loops : Stmt := (top 51)
abbrev s_without_wrong_top : Stmt := (top 52)
abbrev s_loops_as_asked : Stmt := (top 53)
abbrev s_leading_to : Stmt := (top 49)
abbrev s_leading_to_loops : Stmt := (top 54)
abbrev s_live : Stmt := (top 55)
abbrev s_words_from : Stmt := (top 45)
abbrev s_first_words : Stmt := (top 46)
abbrev s_reached : Stmt := (top 48)
abbrev s_has_loop : Stmt := (top 78)
abbrev s_is_guard : Stmt := (top 80)
abbrev s_is_hope : Stmt := (top 81)
abbrev s_sure : Stmt := (top 56)
abbrev s_is_promise : Stmt := (top 82)
abbrev s_nested_loops : Stmt := (top 79)
abbrev s_comes_again : Stmt := (top 83)
abbrev s_does_stay : Stmt := (top 84)
abbrev s_is_duty : Stmt := (top 85)
abbrev s_dead : Stmt := (top 57)
abbrev s_is_watchable : Stmt := (top 60)
abbrev s_is_kind : Stmt := (top 94)
abbrev s_least_colours : Stmt := (top 75)
abbrev s_with_colours : Stmt := (top 74)
abbrev s_recoloured : Stmt := (top 76)
abbrev s_depth : Stmt := (top 86)
abbrev s_state_after : Stmt := (top 35)
abbrev s_verdict_at : Stmt := (top 58)
abbrev s_verdict : Stmt := (top 59)
abbrev s_check_pair : Stmt := (top 62)
abbrev s_pair_colours : Stmt := (top 64)
abbrev s_pair_arrows : Stmt := (top 63)
abbrev s_top_of : Stmt := (top 65)
abbrev s_word_round : Stmt := (top 66)
abbrev s_lasso_from : Stmt := (top 67)
abbrev s_lasso_between : Stmt := (top 68)
abbrev s_parting : Stmt := (top 71)
abbrev s_alike : Stmt := (top 72)
abbrev s_takes : Stmt := (top 34)
abbrev s_lies_in : Stmt := (top 36)
abbrev s_holds : Stmt := (top 97)
abbrev s_accepts_demand : Stmt := (top 118)
abbrev s_shows_open : Stmt := (top 116)
abbrev s_breaking : Stmt := (top 69)
abbrev s_within : Stmt := (top 70)
abbrev s_stuck_pairs : Stmt := (top 99)
abbrev s_first_word_to : Stmt := (top 47)
abbrev s_jam : Stmt := (top 101)
abbrev s_in_step : Stmt := (top 102)
abbrev s_is_jam : Stmt := (top 100)
abbrev s_accepts_pair : Stmt := (top 119)
abbrev s_accepts : Stmt := (top 120)
abbrev s__law_dip : Stmt := (top 124)
abbrev s__law_bent : Stmt := (top 126)
abbrev s__law_right : Stmt := (top 127)
abbrev s__law_well : Stmt := (top 123)
abbrev s_law : Stmt := (top 128)
end
end DL

set_option maxHeartbeats 1000000
namespace DL
open PySem PySem.Spec PyProof.Rows L2
def obL (as : List Addr) (fn : List QD) (ex : PySem.W.Frag → Bool) (g : Addr → Option Obj) : QA := obK fn ex (He.frG g as)
def hookL (as : List Addr) (fn : List QD) (ex : PySem.W.Frag → Bool) : PySem.W.Hook where
  α := QA
  obs := fun s => obL as fn ex s.heap.get?
  val := fun _ => vaK fn
  says := fun _ h => ∃ K : PySem.W.Frag, K.In h ∧ obK fn ex K = vaK fn
  of := fun _ _ e => ⟨_, He.frG_in, e⟩
  keeps := fun _ _ _ ⟨K, h, c⟩ k => ⟨K, PySem.W.Frag.In.keeps h k, c⟩
end DL

set_option maxHeartbeats 0
namespace DL
open PySem PySem.Spec PyProof.Rows L2
def getA (K : PySem.W.Frag) (A : Addr) (f : Str) : Addr := match PySem.W.recIn K (He.ma K A f) "property" with
  | some (.ref g :: _) => g
  | _ => 0
def isGet (K : PySem.W.Frag) (A : Addr) (f : Str) : Bool := He.eqO (PySem.W.findIn K (.ref A) f) (some (some (.ref (He.ma K A f)))) && (He.eqO (PySem.W.specialIn K (.ref (He.ma K A f)) "__get__") (some (some (.builtin "property.__get__"))) && (decide (PySem.W.takesIn K (.ref (He.ma K A f)) = some true) && (match PySem.W.recIn K (He.ma K A f) "property" with
  | some (.ref _ :: _) => true
  | _ => false)))
def isI (K : PySem.W.Frag) (A : Addr) : Bool := He.eqO (PySem.W.findIn K (.ref A) "__class__") (some (some (.builtin "object.__class__"))) && (He.eqO (PySem.W.specialIn K (.builtin "object.__class__") "__get__") (some (some (.builtin "getset_descriptor.__get__"))) && (decide (PySem.W.takesIn K (.builtin "object.__class__") = some true) && decide (PySem.W.mroIn K A (.type "object") = some true)))
def kinds : List String := ["NoneType", "bool", "int", "str", "tuple", "list"]
def isK (K : PySem.W.Frag) (A : Addr) : Bool := (["str", "int", "bool", "tuple"].all fun n => decide (PySem.W.kitOne K (.ref A) (.type n) = some false)) && (decide (PySem.W.kitOne K (.ref A) (.ref A) = some true) && kinds.all fun n => decide (PySem.W.kitOne K (.type n) (.ref A) = some false))
def cmG (K : PySem.W.Frag) (A : Addr) (m : Str) : Addr := match PySem.W.recIn K (He.ma K A m) "classmethod" with
  | some (.ref g :: _) => g
  | _ => 0
def isCM (K : PySem.W.Frag) (A : Addr) (m : Str) : Bool := PySem.W.readsIn K A (.type "type") && (He.eqO (PySem.W.specialIn K (.ref A) "__getattribute__") (some (some (.builtin "type.__getattribute__"))) && ((match PySem.W.findCls K (.ref A) (.type "type") m with
  | some (.get a b c d) => decide (a = .builtin "classmethod.__get__" ∧ b = .ref (He.ma K A m) ∧ c = .none ∧ d = .ref A)
  | _ => false) && ((match PySem.W.recIn K (He.ma K A m) "classmethod" with
  | some (.ref _ :: _) => true
  | _ => false) && PySem.W.fnIn K (cmG K A m))))
def exL : List He.Fa := [.free "abs", .free "all", .free "any", .free "bool", .free "divmod", .free "enumerate", .free "int", .free "isinstance", .free "len", .free "list", .free "max", .free "min", .free "range", .free "repr", .free "str", .free "sum", .free "tuple", .free "zip", .int "EVEN" 0, .int "MOST_COLOUR" 6, .int "MOST_LETTERS" 3, .int "MOST_STATES" 6, .int "MOST_WORD" 200, .int "ODD" 1, .str "ALPHABET" "abcdefghijklmnopqrstuvwxyz", .str "BAD" "bad", .str "BREAKS" "breaks", .str "DEPTH" "depth", .str "DIGITS" "0123456789", .str "FAILS" "fails", .str "GOOD" "good", .str "HOLDS" "holds", .str "IN" "in", .str "INSIDE" "inside", .str "JAMS" "jams", .str "LIKE" "like", .str "NOT_AGAIN" "notagain", .str "NOT_STAYS" "notstays", .str "OPEN" "open", .str "OUT" "out", .str "PARTED" "parted", .str "SAME" "same", .str "STEP" "step", .glo "Machine", .glo "KINDS", .glo "InvalidLetters", .glo "InvalidStates", .glo "InvalidText", .glo "NotAMachine", .glo "InvalidWord", .glo "OtherLetters", .glo "InvalidLasso", .glo "InvalidDemand", .glo "_law_cell", .glo "is_letters", .glo "is_number", .glo "is_state", .glo "first_wrong_state", .glo "_law_bank", .glo "told_letters", .glo "told_state", .glo "machine_told", .glo "is_spelled", .glo "states_along", .glo "state_behind", .glo "shows_turning", .glo "accepts_one", .glo "is_empty", .glo "is_endless", .glo "is_lasso", .glo "is_word", .glo "is_demand_form", .glo "is_demand", .glo "check_machine", .glo "arrows_of", .glo "colours_of", .glo "bits_ahead", .glo "greatest_loops", .glo "without_wrong_top", .glo "loops_as_asked", .glo "leading_to", .glo "leading_to_loops", .glo "live", .glo "words_from", .glo "first_words", .glo "reached", .glo "has_loop", .glo "is_guard", .glo "is_hope", .glo "sure", .glo "is_promise", .glo "nested_loops", .glo "comes_again", .glo "does_stay", .glo "is_duty", .glo "dead", .glo "is_watchable", .glo "is_kind", .glo "least_colours", .glo "with_colours", .glo "recoloured", .glo "depth", .glo "state_after", .glo "verdict_at", .glo "verdict", .glo "check_pair", .glo "pair_colours", .glo "pair_arrows", .glo "top_of", .glo "word_round", .glo "lasso_from", .glo "lasso_between", .glo "parting", .glo "alike", .glo "takes", .glo "lies_in", .glo "holds", .glo "accepts_demand", .glo "shows_open", .glo "breaking", .glo "within", .glo "stuck_pairs", .glo "first_word_to", .glo "jam", .glo "in_step", .glo "is_jam", .glo "accepts_pair", .glo "accepts", .glo "_law_dip", .glo "_law_bent", .glo "_law_right", .glo "_law_well", .glo "law", .meth "Machine" "__len__", .cls "Machine", .noat "Machine" "_letters", .noat "Machine" "_states", .mkr "Machine"]
def exK (K : PySem.W.Frag) : Bool := (exL.all fun f => f.ok K) && (isGet K (He.ga K "Machine") "letters" && (isGet K (He.ga K "Machine") "states" && (isI K (He.ga K "Machine") && (isCM K (He.ga K "Machine") "read" && (isKT K (He.ga K "KINDS") ["guard", "hope", "promise", "duty", "again", "stays", "watchable"] && (excB K "InvalidLetters" "given" && (excB K "InvalidStates" "index" && (excB K "InvalidText" "given" && (excB K "NotAMachine" "given" && (excB K "InvalidWord" "given" && (excB K "OtherLetters" "given" && (excB K "InvalidLasso" "given" && (excB K "InvalidDemand" "given" && (exmB K "InvalidText" [("InvalidText", true)] && (decide (He.ga K "Machine" = 294) && isK K (He.ga K "Machine"))))))))))))))))
def fns : List QD := [⟨fun K => He.ga K "_law_cell", "_law_cell", "_law_cell", s__law_cell⟩,
  ⟨fun K => He.ga K "is_letters", "is_letters", "is_letters", s_is_letters⟩,
  ⟨fun K => He.ga K "is_number", "is_number", "is_number", s_is_number⟩,
  ⟨fun K => He.ga K "is_state", "is_state", "is_state", s_is_state⟩,
  ⟨fun K => He.ga K "first_wrong_state", "first_wrong_state", "first_wrong_state", s_first_wrong_state⟩,
  ⟨fun K => He.ga K "_law_bank", "_law_bank", "_law_bank", s__law_bank⟩,
  ⟨fun K => He.ga K "told_letters", "told_letters", "told_letters", s_told_letters⟩,
  ⟨fun K => He.ga K "told_state", "told_state", "told_state", s_told_state⟩,
  ⟨fun K => cmG K (He.ga K "Machine") "read", "read", "Machine.read", s_Machine_read⟩,
  ⟨fun K => He.ga K "machine_told", "machine_told", "machine_told", s_machine_told⟩,
  ⟨fun K => He.ga K "is_spelled", "is_spelled", "is_spelled", s_is_spelled⟩,
  ⟨fun K => He.ga K "states_along", "states_along", "states_along", s_states_along⟩,
  ⟨fun K => He.ga K "state_behind", "state_behind", "state_behind", s_state_behind⟩,
  ⟨fun K => He.ga K "shows_turning", "shows_turning", "shows_turning", s_shows_turning⟩,
  ⟨fun K => He.ga K "accepts_one", "accepts_one", "accepts_one", s_accepts_one⟩,
  ⟨fun K => He.ga K "is_empty", "is_empty", "is_empty", s_is_empty⟩,
  ⟨fun K => He.ga K "is_endless", "is_endless", "is_endless", s_is_endless⟩,
  ⟨fun K => He.ga K "is_lasso", "is_lasso", "is_lasso", s_is_lasso⟩,
  ⟨fun K => He.ga K "is_word", "is_word", "is_word", s_is_word⟩,
  ⟨fun K => He.ga K "is_demand_form", "is_demand_form", "is_demand_form", s_is_demand_form⟩,
  ⟨fun K => He.ga K "is_demand", "is_demand", "is_demand", s_is_demand⟩,
  ⟨fun K => He.ga K "check_machine", "check_machine", "check_machine", s_check_machine⟩,
  ⟨fun K => He.ma K (He.ga K "Machine") "__len__", "__len__", "Machine.__len__", s_Machine_len_⟩,
  ⟨fun K => He.ga K "arrows_of", "arrows_of", "arrows_of", s_arrows_of⟩,
  ⟨fun K => He.ga K "colours_of", "colours_of", "colours_of", s_colours_of⟩,
  ⟨fun K => He.ga K "bits_ahead", "bits_ahead", "bits_ahead", s_bits_ahead⟩,
  ⟨fun K => He.ga K "greatest_loops", "greatest_loops", "greatest_loops", s_greatest_loops⟩,
  ⟨fun K => He.ga K "without_wrong_top", "without_wrong_top", "without_wrong_top", s_without_wrong_top⟩,
  ⟨fun K => He.ga K "loops_as_asked", "loops_as_asked", "loops_as_asked", s_loops_as_asked⟩,
  ⟨fun K => He.ga K "leading_to", "leading_to", "leading_to", s_leading_to⟩,
  ⟨fun K => He.ga K "leading_to_loops", "leading_to_loops", "leading_to_loops", s_leading_to_loops⟩,
  ⟨fun K => He.ga K "live", "live", "live", s_live⟩,
  ⟨fun K => He.ga K "words_from", "words_from", "words_from", s_words_from⟩,
  ⟨fun K => He.ga K "first_words", "first_words", "first_words", s_first_words⟩,
  ⟨fun K => He.ga K "reached", "reached", "reached", s_reached⟩,
  ⟨fun K => He.ga K "has_loop", "has_loop", "has_loop", s_has_loop⟩,
  ⟨fun K => He.ga K "is_guard", "is_guard", "is_guard", s_is_guard⟩,
  ⟨fun K => He.ga K "is_hope", "is_hope", "is_hope", s_is_hope⟩,
  ⟨fun K => He.ga K "sure", "sure", "sure", s_sure⟩,
  ⟨fun K => He.ga K "is_promise", "is_promise", "is_promise", s_is_promise⟩,
  ⟨fun K => He.ga K "nested_loops", "nested_loops", "nested_loops", s_nested_loops⟩,
  ⟨fun K => He.ga K "comes_again", "comes_again", "comes_again", s_comes_again⟩,
  ⟨fun K => He.ga K "does_stay", "does_stay", "does_stay", s_does_stay⟩,
  ⟨fun K => He.ga K "is_duty", "is_duty", "is_duty", s_is_duty⟩,
  ⟨fun K => He.ga K "dead", "dead", "dead", s_dead⟩,
  ⟨fun K => He.ga K "is_watchable", "is_watchable", "is_watchable", s_is_watchable⟩,
  ⟨fun K => He.ga K "is_kind", "is_kind", "is_kind", s_is_kind⟩,
  ⟨fun K => He.ga K "least_colours", "least_colours", "least_colours", s_least_colours⟩,
  ⟨fun K => He.ga K "with_colours", "with_colours", "with_colours", s_with_colours⟩,
  ⟨fun K => He.ga K "recoloured", "recoloured", "recoloured", s_recoloured⟩,
  ⟨fun K => He.ga K "depth", "depth", "depth", s_depth⟩,
  ⟨fun K => He.ga K "state_after", "state_after", "state_after", s_state_after⟩,
  ⟨fun K => He.ga K "verdict_at", "verdict_at", "verdict_at", s_verdict_at⟩,
  ⟨fun K => He.ga K "verdict", "verdict", "verdict", s_verdict⟩,
  ⟨fun K => He.ga K "check_pair", "check_pair", "check_pair", s_check_pair⟩,
  ⟨fun K => He.ga K "pair_colours", "pair_colours", "pair_colours", s_pair_colours⟩,
  ⟨fun K => He.ga K "pair_arrows", "pair_arrows", "pair_arrows", s_pair_arrows⟩,
  ⟨fun K => He.ga K "top_of", "top_of", "top_of", s_top_of⟩,
  ⟨fun K => He.ga K "word_round", "word_round", "word_round", s_word_round⟩,
  ⟨fun K => He.ga K "lasso_from", "lasso_from", "lasso_from", s_lasso_from⟩,
  ⟨fun K => He.ga K "lasso_between", "lasso_between", "lasso_between", s_lasso_between⟩,
  ⟨fun K => He.ga K "parting", "parting", "parting", s_parting⟩,
  ⟨fun K => He.ga K "alike", "alike", "alike", s_alike⟩,
  ⟨fun K => He.ga K "takes", "takes", "takes", s_takes⟩,
  ⟨fun K => He.ga K "lies_in", "lies_in", "lies_in", s_lies_in⟩,
  ⟨fun K => He.ga K "holds", "holds", "holds", s_holds⟩,
  ⟨fun K => He.ga K "accepts_demand", "accepts_demand", "accepts_demand", s_accepts_demand⟩,
  ⟨fun K => He.ga K "shows_open", "shows_open", "shows_open", s_shows_open⟩,
  ⟨fun K => He.ga K "breaking", "breaking", "breaking", s_breaking⟩,
  ⟨fun K => He.ga K "within", "within", "within", s_within⟩,
  ⟨fun K => He.ga K "stuck_pairs", "stuck_pairs", "stuck_pairs", s_stuck_pairs⟩,
  ⟨fun K => He.ga K "first_word_to", "first_word_to", "first_word_to", s_first_word_to⟩,
  ⟨fun K => He.ga K "jam", "jam", "jam", s_jam⟩,
  ⟨fun K => He.ga K "in_step", "in_step", "in_step", s_in_step⟩,
  ⟨fun K => He.ga K "is_jam", "is_jam", "is_jam", s_is_jam⟩,
  ⟨fun K => He.ga K "accepts_pair", "accepts_pair", "accepts_pair", s_accepts_pair⟩,
  ⟨fun K => He.ga K "accepts", "accepts", "accepts", s_accepts⟩,
  ⟨fun K => He.ga K "_law_dip", "_law_dip", "_law_dip", s__law_dip⟩,
  ⟨fun K => He.ga K "_law_bent", "_law_bent", "_law_bent", s__law_bent⟩,
  ⟨fun K => He.ga K "_law_right", "_law_right", "_law_right", s__law_right⟩,
  ⟨fun K => He.ga K "_law_well", "_law_well", "_law_well", s__law_well⟩,
  ⟨fun K => He.ga K "law", "law", "law", s_law⟩,
  ⟨fun K => He.ma K (He.ga K "Machine") "__init__", "__init__", "Machine.__init__", s_Machine_init⟩,
  ⟨fun K => He.ma K (He.ga K "InvalidLetters") "__init__", "__init__", "InvalidLetters.__init__", (inClass (top 4) 0)⟩,
  ⟨fun K => He.ma K (He.ga K "InvalidStates") "__init__", "__init__", "InvalidStates.__init__", (inClass (top 10) 0)⟩,
  ⟨fun K => He.ma K (He.ga K "InvalidText") "__init__", "__init__", "InvalidText.__init__", (inClass (top 3) 0)⟩,
  ⟨fun K => He.ma K (He.ga K "NotAMachine") "__init__", "__init__", "NotAMachine.__init__", (inClass (top 8) 0)⟩,
  ⟨fun K => He.ma K (He.ga K "InvalidWord") "__init__", "__init__", "InvalidWord.__init__", (inClass (top 5) 0)⟩,
  ⟨fun K => He.ma K (He.ga K "OtherLetters") "__init__", "__init__", "OtherLetters.__init__", (inClass (top 9) 0)⟩,
  ⟨fun K => He.ma K (He.ga K "InvalidLasso") "__init__", "__init__", "InvalidLasso.__init__", (inClass (top 6) 0)⟩,
  ⟨fun K => He.ma K (He.ga K "InvalidDemand") "__init__", "__init__", "InvalidDemand.__init__", (inClass (top 7) 0)⟩,
  ⟨fun K => getA K (He.ga K "Machine") "letters", "letters", "Machine.letters", (inClass (top 25) 2)⟩,
  ⟨fun K => getA K (He.ga K "Machine") "states", "states", "Machine.states", (inClass (top 25) 3)⟩]

def fad : List Addr := ([PySem.cStatics] : List Addr) ++ ([3, 6, 4, 21, 31, 51, 70, 89, 108, 127, 146, 165, 184, 193, 198, 203, 210, 215, 220, 227, 294, 305, 310, 317, 324, 329, 336, 343, 348, 355, 362, 367, 372, 379, 386, 391, 398, 403, 408, 413, 418, 425, 430, 437, 442, 447, 454, 461, 466, 473, 478, 483, 488, 493, 498, 505, 512, 519, 526, 533] : List Addr) ++ ([538, 543, 548, 555, 562, 567, 572, 577, 584, 591, 598, 605, 606, 613, 620, 627, 634, 641, 646, 653, 660, 667, 674, 679, 684, 691, 698, 705, 712, 719, 726, 733, 740, 747, 752, 757, 0, 20, 30, 50, 69, 88, 107, 126, 145, 164, 183, 192, 197, 202, 209, 214, 219, 226, 293, 304, 309, 316, 323, 328] : List Addr) ++ ([335, 342, 347, 354, 361, 366, 371, 378, 385, 390, 397, 402, 407, 412, 417, 424, 429, 436, 441, 446, 453, 460, 465, 472, 477, 482, 487, 492, 497, 504, 511, 518, 525, 532, 537, 542, 547, 554, 561, 566, 571, 576, 583, 590, 597, 604, 612, 619, 626, 633, 640, 645, 652, 659, 666, 673, 678, 683, 690, 697] : List Addr) ++ ([704, 711, 718, 725, 732, 739, 746, 751, 756, 15, 16, 17, 18, 19, 29, 32, 48, 49, 67, 68, 86, 87, 105, 106, 124, 125, 143, 144, 162, 163, 181, 182, 187, 188, 189, 190, 191, 194, 195, 196, 199, 200, 201, 204, 205, 206, 207, 208, 211, 212, 213, 216, 217, 218, 221, 222, 223, 224, 225, 241] : List Addr) ++ ([248, 257, 265, 272, 277, 284, 291, 292, 295, 296, 299, 300, 301, 302, 303, 306, 307, 308, 311, 312, 313, 314, 315, 318, 319, 320, 321, 322, 325, 326, 327, 330, 331, 332, 333, 334, 337, 338, 339, 340, 341, 344, 345, 346, 349, 350, 351, 352, 353, 356, 357, 358, 359, 360, 363, 364, 365, 368, 369, 370] : List Addr) ++ ([373, 374, 375, 376, 377, 380, 381, 382, 383, 384, 387, 388, 389, 392, 393, 394, 395, 396, 399, 400, 401, 404, 405, 406, 409, 410, 411, 414, 415, 416, 419, 420, 421, 422, 423, 426, 427, 428, 431, 432, 433, 434, 435, 438, 439, 440, 443, 444, 445, 448, 449, 450, 451, 452, 455, 456, 457, 458, 459, 462] : List Addr) ++ ([463, 464, 467, 468, 469, 470, 471, 474, 475, 476, 479, 480, 481, 484, 485, 486, 489, 490, 491, 494, 495, 496, 499, 500, 501, 502, 503, 506, 507, 508, 509, 510, 513, 514, 515, 516, 517, 520, 521, 522, 523, 524, 527, 528, 529, 530, 531, 534, 535, 536, 539, 540, 541, 544, 545, 546, 549, 550, 551, 552] : List Addr) ++ ([553, 556, 557, 558, 559, 560, 563, 564, 565, 568, 569, 570, 573, 574, 575, 578, 579, 580, 581, 582, 585, 586, 587, 588, 589, 592, 593, 594, 595, 596, 599, 600, 601, 602, 603, 607, 608, 609, 610, 611, 614, 615, 616, 617, 618, 621, 622, 623, 624, 625, 628, 629, 630, 631, 632, 635, 636, 637, 638, 639] : List Addr) ++ ([642, 643, 644, 647, 648, 649, 650, 651, 654, 655, 656, 657, 658, 661, 662, 663, 664, 665, 668, 669, 670, 671, 672, 675, 676, 677, 680, 681, 682, 685, 686, 687, 688, 689, 692, 693, 694, 695, 696, 699, 700, 701, 702, 703, 706, 707, 708, 709, 710, 713, 714, 715, 716, 717, 720, 721, 722, 723, 724, 727] : List Addr) ++ ([728, 729, 730, 731, 734, 735, 736, 737, 738, 741, 742, 743, 744, 745, 748, 749, 750, 753, 754, 755, 47, 66, 85, 104, 123, 142, 161, 180, 240, 246, 247, 256, 264, 271, 276, 283, 290, 42, 43, 44, 45, 46, 61, 62, 63, 64, 65, 80, 81, 82, 83, 84, 99, 100, 101, 102, 103, 118, 119, 120] : List Addr) ++ ([121, 122, 137, 138, 139, 140, 141, 156, 157, 158, 159, 160, 175, 176, 177, 178, 179, 235, 236, 237, 238, 239, 245, 249, 255, 263, 266, 267, 268, 269, 270, 273, 274, 275, 278, 279, 280, 281, 282, 285, 286, 287, 288, 289, 242, 243, 244, 250, 251, 252, 253, 254, 258, 259, 260, 261, 262] : List Addr)
abbrev R : PySem.W.OpenRow := PySem.W.OpenLaw.row PySem.Challenge.rw_guardhopes_k56_values_that_are_none
abbrev hk : PySem.W.Hook := hookL fad fns exK
def ob (s : PySem.W.SharedT) : QA := obL fad fns exK (HandSHeadRun.getT s)
def loose : List Str := (["_wall", "BadValue", "InvalidText", "InvalidLetters", "InvalidWord", "InvalidLasso", "InvalidDemand", "NotAMachine", "OtherLetters", "InvalidStates", "MOST_LETTERS", "MOST_STATES", "MOST_COLOUR", "MOST_WORD", "ALPHABET", "DIGITS", "is_number", "is_letters", "is_state", "first_wrong_state", "state_row", "told_state", "told_letters", "Machine", "check_machine"] : List Str) ++ (["is_spelled", "is_word", "is_endless", "is_lasso", "states_along", "state_behind", "takes", "state_after", "lies_in", "EVEN", "ODD", "BAD", "GOOD", "OPEN", "arrows_of", "colours_of", "words_from", "first_words", "first_word_to", "reached", "leading_to", "bits_ahead", "greatest_loops", "without_wrong_top", "loops_as_asked"] : List Str) ++ (["leading_to_loops", "live", "sure", "dead", "verdict_at", "verdict", "is_watchable", "check_pair", "pair_arrows", "pair_colours", "top_of", "word_round", "lasso_from", "lasso_between", "breaking", "within", "parting", "alike", "with_colours", "least_colours", "recoloured", "has_loop", "nested_loops", "is_guard", "is_hope"] : List Str) ++ (["is_promise", "comes_again", "does_stay", "is_duty", "depth", "KINDS", "DEPTH", "IN", "OUT", "LIKE", "machine_told", "is_kind", "is_demand_form", "is_demand", "holds", "stuck_pairs", "is_jam", "jam", "in_step", "HOLDS", "FAILS", "SAME", "INSIDE", "STEP", "PARTED"] : List Str) ++ (["BREAKS", "JAMS", "NOT_AGAIN", "NOT_STAYS", "is_empty", "shows_turning", "shows_open", "accepts_one", "accepts_demand", "accepts_pair", "accepts", "_law_cell", "_law_well", "_law_dip", "_law_bank", "_law_bent", "_law_right"] : List Str)
theorem run (w : World) : HandSHeadRun.RunEq R (PySem.W.view R.prog [128]) hk ob 9000 loose w := by
  intro os
  kernel_rfl
end DL

set_option maxHeartbeats 1000000
namespace DL
open PySem PySem.Spec PyProof.Rows L2
/-- letters of one sort of laws: ascending, one or three apart -/
def sgsA0 : List Str := ["abe", "ad", "ade", "adg", "bc", "bcd", "bcf", "be", "bef", "beh", "c", "cd", "cde", "cdg", "cf", "cfg", "cfi", "d", "de", "def"]
def sgsA1 : List Str := ["deh", "dg", "dgh", "dgj", "e", "ef", "efg", "efi", "eh", "ehi", "ehk", "f", "fg", "fgh", "fgj", "fi", "fij", "fil", "g", "gh"]
def sgsA2 : List Str := ["ghi", "ghk", "gj", "gjk", "gjm", "h", "hi", "hij", "hil", "hk", "hkl", "hkn", "i", "ij", "ijk", "ijm", "il", "ilm", "ilo", "j"]
def sgsA3 : List Str := ["jk", "jkl", "jkn", "jm", "jmn", "jmp", "k", "kl", "klm", "klo", "kn", "kno", "knq", "l", "lm", "lmn", "lmp", "lo", "lop", "lor"]
def sgsA4 : List Str := ["m", "mn", "mnq", "mp", "mpq", "mps", "n", "no", "nop", "nor", "nq", "nqr", "nqt", "o", "op", "opq", "ops", "or", "ors", "oru"]
def sgsA5 : List Str := ["p", "pq", "pqr", "pqt", "ps", "pst", "psv", "qr", "qrs", "qru", "qt", "qtu", "qtw", "r", "rs", "rst", "rsv", "ru", "ruv", "rux"]
def sgsA6 : List Str := ["s", "st", "stu", "stw", "sv", "svw", "svy", "t", "tu", "tuv", "tux", "tw", "twx", "twz"]
def sgsA : List Str := sgsA0 ++ (sgsA1 ++ (sgsA2 ++ (sgsA3 ++ (sgsA4 ++ (sgsA5 ++ (sgsA6))))))
def sgs0 : List Str := ["ab", "a", "abc", "xz", "q", "mno", "hy", "bz", "kmx", "b", "cx", "yz", "xyz"]
def sgs : List Str := sgs0 ++ sgsA
abbrev Row := Int × List Int
def rowD (r : Row) : D := .tup [.int r.1, .tup (r.2.map D.int)]
structure RowOk (k n : Nat) (r : Row) : Prop where
  c0 : 0 ≤ r.1
  c1 : r.1 ≤ 6
  len : r.2.length = k
  go : ∀ g ∈ r.2, 0 ≤ g ∧ g < n
structure RowsOk (k : Nat) (rs : List Row) : Prop where
  n0 : 1 ≤ rs.length
  n1 : rs.length ≤ 6
  ok : ∀ r ∈ rs, RowOk k rs.length r
end DL

set_option maxHeartbeats 1000000

set_option maxHeartbeats 1000000
namespace DL
open PySem PySem.Spec PyProof.Rows L2
abbrev one (c : Nat) : Str := ⟨#[c]⟩
def Wd (x w : Str) : Prop := ∀ c ∈ w.cps.toList, c ∈ x.cps.toList
def idx (x : Str) (c : Nat) : Nat := x.cps.toList.idxOf c
def goal (rs : List Row) (s : Int) (i : Nat) : Int := ((rs[s.toNat]?).bind fun r => r.2[i]?).getD 0
def walkL (x : Str) (rs : List Row) : Int → List Nat → List Int
  | _, [] => []
  | s, c :: cs => goal rs s (idx x c) :: walkL x rs (goal rs s (idx x c)) cs
def walkE (x : Str) (rs : List Row) : Int → List Nat → Int
  | s, [] => s
  | s, c :: cs => walkE x rs (goal rs s (idx x c)) cs
end DL

set_option maxHeartbeats 1000000

set_option maxHeartbeats 1000000

set_option maxHeartbeats 1000000
namespace DL
open PySem PySem.Spec PyProof.Rows L2
theorem app_cps (w v : Str) : (w ++ v).cps = w.cps ++ v.cps := rfl
theorem app_list (w v : Str) : (w ++ v).cps.toList = w.cps.toList ++ v.cps.toList := by rw [app_cps, Array.toList_append]
theorem str_len (w : Str) : w.cps.toList.length = w.length := by simp [Str.length]
theorem app_len (w v : Str) : (w ++ v).length = w.length + v.length := by
  rw [← str_len, app_list, List.length_append, str_len, str_len]
/-- the state behind n rounds -/
abbrev endE (x : Str) (rs : List Row) (s : Int) (w : List Nat) (n : Nat) : Int := walkE x rs s (List.replicate n w).flatten
abbrev allL (x : Str) (rs : List Row) (s : Int) (w : List Nat) (n : Nat) : List Int := walkL x rs s (List.replicate n w).flatten
def colour (rs : List Row) (s : Int) : Int := ((rs[s.toNat]?).map (·.1)).getD 0
/-- the greatest of some numbers, 0 of none -/
def top0 (is : List Int) : Int := match is with
  | [] => 0
  | i :: is => topI i is
end DL

set_option maxHeartbeats 1000000

set_option maxHeartbeats 1000000
namespace DL
open PySem PySem.Spec PyProof.Rows L2
def rowAt (rs : List Row) (s : Int) : Row := (rs[s.toNat]?).getD (0, [])
theorem rowAt_ok {k : Nat} {rs : List Row} (hr : RowsOk k rs) {s : Int} (h0 : 0 ≤ s) (h1 : s < rs.length) : atI (rs.map rowD) s = some (rowD (rowAt rs s)) ∧ RowOk k rs.length (rowAt rs s) := by
  obtain ⟨j, rfl⟩ : ∃ j : Nat, s = (j : Int) := ⟨s.toNat, by omega⟩
  have hj : j < rs.length := by omega
  have e : rowAt rs (j : Int) = rs[j] := by
    unfold rowAt
    rw [Int.toNat_natCast, List.getElem?_eq_getElem hj]
    rfl
  rw [e]
  exact ⟨atI_nat (by rw [List.getElem?_map, List.getElem?_eq_getElem hj]; rfl), hr.ok _ (List.getElem_mem hj)⟩
end DL

set_option maxHeartbeats 1000000
namespace DL
open PySem PySem.Spec PyProof.Rows L2
def lassoD (u v : Str) : D := .tup [.str u, .str v]
/-- the greatest colour behind rounds -/
def topOf (x : Str) (rs : List Row) (u v : List Nat) : Int := top0 ((allL x rs (endE x rs (walkE x rs 0 u) v rs.length) v rs.length).map (colour rs))
end DL

set_option maxHeartbeats 1000000
namespace DL
open PySem PySem.Spec PyProof.Rows L2
theorem top0_ge {is : List Int} : ∀ y ∈ is, y ≤ top0 is := by
  cases is with
  | nil => intro y h; cases h
  | cons i is =>
    intro y h
    obtain ⟨h1, h2, h3⟩ := topI_ge is i
    rcases List.mem_cons.mp h with rfl | h
    · exact h1
    · exact h2 y h
theorem top0_mem {is : List Int} (h : is ≠ []) : top0 is ∈ is := by
  cases is with
  | nil => exact (h rfl).elim
  | cons i is =>
    obtain ⟨h1, h2, h3⟩ := topI_ge is i
    rcases h3 with h3 | h3
    · show topI i is ∈ _
      rw [h3]; exact List.mem_cons_self
    · exact List.mem_cons_of_mem _ h3
end DL

set_option maxHeartbeats 1000000
namespace DL
open PySem PySem.Spec PyProof.Rows L2
section
variable {sc : Int → List Int} {ok ok' : Int → Prop}
/-- one or more steps, all behind the first number by numbers that are ok -/
inductive Pth (sc : Int → List Int) (ok : Int → Prop) : Int → Int → Prop
  | one {a b : Int} : b ∈ sc a → ok b → Pth sc ok a b
  | step {a b c : Int} : b ∈ sc a → ok b → Pth sc ok b c → Pth sc ok a c
theorem Pth.trans {a b c : Int} (h : Pth sc ok a b) (h' : Pth sc ok b c) : Pth sc ok a c := by
  induction h with
  | one h1 h2 => exact .step h1 h2 h'
  | step h1 h2 _ ih => exact .step h1 h2 (ih h')
theorem Pth.snoc {a b c : Int} (h : Pth sc ok a b) (h1 : c ∈ sc b) (h2 : ok c) : Pth sc ok a c := h.trans (.one h1 h2)
theorem Pth.mono {a b : Int} (h : Pth sc ok a b) (f : ∀ x, ok x → ok' x) : Pth sc ok' a b := by
  induction h with
  | one h1 h2 => exact .one h1 (f _ h2)
  | step h1 h2 _ ih => exact .step h1 (f _ h2) ih
theorem Pth.last {a b : Int} (h : Pth sc ok a b) : ok b := by
  induction h with
  | one _ h2 => exact h2
  | step _ _ _ ih => exact ih
theorem Pth.first {a b : Int} (h : Pth sc ok a b) : ∃ c, c ∈ sc a ∧ ok c ∧ (c = b ∨ Pth sc ok c b) := by
  cases h with
  | one h1 h2 => exact ⟨_, h1, h2, .inl rfl⟩
  | step h1 h2 h3 => exact ⟨_, h1, h2, .inr h3⟩
/-- hangs together -/
def SC (sc : Int → List Int) (S : Int → Prop) : Prop := ∀ a b, S a → S b → Pth sc S a b
theorem SC.congr {S S' : Int → Prop} (h : SC sc S) (e : ∀ a, S a ↔ S' a) : SC sc S' := fun a b ha hb => (h a b ((e a).mpr ha) ((e b).mpr hb)).mono fun x hx => (e x).mp hx
/-- a way between two of a class stays in it -/
theorem Pth.within {a : Int} {x y : Int} (h : Pth sc ok x y) : Pth sc ok a x → Pth sc ok y a → Pth sc (fun c => ok c ∧ Pth sc ok a c ∧ Pth sc ok c a) x y := by
  induction h with
  | one h1 h2 => exact fun f g => .one h1 ⟨h2, f.snoc h1 h2, g⟩
  | step h1 h2 h3 ih => exact fun f g => .step h1 ⟨h2, f.snoc h1 h2, h3.trans g⟩ (ih (f.snoc h1 h2) g)
end
def TopIs (col : Int → Int) (S : Int → Prop) (T : Int) : Prop := (∃ a, S a ∧ col a = T) ∧ ∀ a, S a → col a ≤ T
theorem TopIs.congr {col : Int → Int} {S S' : Int → Prop} {T : Int} (h : TopIs col S T) (e : ∀ a, S a ↔ S' a) : TopIs col S' T := by
  obtain ⟨⟨a, a1, a2⟩, b⟩ := h
  exact ⟨⟨a, (e a).mp a1, a2⟩, fun x hx => b x ((e x).mpr hx)⟩
theorem top_is {col : Int → Int} {l : List Int} (h : l ≠ []) : TopIs col (· ∈ l) (top0 (l.map col)) := by
  have hm : l.map col ≠ [] := by simpa using h
  obtain ⟨a, a1, a2⟩ := List.mem_map.mp (top0_mem hm)
  exact ⟨⟨a, a1, a2⟩, fun x hx => top0_ge _ (List.mem_map.mpr ⟨x, hx, rfl⟩)⟩
/-- what is asked of loops: colours, and the evenness of the greatest -/
abbrev Asked := List ((Int → Int) × Int)
def GLoop (sc : Int → List Int) (as : Asked) (S : Int → Prop) : Prop := (∃ a, S a) ∧ SC sc S ∧ ∀ p ∈ as, ∃ T, TopIs p.1 S T ∧ T % 2 = p.2
theorem GLoop.congr {sc : Int → List Int} {as : Asked} {S S' : Int → Prop} (h : GLoop sc as S) (e : ∀ a, S a ↔ S' a) : GLoop sc as S' := by
  obtain ⟨⟨a, ha⟩, h1, h2⟩ := h
  refine ⟨⟨a, (e a).mp ha⟩, h1.congr e, fun p hp => ?_⟩
  obtain ⟨T, t1, t2⟩ := h2 p hp
  exact ⟨T, t1.congr e, t2⟩
end DL

set_option maxHeartbeats 1000000
namespace DL
open PySem PySem.Spec PyProof.Rows L2
def rowIs (d : D) (gs : List Int) : Prop := d = .tup (gs.map D.int) ∨ d = .lst (gs.map D.int)
structure Gr (A : List D) (n : Nat) (sc : Int → List Int) : Prop where
  len : A.length = n
  row : ∀ k : Int, 0 ≤ k → k < n → ∃ d, atI A k = some d ∧ rowIs d (sc k)
  go : ∀ k : Int, 0 ≤ k → k < n → ∀ g ∈ sc k, 0 ≤ g ∧ g < n
  few : ∀ k : Int, 0 ≤ k → k < n → (sc k).length ≤ 1000
  n1000 : n ≤ 1000
inductive Via (sc : Int → List Int) (mid : Int → Prop) : Int → Int → Prop
  | one {a b : Int} : b ∈ sc a → Via sc mid a b
  | step {a b c : Int} : b ∈ sc a → mid b → Via sc mid b c → Via sc mid a c
section
variable {sc : Int → List Int} {mid mid' : Int → Prop}
theorem Via.mono {a b : Int} (h : Via sc mid a b) (f : ∀ x, mid x → mid' x) : Via sc mid' a b := by
  induction h with
  | one h1 => exact .one h1
  | step h1 h2 _ ih => exact .step h1 (f _ h2) ih
theorem Via.trans {a m b : Int} (h : Via sc mid a m) (hm : mid m) (h' : Via sc mid m b) : Via sc mid a b := by
  induction h with
  | one h1 => exact .step h1 hm h'
  | step h1 h2 _ ih => exact .step h1 h2 (ih hm h')
theorem Via.split {m a b : Int} (h : Via sc (fun x => mid x ∨ x = m) a b) : Via sc mid a b ∨ (Via sc mid a m ∧ Via sc mid m b) := by
  induction h with
  | one h1 => exact .inl (.one h1)
  | step h1 h2 _ ih =>
    rcases h2 with h2 | rfl
    · rcases ih with ih | ⟨i1, i2⟩
      · exact .inl (.step h1 h2 ih)
      · exact .inr ⟨.step h1 h2 i1, i2⟩
    · rcases ih with ih | ⟨_, i2⟩
      · exact .inr ⟨.one h1, ih⟩
      · exact .inr ⟨.one h1, i2⟩
end
/-- numbers of a graph, each once -/
structure Ns (n : Nat) (ns : List Int) : Prop where
  nd : ns.Nodup
  lo : ∀ k ∈ ns, 0 ≤ k ∧ k < n
theorem Ns.len {n : Nat} {ns : List Int} (h : Ns n ns) : ns.length ≤ n := by
  have h1 : (ns.map Int.toNat).Nodup := by
    have nd := h.nd
    have lo := h.lo
    clear h
    induction ns with
    | nil => exact List.nodup_nil
    | cons k ns ih =>
      obtain ⟨a, b⟩ := List.nodup_cons.mp nd
      rw [List.map_cons]
      refine List.nodup_cons.mpr ⟨fun hm => ?_, ih b fun k hk => lo k (List.mem_cons_of_mem _ hk)⟩
      obtain ⟨j, hj, e⟩ := List.mem_map.mp hm
      have z1 := lo k List.mem_cons_self
      have z2 := lo j (List.mem_cons_of_mem _ hj)
      have : j = k := by omega
      subst this
      exact a hj
  have h2 : ∀ x ∈ ns.map Int.toNat, x < n := fun x hx => by
    obtain ⟨k, hk, rfl⟩ := List.mem_map.mp hx
    have := h.lo k hk
    omega
  have : ∀ (l : List Nat) (n : Nat), l.Nodup → (∀ x ∈ l, x < n) → l.length ≤ n := by
    intro l n
    induction n generalizing l with
    | zero =>
      intro _ h
      cases l with
      | nil => exact Nat.le_refl _
      | cons a l => exact absurd (h a List.mem_cons_self) (Nat.not_lt_zero _)
    | succ n ih =>
      intro nd h
      have i1 := ih (l.erase n) (nd.erase n) (fun x hx => by
        have h1 := h x (List.mem_of_mem_erase hx)
        have h2 : x ≠ n := fun e => by
          subst e
          exact (List.Nodup.mem_erase_iff nd).mp hx |>.1 rfl
        omega)
      have : l.length ≤ (l.erase n).length + 1 := by
        rw [List.length_erase]
        split <;> omega
      omega
  have := this _ _ h1 h2
  rwa [List.length_map] at this
end DL

set_option maxHeartbeats 1000000

set_option maxHeartbeats 1000000

set_option maxHeartbeats 1000000
namespace DL
open PySem PySem.Spec PyProof.Rows L2
def bth (β : Int → Nat) (a k : Int) : Bool := (β a).testBit k.toNat && (β k).testBit a.toNat
def cls (ns : List Int) (β : Int → Nat) (a : Int) : List Int := ns.filter (bth β a)
end DL

set_option maxHeartbeats 1000000

set_option maxHeartbeats 1000000
namespace DL
open PySem PySem.Spec PyProof.Rows L2
def nums (n : Nat) : List Int := (List.range n).map fun (k : Nat) => (k : Int)
theorem mem_nums {n : Nat} {k : Int} : k ∈ nums n ↔ 0 ≤ k ∧ k < n := by
  unfold nums
  constructor
  · intro h
    obtain ⟨j, hj, rfl⟩ := List.mem_map.mp h
    have := List.mem_range.mp hj
    omega
  · intro h
    exact List.mem_map.mpr ⟨k.toNat, List.mem_range.mpr (by omega), by omega⟩
theorem len_nums (n : Nat) : (nums n).length = n := by simp [nums]
end DL

set_option maxHeartbeats 1000000
namespace DL
open PySem PySem.Spec PyProof.Rows L2
def scM (rs : List Row) (k : Int) : List Int := (rowAt rs k).2
def arrD (rs : List Row) : List D := rs.map fun r => .tup (r.2.map D.int)
theorem gr_M {k : Nat} {rs : List Row} (hr : RowsOk k rs) (hk : k ≤ 1000) : Gr (arrD rs) rs.length (scM rs) := by
  have n1 := hr.n1
  refine ⟨by simp [arrD], fun j j0 j1 => ?_, fun j j0 j1 g hg => ?_, fun j j0 j1 => ?_, by omega⟩
  · refine ⟨.tup ((scM rs j).map D.int), ?_, .inl rfl⟩
    obtain ⟨i, rfl⟩ : ∃ i : Nat, j = (i : Int) := ⟨j.toNat, by omega⟩
    have hi : i < rs.length := by omega
    refine atI_nat ?_
    unfold arrD scM rowAt
    rw [List.getElem?_map, Int.toNat_natCast, List.getElem?_eq_getElem hi]
    rfl
  · exact (rowAt_ok hr j0 j1).2.go g hg
  · show (rowAt rs j).2.length ≤ 1000
    rw [(rowAt_ok hr j0 j1).2.len]
    exact hk
end DL

set_option maxHeartbeats 1000000

set_option maxHeartbeats 1000000

set_option maxHeartbeats 1000000

set_option maxHeartbeats 1000000

set_option maxHeartbeats 1000000

set_option maxHeartbeats 1000000

set_option maxHeartbeats 1000000

set_option maxHeartbeats 1000000
namespace DL
open PySem PySem.Spec PyProof.Rows L2
/-- numbers below n, not too many -/
structure NsW (n : Nat) (ns : List Int) : Prop where
  len : ns.length ≤ n
  lo : ∀ k ∈ ns, 0 ≤ k ∧ k < n
theorem Ns.w {n : Nat} {ns : List Int} (h : Ns n ns) : NsW n ns := ⟨h.len, h.lo⟩
end DL

set_option maxHeartbeats 1000000
namespace DL
open PySem PySem.Spec PyProof.Rows L2
theorem pth_all {k : Nat} {rs : List Row} (hr : RowsOk k rs) (hk : k ≤ 1000) {a g : Int} (a0 : 0 ≤ a) (a1 : a < rs.length) : Pth (scM rs) (· ∈ nums rs.length) a g ↔ Pth (scM rs) (fun _ => True) a g := by
  have G := gr_M hr hk
  constructor
  · exact fun h => h.mono fun _ _ => trivial
  · intro h
    induction h with
    | one h1 _ => exact .one h1 (mem_nums.mpr (G.go _ a0 a1 _ h1))
    | step h1 _ _ ih =>
      obtain ⟨c0, c1⟩ := G.go _ a0 a1 _ h1
      exact .step h1 (mem_nums.mpr ⟨c0, c1⟩) (ih c0 c1)
/-- the states that are reached -/
def Reach (rs : List Row) (k : Int) : Prop := k = 0 ∨ Pth (scM rs) (fun _ => True) 0 k
theorem reach_in {k : Nat} {rs : List Row} (hr : RowsOk k rs) (hk : k ≤ 1000) {a : Int} (h : Reach rs a) : 0 ≤ a ∧ a < rs.length := by
  have n0 := hr.n0
  rcases h with rfl | h
  · omega
  · exact mem_nums.mp ((pth_all hr hk (by omega) (by omega)).mpr h).last
end DL

set_option maxHeartbeats 1000000

set_option maxHeartbeats 1000000

set_option maxHeartbeats 1000000

set_option maxHeartbeats 1000000

set_option maxHeartbeats 1000000

set_option maxHeartbeats 1000000
namespace DL
open PySem PySem.Spec PyProof.Rows L2
def sbF (found : List (List Int)) (e : Int) : List (List Int) := found ++ found.map (· ++ [e])
structure SInv (pre : List Int) (found : List (List Int)) : Prop where
  sub : ∀ l ∈ found, l.Sublist pre
  all : ∀ p : Int → Bool, pre.filter p ∈ found
  len : found.length = 2 ^ pre.length
theorem SInv.step {pre : List Int} {found : List (List Int)} (I : SInv pre found) (e : Int) : SInv (pre ++ [e]) (sbF found e) := by
  refine ⟨fun l hl => ?_, fun p => ?_, ?_⟩
  · rcases List.mem_append.mp hl with hl | hl
    · exact (I.sub l hl).trans (List.sublist_append_left _ _)
    · obtain ⟨m, hm, rfl⟩ := List.mem_map.mp hl
      exact (I.sub m hm).append (List.Sublist.refl _)
  · unfold sbF
    rw [List.filter_append]
    by_cases hp : p e = true
    · refine List.mem_append_right _ (List.mem_map.mpr ⟨_, I.all p, ?_⟩)
      simp [hp]
    · refine List.mem_append_left _ ?_
      have := I.all p
      simpa [hp] using this
  · unfold sbF
    rw [List.length_append, List.length_map, I.len, List.length_append, List.length_singleton, Nat.pow_succ]
    omega
end DL

set_option maxHeartbeats 1000000

set_option maxHeartbeats 1000000

set_option maxHeartbeats 1000000

set_option maxHeartbeats 1000000

set_option maxHeartbeats 1000000

set_option maxHeartbeats 1000000

set_option maxHeartbeats 1000000

set_option maxHeartbeats 1000000
namespace DL
open PySem PySem.Spec PyProof.Rows L2
theorem len_cps {w : Str} : w.cps.toList = [] ↔ w.length = 0 := by
  rw [← str_len]
  exact List.length_eq_zero_iff.symm
end DL

set_option maxHeartbeats 1000000

set_option maxHeartbeats 1000000

set_option maxHeartbeats 1000000
namespace DL
open PySem PySem.Spec PyProof.Rows L2
def gI (sc : Int → List Int) (s : Int) (i : Nat) : Int := ((sc s)[i]?).getD 0
def wE (x : Str) (sc : Int → List Int) : Int → List Nat → Int
  | s, [] => s
  | s, c :: cs => wE x sc (gI sc s (idx x c)) cs
end DL

set_option maxHeartbeats 1000000

set_option maxHeartbeats 1000000

set_option maxHeartbeats 1000000

set_option maxHeartbeats 1000000

set_option maxHeartbeats 1000000

set_option maxHeartbeats 1000000
namespace DL
open PySem PySem.Spec PyProof.Rows L2
/-- some lasso has these evennesses in the two wishes -/
def Bet (x : Str) (rs1 rs2 : List Row) (e1 e2 : Int) : Prop := ∃ u v : List Nat, (∀ c ∈ u, c ∈ x.cps.toList) ∧ (∀ c ∈ v, c ∈ x.cps.toList) ∧ v ≠ [] ∧ topOf x rs1 u v % 2 = e1 ∧ topOf x rs2 u v % 2 = e2
structure LasB (x : Str) (rs1 rs2 : List Row) (e1 e2 : Int) (u v : Str) : Prop where
  u1 : Wd x u
  u2 : u.length ≤ 36
  v1 : Wd x v
  v2 : v.length ≤ 109
  v0 : v.length ≠ 0
  t1 : topOf x rs1 u.cps.toList v.cps.toList % 2 = e1
  t2 : topOf x rs2 u.cps.toList v.cps.toList % 2 = e2
theorem LasB.bet {x : Str} {rs1 rs2 : List Row} {e1 e2 : Int} {u v : Str} (h : LasB x rs1 rs2 e1 e2 u v) : Bet x rs1 rs2 e1 e2 := ⟨_, _, h.u1, h.v1, fun e => h.v0 (len_cps.mp e), h.t1, h.t2⟩
end DL

set_option maxHeartbeats 1000000

set_option maxHeartbeats 1000000

set_option maxHeartbeats 1000000

set_option maxHeartbeats 1000000

set_option maxHeartbeats 1000000

set_option maxHeartbeats 1000000
namespace DL
open PySem PySem.Spec PyProof.Rows L2
structure RowsT (k : Nat) (T : Int) (rs : List Row) : Prop where
  n0 : 1 ≤ rs.length
  n1 : rs.length ≤ 6
  ok : ∀ r ∈ rs, 0 ≤ r.1 ∧ r.1 ≤ T ∧ r.2.length = k ∧ ∀ g ∈ r.2, 0 ≤ g ∧ g < rs.length
theorem RowsOk.t {k : Nat} {rs : List Row} (h : RowsOk k rs) : RowsT k 6 rs := ⟨h.n0, h.n1, fun r hr => by
  obtain ⟨a, b, c, d⟩ := h.ok r hr
  exact ⟨a, b, c, d⟩⟩
theorem RowsT.mono {k : Nat} {T T' : Int} {rs : List Row} (h : RowsT k T rs) (ht : T ≤ T') : RowsT k T' rs := ⟨h.n0, h.n1, fun r hr => by
  obtain ⟨a, b, c, d⟩ := h.ok r hr
  exact ⟨a, by omega, c, d⟩⟩
theorem RowsT.set {k : Nat} {T : Int} {rs : List Row} (h : RowsT k T rs) (j : Nat) {r : Row} (h0 : 0 ≤ r.1) (h1 : r.1 ≤ T) (h2 : r.2.length = k) (h3 : ∀ g ∈ r.2, 0 ≤ g ∧ g < rs.length) : RowsT k T (rs.set j r) := by
  refine ⟨by rw [List.length_set]; exact h.n0, by rw [List.length_set]; exact h.n1, fun q hq => ?_⟩
  rw [List.length_set]
  rcases List.mem_or_eq_of_mem_set hq with hq | rfl
  · exact h.ok q hq
  · exact ⟨h0, h1, h2, h3⟩
end DL

set_option maxHeartbeats 1000000

set_option maxHeartbeats 1000000

set_option maxHeartbeats 1000000
namespace DL
open PySem PySem.Spec PyProof.Rows L2
structure ShP (p : PyData) (k n : Nat) : Prop where
  sh : p.showable = true
  nd : p.hasDict = false
  dp : p.depth ≤ k
  ln : p.shown.length ≤ n
  ok : PyData.strOk p.shown = true
def ShB (d : D) (k n : Nat) : Prop := ∃ p, d.pd = some p ∧ ShP p k n
theorem ShP.mono {p : PyData} {k n k' n' : Nat} (h : ShP p k n) (hk : k ≤ k') (hn : n ≤ n') : ShP p k' n' := ⟨h.sh, h.nd, Nat.le_trans h.dp hk, Nat.le_trans h.ln hn, h.ok⟩
theorem ShB.mono {d : D} {k n k' n' : Nat} (h : ShB d k n) (hk : k ≤ k') (hn : n ≤ n') : ShB d k' n' := by
  obtain ⟨p, a, b⟩ := h
  exact ⟨p, a, b.mono hk hn⟩
end DL

set_option maxHeartbeats 1000000
namespace DL
open PySem PySem.Spec PyProof.Rows L2
def OneD (x : Str) (rs qs : List Row) (e1 e2 : Int) (d : D) : Prop := (d = .non ∧ ¬ Bet x rs qs e1 e2) ∨ ∃ u v : Str, d = lassoD u v ∧ LasB x rs qs e1 e2 u v
def TwoD (x : Str) (rs qs : List Row) (d : D) : Prop := (d = .non ∧ ¬ Bet x rs qs 0 1 ∧ ¬ Bet x rs qs 1 0) ∨ ∃ u v : Str, d = lassoD u v ∧ (LasB x rs qs 0 1 u v ∨ LasB x rs qs 1 0 u v)
def isNB : D → Bool
  | .non => true
  | _ => false
theorem OneD.is {x : Str} {rs qs : List Row} {e1 e2 : Int} {d : D} (h : OneD x rs qs e1 e2 d) : (isNB d = true ↔ ¬ Bet x rs qs e1 e2) ∧ isN2 d .non = some (.bl (isNB d)) ∧ notN2 d .non = some (.bl (!isNB d)) := by
  rcases h with ⟨rfl, h⟩ | ⟨u, v, rfl, h⟩
  · exact ⟨⟨fun _ => h, fun _ => rfl⟩, rfl, rfl⟩
  · exact ⟨⟨fun z => Bool.noConfusion (show false = true from z), fun z => absurd h.bet z⟩, rfl, rfl⟩
theorem TwoD.is {x : Str} {rs qs : List Row} {d : D} (h : TwoD x rs qs d) : (isNB d = true ↔ ¬ Bet x rs qs 0 1 ∧ ¬ Bet x rs qs 1 0) ∧ isN2 d .non = some (.bl (isNB d)) ∧ notN2 d .non = some (.bl (!isNB d)) := by
  rcases h with ⟨rfl, h⟩ | ⟨u, v, rfl, h⟩
  · exact ⟨⟨fun _ => h, fun _ => rfl⟩, rfl, rfl⟩
  · exact ⟨⟨fun z => Bool.noConfusion (show false = true from z), fun z => h.elim (fun q => absurd q.bet z.1) fun q => absurd q.bet z.2⟩, rfl, rfl⟩
end DL

set_option maxHeartbeats 1000000

set_option maxHeartbeats 1000000

set_option maxHeartbeats 1000000

set_option maxHeartbeats 1000000

set_option maxHeartbeats 1000000
namespace DL
open PySem PySem.Spec PyProof.Rows L2
def ahF (ins found : List Int) (F : List Int) (g : Int) : List Int := if g ∈ ins ∧ g ∉ found ∧ g ∉ F then F ++ [g] else F
def ahE (sc : Int → List Int) (ins found : List Int) (F : List Int) (a : Int) : List Int := (sc a).foldl (ahF ins found) F
def ahR (sc : Int → List Int) (ins : List Int) (p : List Int × List Int) : List Int × List Int := (p.1 ++ p.2.foldl (ahE sc ins p.1) [], p.2.foldl (ahE sc ins p.1) [])
def ahN (sc : Int → List Int) (ins : List Int) : Nat → List Int × List Int → List Int × List Int
  | 0, p => p
  | t + 1, p => ahN sc ins t (ahR sc ins p)
section
variable {sc : Int → List Int} {ins : List Int}
theorem ahF_mem (found F : List Int) (g z : Int) : z ∈ ahF ins found F g ↔ z ∈ F ∨ (z = g ∧ z ∈ ins ∧ z ∉ found) := by
  unfold ahF
  split
  · rename_i h
    rw [List.mem_append, List.mem_singleton]
    constructor
    · rintro (h1 | rfl)
      · exact .inl h1
      · exact .inr ⟨rfl, h.1, h.2.1⟩
    · rintro (h1 | ⟨rfl, _⟩)
      · exact .inl h1
      · exact .inr rfl
  · rename_i h
    constructor
    · exact .inl
    · rintro (h1 | ⟨rfl, h2, h3⟩)
      · exact h1
      · by_cases h4 : z ∈ F
        · exact h4
        · exact absurd ⟨h2, h3, h4⟩ h
theorem ahF_nd (found F : List Int) (g : Int) (h : F.Nodup) : (ahF ins found F g).Nodup := by
  unfold ahF
  split
  · rename_i h1
    rw [List.nodup_append]
    refine ⟨h, by simp, fun a ha c hc => ?_⟩
    have : c = g := by simpa using hc
    subst this
    intro e
    subst e
    exact h1.2.2 ha
  · exact h
theorem ahG_mem (found : List Int) (z : Int) : ∀ (gs F : List Int), z ∈ gs.foldl (ahF ins found) F ↔ z ∈ F ∨ (z ∈ gs ∧ z ∈ ins ∧ z ∉ found)
  | [], F => by simp
  | g :: gs, F => by
    rw [List.foldl_cons, ahG_mem found z gs, ahF_mem, List.mem_cons]
    constructor
    · rintro ((h | ⟨h1, h2⟩) | ⟨h1, h2⟩)
      · exact .inl h
      · exact .inr ⟨.inl h1, h2⟩
      · exact .inr ⟨.inr h1, h2⟩
    · rintro (h | ⟨h1 | h1, h2⟩)
      · exact .inl (.inl h)
      · exact .inl (.inr ⟨h1, h2⟩)
      · exact .inr ⟨h1, h2⟩
theorem ahG_nd (found : List Int) : ∀ (gs F : List Int), F.Nodup → (gs.foldl (ahF ins found) F).Nodup
  | [], _, h => h
  | g :: gs, F, h => ahG_nd found gs _ (ahF_nd found F g h)
theorem ahE_mem (found : List Int) (z : Int) : ∀ (es F : List Int), z ∈ es.foldl (ahE sc ins found) F ↔ z ∈ F ∨ ((∃ a ∈ es, z ∈ sc a) ∧ z ∈ ins ∧ z ∉ found)
  | [], F => by simp
  | a :: es, F => by
    rw [List.foldl_cons, ahE_mem found z es, ahE, ahG_mem]
    constructor
    · rintro ((h | ⟨h1, h2⟩) | ⟨⟨c, h1, h3⟩, h2⟩)
      · exact .inl h
      · exact .inr ⟨⟨a, List.mem_cons_self, h1⟩, h2⟩
      · exact .inr ⟨⟨c, List.mem_cons_of_mem _ h1, h3⟩, h2⟩
    · rintro (h | ⟨⟨c, h1, h3⟩, h2⟩)
      · exact .inl (.inl h)
      · rcases List.mem_cons.mp h1 with rfl | h1
        · exact .inl (.inr ⟨h3, h2⟩)
        · exact .inr ⟨⟨c, h1, h3⟩, h2⟩
theorem ahE_nd (found : List Int) : ∀ (es F : List Int), F.Nodup → (es.foldl (ahE sc ins found) F).Nodup
  | [], _, h => h
  | a :: es, F, h => ahE_nd found es _ (ahG_nd found _ _ h)
structure AhI (sc : Int → List Int) (ins : List Int) (a : Int) (p : List Int × List Int) : Prop where
  nd : p.1.Nodup
  sub : ∀ z ∈ p.2, z = a ∨ z ∈ p.1
  path : ∀ z ∈ p.1, Pth sc (· ∈ ins) a z
  done : ∀ y, (y = a ∨ y ∈ p.1) → y ∈ p.2 ∨ ∀ z ∈ sc y, z ∈ ins → z ∈ p.1
theorem AhI.round {a : Int} {p : List Int × List Int} (I : AhI sc ins a p) : AhI sc ins a (ahR sc ins p) := by
  have hm := fun z => ahE_mem (sc := sc) (ins := ins) p.1 z p.2 []
  have hF : ∀ z, z ∈ p.2.foldl (ahE sc ins p.1) [] → (∃ y ∈ p.2, z ∈ sc y) ∧ z ∈ ins ∧ z ∉ p.1 := fun z hz => by
    rcases (hm z).mp hz with h | h
    · cases h
    · exact h
  have hp : ∀ z ∈ p.2.foldl (ahE sc ins p.1) [], Pth sc (· ∈ ins) a z := fun z hz => by
    obtain ⟨⟨y, hy, h1⟩, h2, _⟩ := hF z hz
    rcases I.sub y hy with rfl | h
    · exact .one h1 h2
    · exact (I.path y h).snoc h1 h2
  refine ⟨?_, fun z hz => .inr (List.mem_append_right _ hz), fun z hz => ?_, fun y hy => ?_⟩
  · show (p.1 ++ _).Nodup
    rw [List.nodup_append]
    refine ⟨I.nd, ahE_nd p.1 p.2 [] List.nodup_nil, fun x hx y hy e => ?_⟩
    subst e
    exact (hF x hy).2.2 hx
  · rcases List.mem_append.mp hz with h | h
    · exact I.path z h
    · exact hp z h
  · have hold : (y = a ∨ y ∈ p.1) → y ∈ p.2.foldl (ahE sc ins p.1) [] ∨ ∀ z ∈ sc y, z ∈ ins → z ∈ p.1 ++ p.2.foldl (ahE sc ins p.1) [] := fun h => by
      refine .inr fun z hz hi => ?_
      rcases I.done y h with h1 | h1
      · by_cases h2 : z ∈ p.1
        · exact List.mem_append_left _ h2
        · exact List.mem_append_right _ ((hm z).mpr (.inr ⟨⟨y, h1, hz⟩, hi, h2⟩))
      · exact List.mem_append_left _ (h1 z hz hi)
    rcases hy with h | h
    · exact hold (.inl h)
    · rcases List.mem_append.mp h with h | h
      · exact hold (.inr h)
      · exact .inl h
theorem AhI.rounds {a : Int} : ∀ (t : Nat) {p : List Int × List Int}, AhI sc ins a p → AhI sc ins a (ahN sc ins t p)
  | 0, _, I => I
  | t + 1, _, I => AhI.rounds t I.round
end
end DL

set_option maxHeartbeats 1000000
namespace DL
open PySem PySem.Spec PyProof.Rows L2
section
variable (n m : Nat) (sc : Int → List Int)
/-- what a number shows in a round -/
def rowG (g : Int → Int) (k : Int) : Int × List Int := (g k, (sc k).map g)
def leastG (g : Int → Int) (k : Int) : Nat := (nums n).findIdx fun j => decide (rowG sc g j = rowG sc g k)
def nxtG (g : Int → Int) (k : Int) : Int := (leastG n sc g k : Int)
end
section
variable {n m : Nat} {sc : Int → List Int} (hw : ∀ k : Int, 0 ≤ k → k < n → (sc k).length = m) (hgo : ∀ k : Int, 0 ≤ k → k < n → ∀ g ∈ sc k, 0 ≤ g ∧ g < n)
theorem nums_at {n : Nat} {i : Nat} (h : i < n) : (nums n)[i]? = some (i : Int) := by
  unfold nums
  rw [List.getElem?_map, List.getElem?_range h]
  rfl
theorem least_lt {g : Int → Int} {k : Int} (k0 : 0 ≤ k) (k1 : k < n) : leastG n sc g k < n := by
  have h : leastG n sc g k < (nums n).length := List.findIdx_lt_length_of_exists ⟨k, mem_nums.mpr ⟨k0, k1⟩, by simp⟩
  rw [len_nums] at h
  exact h
theorem least_row {g : Int → Int} {k : Int} (k0 : 0 ≤ k) (k1 : k < n) : rowG sc g (leastG n sc g k : Int) = rowG sc g k := by
  have hl := least_lt (sc := sc) (g := g) k0 k1
  have h : leastG n sc g k < (nums n).length := by rw [len_nums]; exact hl
  have h2 := List.findIdx_getElem (xs := nums n) (p := fun j => decide (rowG sc g j = rowG sc g k)) (w := h)
  have h3 : (nums n)[leastG n sc g k] = (leastG n sc g k : Int) := by
    have := nums_at hl
    rw [List.getElem?_eq_getElem h] at this
    exact Option.some.inj this
  have h4 : decide (rowG sc g (nums n)[leastG n sc g k] = rowG sc g k) = true := h2
  rw [h3] at h4
  exact of_decide_eq_true h4
theorem nxt_iff {g : Int → Int} {j k : Int} (j0 : 0 ≤ j) (j1 : j < n) (k0 : 0 ≤ k) (k1 : k < n) : nxtG n sc g j = nxtG n sc g k ↔ rowG sc g j = rowG sc g k := by
  constructor
  · intro h
    have h : leastG n sc g j = leastG n sc g k := by unfold nxtG at h; omega
    rw [← least_row (g := g) j0 j1, ← least_row (g := g) k0 k1, h]
  · intro h
    unfold nxtG leastG
    rw [h]
/-- the same parts -/
def SameG (n : Nat) (g g' : Int → Int) : Prop := ∀ j k : Int, 0 ≤ j → j < n → 0 ≤ k → k < n → (g j = g k ↔ g' j = g' k)
theorem finer {g : Int → Int} {j k : Int} (j0 : 0 ≤ j) (j1 : j < n) (k0 : 0 ≤ k) (k1 : k < n) (h : nxtG n sc g j = nxtG n sc g k) : g j = g k := congrArg Prod.fst ((nxt_iff j0 j1 k0 k1).mp h)
/-- first of its like -/
def repG (g : Int → Int) (k : Int) : Prop := ∀ j : Int, 0 ≤ j → j < k → g j ≠ g k
open Classical in
noncomputable def cntG (n : Nat) (g : Int → Int) : Nat := ((nums n).filter fun k => decide (repG g k)).length
theorem filter_less {α : Type} {p q : α → Bool} : ∀ (l : List α), (∀ a ∈ l, p a = true → q a = true) → (l.filter p).length ≤ (l.filter q).length
  | [], _ => by simp
  | a :: l, h => by
    have ih := filter_less l fun b hb => h b (List.mem_cons_of_mem _ hb)
    have h1 := h a List.mem_cons_self
    rw [List.filter_cons, List.filter_cons]
    cases hp : p a <;> cases hq : q a
    · exact ih
    · simp; omega
    · rw [h1 hp] at hq; cases hq
    · simp; omega
theorem filter_more {α : Type} {p q : α → Bool} : ∀ (l : List α), (∀ a ∈ l, p a = true → q a = true) → (∃ a ∈ l, q a = true ∧ p a = false) → (l.filter p).length < (l.filter q).length
  | [], _, ⟨_, h, _⟩ => by cases h
  | a :: l, h, ⟨b, hb, h2, h3⟩ => by
    have hl := filter_less l fun b hb => h b (List.mem_cons_of_mem _ hb)
    have h1 := h a List.mem_cons_self
    rw [List.filter_cons, List.filter_cons]
    rcases List.mem_cons.mp hb with rfl | hb
    · rw [h2, h3]
      simp
      omega
    · have ih := filter_more l (fun b hb => h b (List.mem_cons_of_mem _ hb)) ⟨b, hb, h2, h3⟩
      cases hp : p a <;> cases hq : q a
      · exact ih
      · simp; omega
      · rw [h1 hp] at hq; cases hq
      · simp; omega
theorem least_like (g : Int → Int) : ∀ (t : Nat) (k : Int), 0 ≤ k → k < t → ∃ r : Int, 0 ≤ r ∧ r ≤ k ∧ g r = g k ∧ repG g r
  | 0, k, h0, h1 => by omega
  | t + 1, k, h0, h1 => by
    by_cases h : ∃ j : Int, 0 ≤ j ∧ j < k ∧ g j = g k
    · obtain ⟨j, j0, j1, j2⟩ := h
      obtain ⟨r, r0, r1, r2, r3⟩ := least_like g t j j0 (by omega)
      exact ⟨r, r0, by omega, r2.trans j2, r3⟩
    · exact ⟨k, h0, Int.le_refl _, rfl, fun j j0 j1 e => h ⟨j, j0, j1, e⟩⟩
open Classical in
theorem grow {g : Int → Int} (h : ¬ SameG n g (nxtG n sc g)) : cntG n g < cntG n (nxtG n sc g) := by
  have hex : ∃ j k : Int, (0 ≤ j ∧ j < n) ∧ (0 ≤ k ∧ k < n) ∧ g j = g k ∧ nxtG n sc g j ≠ nxtG n sc g k := by
    apply Classical.byContradiction
    intro hn
    refine h fun j k j0 j1 k0 k1 => ⟨fun e => ?_, finer j0 j1 k0 k1⟩
    apply Classical.byContradiction
    intro z
    exact hn ⟨j, k, ⟨j0, j1⟩, ⟨k0, k1⟩, e, z⟩
  obtain ⟨j, k, ⟨j0, j1⟩, ⟨k0, k1⟩, e, hne⟩ := hex
  obtain ⟨r, r0, r1, r2, r3⟩ := least_like g n k k0 k1
  obtain ⟨z, z0, z1, zk, zn⟩ : ∃ z : Int, 0 ≤ z ∧ z < n ∧ g z = g k ∧ nxtG n sc g z ≠ nxtG n sc g r := by
    by_cases hj : nxtG n sc g j = nxtG n sc g r
    · exact ⟨k, k0, k1, rfl, fun hk => hne (hj.trans hk.symm)⟩
    · exact ⟨j, j0, j1, e, hj⟩
  obtain ⟨w, w0, w1, w2, w3⟩ := least_like (nxtG n sc g) n z z0 z1
  have hgw : g w = g k := (finer w0 (by omega) z0 z1 w2).trans zk
  have hwr : w ≠ r := fun hh => zn (by rw [← w2, hh])
  have hrw : r < w := by
    apply Classical.byContradiction
    intro hh
    exact r3 w w0 (by omega) (hgw.trans r2.symm)
  unfold cntG
  refine filter_more _ (fun a ha hp => decide_eq_true fun b b0 b1 hb => ?_) ⟨w, mem_nums.mpr ⟨w0, by omega⟩, decide_eq_true w3, decide_eq_false fun hh => hh r r0 hrw (r2.trans hgw.symm)⟩
  obtain ⟨a0, a1⟩ := mem_nums.mp ha
  exact (of_decide_eq_true hp) b b0 b1 (finer b0 (by omega) a0 a1 hb)
end
end DL

set_option maxHeartbeats 1000000

set_option maxHeartbeats 1000000
namespace DL
open PySem PySem.Spec PyProof.Rows L2
theorem Pth.into {sc : Int → List Int} {ok : Int → Prop} {a b : Int} (h : Pth sc ok a b) : ∃ y, (y = a ∨ ok y) ∧ b ∈ sc y := by
  induction h with
  | one h1 _ => exact ⟨_, .inl rfl, h1⟩
  | step h1 h2 _ ih =>
    obtain ⟨y, hy, hb⟩ := ih
    rcases hy with rfl | hy
    · exact ⟨_, .inr h2, hb⟩
    · exact ⟨y, .inr hy, hb⟩
end DL

set_option maxHeartbeats 1000000

set_option maxHeartbeats 1000000

set_option maxHeartbeats 1000000

set_option maxHeartbeats 1000000

set_option maxHeartbeats 1000000
namespace DL
open PySem PySem.Spec PyProof.Rows L2
structure RowsW (k N : Nat) (ws : List Row) : Prop where
  n0 : 1 ≤ ws.length
  n1 : ws.length ≤ N
  ok : ∀ r ∈ ws, RowOk k ws.length r
theorem RowsOk.w {k : Nat} {rs : List Row} (h : RowsOk k rs) : RowsW k 6 rs := ⟨h.n0, h.n1, h.ok⟩
end DL

set_option maxHeartbeats 1000000

set_option maxHeartbeats 1000000

set_option maxHeartbeats 1000000

set_option maxHeartbeats 1000000

set_option maxHeartbeats 1000000
namespace DL
open PySem PySem.Spec PyProof.Rows L2
/-- the first letters of a run -/
def pre (α : Nat → Nat) (i : Nat) : List Nat := (List.range i).map α
end DL

set_option maxHeartbeats 1000000

set_option maxHeartbeats 1000000

set_option maxHeartbeats 1000000
namespace DL
open PySem PySem.Spec PyProof.Rows L2
structure GoodT (x : Str) (rs : List Row) (t : Nat) (p : Str × Int) : Prop where
  wd : Wd x p.1
  to : wE x (scM rs) 0 p.1.cps.toList = p.2
  lo : 0 ≤ p.2 ∧ p.2 < rs.length
  few : p.1.length ≤ t
end DL

set_option maxHeartbeats 1000000

set_option maxHeartbeats 1000000
namespace DL
open PySem PySem.Spec PyProof.Rows L2
section
variable {x : Str} (hx : x ∈ sgs) {rs : List Row} (hr : RowsOk x.length rs)
include hx hr
theorem GoodT.mono {t t' : Nat} {q : Str × Int} (h : GoodT x rs t q) (ht : t ≤ t') : GoodT x rs t' q := ⟨h.wd, h.to, h.lo, by have := h.few; omega⟩
end
end DL

set_option maxHeartbeats 1000000
namespace DL
open PySem PySem.Spec PyProof.Rows L2
abbrev Wp := Str × Int
def chlP (x : Str) (sc : Int → List Int) (p : Wp) : List Wp := (x.cps.toList.zip (sc p.2)).map fun q => (p.1 ++ one q.1, q.2)
/-- pairs that grow from a first one -/
inductive Grown (x : Str) (sc : Int → List Int) (ins : List Int) (bg : Int) : List Wp → Prop
  | nil : Grown x sc ins bg [("", bg)]
  | snoc {P : List Wp} {p q : Wp} : Grown x sc ins bg P → p ∈ P → q ∈ chlP x sc p → q.2 ∈ ins → q.2 ∉ P.map (·.2) → Grown x sc ins bg (P ++ [q])
section
variable {x : Str} {sc : Int → List Int} {ins : List Int} {bg : Int}
theorem Grown.nd {P : List Wp} (g : Grown x sc ins bg P) : (P.map (·.2)).Nodup := by
  induction g with
  | nil => simp
  | @snoc P p q g hp hq hi hn ih =>
    rw [List.map_append, List.nodup_append]
    refine ⟨ih, by simp, fun a ha c hc => ?_⟩
    have : c = q.2 := by simpa using hc
    rw [this]
    intro e
    exact hn (by rw [← e]; exact ha)
theorem Grown.ne {P : List Wp} (g : Grown x sc ins bg P) : 0 < P.length := by
  induction g with
  | nil => simp
  | snoc g hp hq hi hn ih => simp
theorem chl_len {p q : Wp} (h : q ∈ chlP x sc p) : q.1.length = p.1.length + 1 := by
  obtain ⟨z, _, rfl⟩ := List.mem_map.mp h
  show (p.1 ++ one z.1).length = _
  rw [app_len]
  rfl
theorem Grown.len {P : List Wp} (g : Grown x sc ins bg P) : ∀ p ∈ P, p.1.length ≤ P.length := by
  induction g with
  | nil => intro p hp; have : p = (("" : Str), bg) := by simpa using hp
           rw [this]; exact Nat.zero_le _
  | @snoc P p q g hp hq hi hn ih =>
    intro z hz
    rw [List.length_append, List.length_singleton]
    rcases List.mem_append.mp hz with h | h
    · have := ih z h; omega
    · have : z = q := by simpa using h
      rw [this, chl_len hq]
      have := ih p hp
      omega
end
end DL

set_option maxHeartbeats 1000000

set_option maxHeartbeats 1000000

set_option maxHeartbeats 1000000

set_option maxHeartbeats 1000000

set_option maxHeartbeats 1000000

set_option maxHeartbeats 1000000

set_option maxHeartbeats 1000000

set_option maxHeartbeats 1000000

set_option maxHeartbeats 1000000

set_option maxHeartbeats 1000000

set_option maxHeartbeats 1000000

set_option maxHeartbeats 1000000

set_option maxHeartbeats 1000000

set_option maxHeartbeats 1000000

set_option maxHeartbeats 1000000

set_option maxHeartbeats 1000000

set_option maxHeartbeats 1000000

set_option maxHeartbeats 1000000

set_option maxHeartbeats 1000000

set_option maxHeartbeats 1000000

set_option maxHeartbeats 1000000

set_option maxHeartbeats 1000000

set_option maxHeartbeats 1000000

set_option maxHeartbeats 1000000

set_option maxHeartbeats 1000000

set_option maxHeartbeats 1000000

set_option maxHeartbeats 1000000

set_option maxHeartbeats 1000000

set_option maxHeartbeats 1000000
namespace DL
open PySem PySem.Spec PyProof.Rows L2
def dg (i : Int) : List Nat := [48 + i.toNat]
end DL

set_option maxHeartbeats 1000000

set_option maxHeartbeats 1000000

set_option maxHeartbeats 1000000

set_option maxHeartbeats 1000000
namespace DL
open PySem PySem.Spec PyProof.Rows L2
structure LeastOk (sc : Int → List Int) (col : Int → Int) (ns : List Int) (f : Int → Int) : Prop where
  bd : ∀ k ∈ ns, 0 ≤ f k ∧ f k ≤ ns.length
  ev : ∀ S : Int → Prop, (∃ a, S a) → SC sc S → (∀ a, S a → a ∈ ns) → ∀ T T', TopIs col S T → TopIs f S T' → T' % 2 = T % 2
  mn : ∀ c : Int → Int, (∀ S : Int → Prop, (∃ a, S a) → SC sc S → (∀ a, S a → a ∈ ns) → ∀ T T', TopIs col S T → TopIs c S T' → 0 ≤ T' ∧ T' % 2 = T % 2) → ∀ B, 0 ≤ B → (∀ k ∈ ns, c k ≤ B) → ∀ k ∈ ns, f k ≤ B
theorem TopIs.fcongr {f g : Int → Int} {S : Int → Prop} {T : Int} (h : TopIs f S T) (e : ∀ a, S a → f a = g a) : TopIs g S T := by
  obtain ⟨⟨a, a1, a2⟩, b⟩ := h
  exact ⟨⟨a, a1, by rw [← e a a1]; exact a2⟩, fun x hx => by rw [← e x hx]; exact b x hx⟩
theorem LeastOk.congr {sc : Int → List Int} {col : Int → Int} {ns : List Int} {f g : Int → Int} (h : LeastOk sc col ns f) (e : ∀ k ∈ ns, f k = g k) : LeastOk sc col ns g :=
  ⟨fun k hk => by rw [← e k hk]; exact h.bd k hk, fun S h0 hS hsub T T' t t' => h.ev S h0 hS hsub T T' t (t'.fcongr fun a ha => (e a (hsub a ha)).symm), fun c hc B h0 hB k hk => by rw [← e k hk]; exact h.mn c hc B h0 hB k hk⟩
end DL

set_option maxHeartbeats 1000000

set_option maxHeartbeats 1000000

set_option maxHeartbeats 1000000

set_option maxHeartbeats 1000000
namespace DL
open PySem PySem.Spec PyProof.Rows L2
theorem top_ex {n : Nat} {S : Int → Prop} (h0 : ∃ a, S a) (hn : ∀ a, S a → a ∈ nums n) (c : Int → Int) : ∃ T, TopIs c S T := by
  classical
  obtain ⟨a, ha⟩ := h0
  have hm : ∀ k, k ∈ (nums n).filter (fun k => decide (S k)) ↔ S k := fun k => by
    rw [List.mem_filter, decide_eq_true_eq]
    exact ⟨fun h => h.2, fun h => ⟨hn k h, h⟩⟩
  have hne : (nums n).filter (fun k => decide (S k)) ≠ [] := fun e => by
    have := (hm a).mpr ha
    rw [e] at this
    cases this
  exact ⟨_, (top_is (col := c) hne).congr hm⟩
end DL

set_option maxHeartbeats 1000000

set_option maxHeartbeats 1000000

set_option maxHeartbeats 1000000

set_option maxHeartbeats 1000000

set_option maxHeartbeats 1000000
namespace DL
open PySem PySem.Spec PyProof.Rows L2
/-- a loop of reached states -/
structure LoopR (rs : List Row) (S : Int → Prop) : Prop where
  ne : ∃ a, S a
  sc : SC (scM rs) S
  re : ∀ a, S a → Reach rs a
inductive ChN (rs : List Row) : (Int → Prop) → Int → Prop
  | base {S : Int → Prop} {T : Int} : LoopR rs S → TopIs (colour rs) S T → ChN rs S (T % 2)
  | sub {S L : Int → Prop} {T m : Int} : LoopR rs S → TopIs (colour rs) S T → ChN rs L m → (∀ a, L a → S a) → ChN rs S (if (m + T) % 2 = 1 then m + 1 else m)
theorem ChN.loop {rs : List Row} {S : Int → Prop} {m : Int} (h : ChN rs S m) : LoopR rs S := by
  cases h with
  | base h _ => exact h
  | sub h _ _ _ => exact h
theorem ChN.par {rs : List Row} {S : Int → Prop} {m : Int} (h : ChN rs S m) : 0 ≤ m ∧ ∃ T, TopIs (colour rs) S T ∧ m % 2 = T % 2 := by
  induction h with
  | base h t => exact ⟨by omega, _, t, by omega⟩
  | sub h t _ _ ih =>
    refine ⟨?_, _, t, ?_⟩
    · split <;> omega
    · split <;> omega
section
variable {k : Nat} {rs : List Row} (hr : RowsOk k rs) (hk : k ≤ 1000)
include hr hk
theorem reach_n {a : Int} (h : Reach rs a) : a ∈ nums rs.length := mem_nums.mpr (reach_in hr hk h)
theorem ChN.up {S S' : Int → Prop} {m : Int} (h : ChN rs S m) (h' : LoopR rs S') (hs : ∀ a, S a → S' a) : ∃ m', ChN rs S' m' ∧ m ≤ m' := by
  obtain ⟨T, t⟩ := top_ex h'.ne (fun a ha => reach_n hr hk (h'.re a ha)) (colour rs)
  refine ⟨_, .sub h' t h hs, ?_⟩
  split <;> omega
end
end DL

set_option maxHeartbeats 1000000

set_option maxHeartbeats 1000000

set_option maxHeartbeats 1000000

set_option maxHeartbeats 1000000

set_option maxHeartbeats 1000000

set_option maxHeartbeats 1000000

set_option maxHeartbeats 1000000

set_option maxHeartbeats 1000000

set_option maxHeartbeats 1000000

set_option maxHeartbeats 1000000

set_option maxHeartbeats 1000000

set_option maxHeartbeats 1000000

set_option maxHeartbeats 1000000

set_option maxHeartbeats 1000000

set_option maxHeartbeats 1000000

set_option maxHeartbeats 1000000

set_option maxHeartbeats 1000000

set_option maxHeartbeats 1000000

set_option maxHeartbeats 1000000

set_option maxHeartbeats 1000000

set_option maxHeartbeats 4000000
namespace DL
open PySem PySem.Spec PyProof.Rows L2
abbrev LM : Addr := 294
def rareT : Str := "machine ab\nstate 1 0 1\nstate 2 0 2\nstate 1 2 2"
def calmT : Str := "machine ab\nstate 0 0 1\nstate 1 1 1"
def safeT : Str := "machine ab\nstate 0 0 1\nstate 0 0 2\nstate 1 2 2"
def mildT : Str := "machine ab\nstate 1 0 1\nstate 2 0 2\nstate 0 2 2"
def agT : Str := "machine ab\nstate 0 0 1\nstate 1 0 0"
def bk0 : List D × D := ([.str "holds", .str rareT, .tup [.str "again"]], .tup [])
def bk1 : List D × D := ([.str "fails", .str rareT, .tup [.str "guard"]], .tup [])
def bk2 : List D × D := ([.str "holds", .str rareT, .tup [.str "in", .tup [.str "", .str "ab"]]], .tup [])
def bk3 : List D × D := ([.str "fails", .str rareT, .tup [.str "bad", .str "ab"]], .tup [])
def bk4 : List D × D := ([.str "holds", .str rareT, .tup [.str "depth", .int 2]], .tup [])
def bk5 : List D × D := ([.str "holds", .str safeT, .tup [.str "like", .str safeT]], .tup [])
def bk6 : List D × D := ([.str "same", .str rareT, .str rareT], .tup [])
def bk7 : List D × D := ([.str "inside", .str rareT, .str safeT], .tup [])
def bk8 : List D × D := ([.str "step", .str safeT, .str mildT], .tup [])
def bk9 : List D × D := ([.str "parted", .str rareT, .str calmT], .tup [.str "", .str "a"])
def bk10 : List D × D := ([.str "breaks", .str calmT, .str rareT], .tup [.str "", .str "a"])
def bk11 : List D × D := ([.str "jams", .str calmT, .str rareT], .str "")
def bk12 : List D × D := ([.str "open", .str rareT, .str "ab"], .tup [.tup [.str "ab", .str "ab"], .tup [.str "abb", .str "a"]])
def bk13 : List D × D := ([.str "notstays", .str rareT], .tup [.str "", .str "a", .str "ba"])
def bk14 : List D × D := ([.str "notagain", .str agT], .tup [.str "", .str "a", .str "ba"])
def bankD : List (List D × D) := [bk0, bk1, bk2, bk3, bk4, bk5, bk6, bk7, bk8, bk9, bk10, bk11, bk12, bk13, bk14]
def bankV : D := .lst (bankD.map fun p => .tup [.tup p.1, p.2])
end DL

set_option maxHeartbeats 4000000

set_option maxHeartbeats 4000000

set_option maxHeartbeats 4000000

set_option maxHeartbeats 4000000

set_option maxHeartbeats 1000000

set_option maxHeartbeats 1000000

set_option maxHeartbeats 4000000

set_option maxHeartbeats 4000000

set_option maxHeartbeats 4000000

set_option maxHeartbeats 4000000

set_option maxHeartbeats 4000000

set_option maxHeartbeats 4000000
namespace DL
open PySem PySem.Spec PyProof.Rows L2
def zg_1 (M : Addr) : SF := (sIf (bB (e2 neF (eLc (aAny (eV 1)) [10] (gN 10) (bB (e2 notB2 (eCall (F_accepts M) (aCons (eIx (eV 10) (eC (.int 0))) (aCons (eIx (eV 10) (eC (.int 1))) aNil))) (eC (.bl true)))) (eV 10)) (eLst aNil))) (sRet (eC (.bl false))) sNil)
def zg_2 (M : Addr) : SF := (sAsg (eIx (eIx (eIx (eV 1) (eC (.int 0))) (eC (.int 0))) (eC (.int 1))) (gN 2))
abbrev v56 (o1 o2 : Option D) (s3 : Option SD) (o4 o5 o6 o7 o8 o9 : Option D) : Env := [some (.sh .bag), o1.map SD.sh, o2.map SD.sh, s3, o4.map SD.sh, o5.map SD.sh, o6.map SD.sh, o7.map SD.sh, o8.map SD.sh, o9.map SD.sh, none]
theorem g1 (b : Bag) : zg_1 LM (v56 (some bankV) none none none none none none none none) b = .nx (v56 (some bankV) none none none none none none none none) b := by kernel_rfl
theorem g2 (b : Bag) : zg_2 LM (v56 (some bankV) none none none none none none none none) b = .nx (v56 (some bankV) (some (.str rareT)) none none none none none none none) b := by kernel_rfl
end DL

set_option maxHeartbeats 0
open PySem PySem.W PySem.Calls PyProof.Rows
end
set_option Elab.async false
set_option linter.all false
set_option maxRecDepth 100000
set_option maxHeartbeats 4000000
namespace DL
open PySem PySem.Spec PyProof.Rows L2



section
variable {K : PySem.W.Frag} {ba : Option Addr} {S S' : Hp}
theorem DRs.app : ∀ {vs ws : List V} {ds es : List D}, DRs K ba S vs ds → DRs K ba S ws es → DRs K ba S (vs ++ ws) (ds ++ es)
  | _, _, [], _, h, h' => by cases h; exact h'
  | _, _, d :: ds, _, h, h' => by
    cases h with
    | cons h1 h2 => exact .cons h1 (DRs.app h2 h')
end

theorem ODR.dr {K : PySem.W.Frag} {ba : Option Addr} {S : Hp} {u : HO} {d : D} {p : Addr} {o : Obj} (h : ODR K ba S u d) (e : S p = some (lockU o u)) : DR K ba S (.ref p) d := by
  cases h with
  | lst r => exact .lst e r
  | ins h r => exact .ins e h r
  | dct h r => exact .dct e h r
  | dtp h r => exact .dtp e h r
theorem upd_at {H : Hp} {p : Addr} {u : HO} (h : H p = some u) : upd H p u = H := by
  funext b
  by_cases e : b = p
  · subst e; rw [upd_same, h]
  · rw [upd_ne e]

section
variable {K : PySem.W.Frag} {ba : Option Addr} {S S' H H' : Hp} {σ : L2.St} {ρ : Env} {O : List Addr}
/-- an owned slot: its list; writing it -/
theorem Slots.getOw : ∀ {σ : L2.St} {ρ : Env} {O : List Addr} {i : Nat} {d : D}, Slots K ba S H σ ρ O → ρ[i]? = some (some (.ow d)) → ∃ p u, σ[i]? = some (some (.ref p)) ∧ H p = some u ∧ ODR K ba S u d ∧ p ∈ O
  | _, _, _, _, _, .nil, e => by simp at e
  | _, _, _, 0, _, .no _, e => by simp at e
  | _, _, _, 0, _, .sh r _, e => by simp at e
  | _, _, _, 0, _, .ow h1 h2 _, e => by
    simp at e
    subst e
    exact ⟨_, _, rfl, h1, h2, List.mem_cons_self⟩
  | _, _, _, i + 1, _, .no s, e => by
    obtain ⟨p, vs, a, h1, h2, h3⟩ := Slots.getOw (i := i) s (by simpa using e)
    exact ⟨p, vs, by simpa using a, h1, h2, h3⟩
  | _, _, _, i + 1, _, .sh _ s, e => by
    obtain ⟨p, vs, a, h1, h2, h3⟩ := Slots.getOw (i := i) s (by simpa using e)
    exact ⟨p, vs, by simpa using a, h1, h2, h3⟩
  | _, _, _, i + 1, _, .ow _ _ s, e => by
    obtain ⟨p, vs, a, h1, h2, h3⟩ := Slots.getOw (i := i) s (by simpa using e)
    exact ⟨p, vs, by simpa using a, h1, h2, List.mem_cons_of_mem _ h3⟩
/-- a slot is given a shared value -/
theorem Slots.setSh {v : V} {d : D} (r : DR K ba S v d) : ∀ {σ : L2.St} {ρ : Env} {O : List Addr} {i : Nat}, Slots K ba S H σ ρ O → ∃ O', Slots K ba S H (σ.set i (some v)) (ρ.set i (some (.sh d))) O' ∧ (O'.Sublist O)
  | _, _, _, _, .nil => ⟨[], .nil, .refl _⟩
  | _, _, _, 0, .no s => ⟨_, .sh r s, .refl _⟩
  | _, _, _, 0, .sh _ s => ⟨_, .sh r s, .refl _⟩
  | _, _, _, 0, .ow _ _ s => ⟨_, .sh r s, List.sublist_cons_self _ _⟩
  | _, _, _, i + 1, .no s => by
    obtain ⟨O', h, l⟩ := Slots.setSh r (i := i) s
    exact ⟨O', .no h, l⟩
  | _, _, _, i + 1, .sh q s => by
    obtain ⟨O', h, l⟩ := Slots.setSh r (i := i) s
    exact ⟨O', .sh q h, l⟩
  | _, _, _, i + 1, .ow h1 h2 s => by
    obtain ⟨O', h, l⟩ := Slots.setSh r (i := i) s
    exact ⟨_, .ow h1 h2 h, l.cons_cons _⟩
/-- a slot is given an owned list -/
theorem Slots.setOw {p : Addr} {u : HO} {d : D} (hp : H p = some u) (r : ODR K ba S u d) : ∀ {σ : L2.St} {ρ : Env} {O : List Addr} {i : Nat}, Slots K ba S H σ ρ O → p ∉ O → O.Nodup → ∃ O', Slots K ba S H (σ.set i (some (.ref p))) (ρ.set i (some (.ow d))) O' ∧ O'.Nodup ∧ (∀ q ∈ O', q = p ∨ q ∈ O)
  | _, _, _, _, .nil, _, _ => ⟨[], .nil, List.nodup_nil, fun q hq => by cases hq⟩
  | _, _, O, 0, .no s, n, nd => ⟨_, .ow hp r s, List.nodup_cons.mpr ⟨n, nd⟩, fun q hq => by simpa using hq⟩
  | _, _, O, 0, .sh _ s, n, nd => ⟨_, .ow hp r s, List.nodup_cons.mpr ⟨n, nd⟩, fun q hq => by simpa using hq⟩
  | _, _, _ :: O, 0, .ow _ _ s, n, nd => ⟨_, .ow hp r s, List.nodup_cons.mpr ⟨fun z => n (List.mem_cons_of_mem _ z), (List.nodup_cons.mp nd).2⟩, fun q hq => by
    rcases List.mem_cons.mp hq with z | z
    · exact .inl z
    · exact .inr (List.mem_cons_of_mem _ z)⟩
  | _, _, _, i + 1, .no s, n, nd => by
    obtain ⟨O', h, l, m⟩ := Slots.setOw hp r (i := i) s n nd
    exact ⟨O', .no h, l, m⟩
  | _, _, _, i + 1, .sh q s, n, nd => by
    obtain ⟨O', h, l, m⟩ := Slots.setOw hp r (i := i) s n nd
    exact ⟨O', .sh q h, l, m⟩
  | _, _, _, i + 1, .ow h1 h2 s, n, nd => by
    obtain ⟨O', h, l, m⟩ := Slots.setOw hp r (i := i) s (fun z => n (List.mem_cons_of_mem _ z)) (List.nodup_cons.mp nd).2
    refine ⟨_, .ow h1 h2 h, List.nodup_cons.mpr ⟨fun z => ?_, l⟩, fun q hq => ?_⟩
    · rcases m _ z with e | e
      · exact n (by rw [e]; exact List.mem_cons_self)
      · exact (List.nodup_cons.mp nd).1 e
    · rcases List.mem_cons.mp hq with e | e
      · exact .inr (by rw [e]; exact List.mem_cons_self)
      · rcases m _ e with z | z
        · exact .inl z
        · exact .inr (List.mem_cons_of_mem _ z)
/-- the owned list of a slot is written: the others stand -/
theorem Slots.write {p : Addr} {u' : HO} {d' : D} (r : ODR K ba S u' d') : ∀ {σ : L2.St} {ρ : Env} {O : List Addr} {i : Nat}, Slots K ba S H σ ρ O → O.Nodup → σ[i]? = some (some (.ref p)) → p ∈ O → (∃ ds, ρ[i]? = some (some (.ow ds))) → Slots K ba S (upd H p u') σ (ρ.set i (some (.ow d'))) O
  | _, _, _, _, .nil, _, e, _, _ => by simp at e
  | _, _, _, 0, .no _, _, _, _, e => by obtain ⟨_, e⟩ := e; simp at e
  | _, _, _, 0, .sh _ _, _, _, _, e => by obtain ⟨_, e⟩ := e; simp at e
  | _, _, _, 0, .ow h1 h2 s, nd, e, _, _ => by
    simp at e
    subst e
    refine .ow upd_same r (s.mono (Same.refl _) fun q hq vs z => ?_)
    rw [upd_ne (fun y => (List.nodup_cons.mp nd).1 (by rw [← y]; exact hq))]
    exact z
  | _, _, _, i + 1, .no s, nd, e, hp, o => .no (Slots.write r (i := i) s nd (by simpa using e) hp (by simpa using o))
  | _, _, _, i + 1, .sh q s, nd, e, hp, o => .sh q (Slots.write r (i := i) s nd (by simpa using e) hp (by simpa using o))
  | _, _, _, i + 1, .ow (p := p') h1 h2 s, nd, e, hp, o => by
    have o' : ∃ ds, _ := o
    have e' := e
    simp only [List.getElem?_cons_succ] at e' o'
    obtain ⟨ds, o'⟩ := o'
    obtain ⟨q, vs, a, _, _, hq⟩ := s.getOw o'
    rw [e'] at a
    cases a
    have ne : p' ≠ p := fun z => (List.nodup_cons.mp nd).1 (by rw [z]; exact hq)
    refine .ow ?_ h2 (Slots.write r (i := i) s (List.nodup_cons.mp nd).2 e' hq ⟨ds, o'⟩)
    rw [upd_ne ne]
    exact h1
end
end DL

set_option maxHeartbeats 4000000
namespace DL
open PySem PySem.Spec PyProof.Rows L2
section
variable {K : PySem.W.Frag} {C : Cq} {S S' H H' : Hp} {σ : L2.St} {ρ : Env} {b b' : Bag} {p : Addr} {u : HO}
theorem Core.alloc (o : Core C S b H) (hp : H p = none) : Core C (upd S p u) b (upd H p u) := by
  refine ⟨fun a x e => ?_, fun a x e hb => ?_, fun a e => ?_, fun a x e => ?_⟩
  · by_cases h : a = p
    · subst h; rw [upd_same] at e ⊢; exact e
    · rw [upd_ne h] at e ⊢; exact o.sub a x e
  · have h := o.fr a x e hb
    rw [upd_ne (ne_of_none h hp)]; exact h
  · obtain ⟨h1, h2⟩ := o.bag a e
    have n := ne_of_none h1 hp
    exact ⟨by rw [upd_ne n]; exact h1, by rw [upd_ne n]; exact h2⟩
  · by_cases h : a = p
    · subst h; exact .inr (.inl (o.h0 hp))
    · rw [upd_ne h] at e; exact o.new a x e
/-- an object that is not shared is written -/
theorem Core.write (o : Core C S b H) (h1 : S p = none) (h2 : C.H0 p = none) (h3 : C.ba ≠ some p) : Core C S b (upd H p u) := by
  refine ⟨fun a x e => ?_, fun a x e hb => ?_, fun a e => ?_, o.new⟩
  · rw [upd_ne (ne_of_none e h1)]; exact o.sub a x e
  · rw [upd_ne (ne_of_none e h2)]; exact o.fr a x e hb
  · obtain ⟨q1, q2⟩ := o.bag a e
    exact ⟨by rw [upd_ne (fun z => h3 (by rw [← z]; exact e))]; exact q1, q2⟩
theorem Core.shareL {u' : HO} (o : Core C S b H) (h1 : S p = none) (h2 : C.H0 p = none) (h3 : C.ba ≠ some p) : Core C (upd S p u') b (upd H p u') := by
  refine ⟨fun a x e => ?_, fun a x e hb => ?_, fun a e => ?_, fun a x e => ?_⟩
  · by_cases z : a = p
    · subst z; rw [upd_same] at e ⊢; exact e
    · rw [upd_ne z] at e ⊢; exact o.sub a x e
  · rw [upd_ne (ne_of_none e h2)]; exact o.fr a x e hb
  · obtain ⟨q1, q2⟩ := o.bag a e
    have n : a ≠ p := fun z => h3 (by rw [← z]; exact e)
    exact ⟨by rw [upd_ne n]; exact q1, by rw [upd_ne n]; exact q2⟩
  · by_cases z : a = p
    · subst z; exact .inr (.inl h2)
    · rw [upd_ne z] at e; exact o.new a x e
theorem Core.share (o : Core C S b H) (h : H p = some u) (h1 : S p = none) (h2 : C.H0 p = none) (h3 : C.ba ≠ some p) : Core C (upd S p u) b H := by
  have := o.shareL (u' := u) h1 h2 h3
  rw [upd_at h] at this
  exact this
theorem OkS.alloc (o : OkS K C S ρ b σ H) (hp : H p = none) : OkS K C (upd S p u) ρ b σ (upd H p u) := by
  obtain ⟨c, O, s, w⟩ := o
  have ne : ∀ q ∈ O, q ≠ p := fun q hq => by
    obtain ⟨vs, h⟩ := s.there q hq
    exact ne_of_none h hp
  refine ⟨c.alloc hp, O, s.mono (same_upd (c.sn hp)) (fun q hq _ h => by rw [upd_ne (ne q hq)]; exact h), w.nd, fun q hq => ?_⟩
  rw [upd_ne (ne q hq)]
  exact w.al q hq
theorem OkS.setSh {i : Nat} {v : V} {d : D} (o : OkS K C S ρ b σ H) (r : DR K C.ba S v d) : OkS K C S (ρ.set i (some (.sh d))) b (σ.set i (some v)) H := by
  obtain ⟨c, O, s, w⟩ := o
  obtain ⟨O', s', l⟩ := s.setSh r (i := i)
  exact ⟨c, O', s', w.sub l⟩
theorem Slots.setNo {ba : Option Addr} : ∀ {σ : L2.St} {ρ : Env} {O : List Addr} {i : Nat}, Slots K ba S H σ ρ O → ∃ O', Slots K ba S H (σ.set i none) (ρ.set i none) O' ∧ (O'.Sublist O)
  | _, _, _, _, .nil => ⟨[], .nil, .refl _⟩
  | _, _, _, 0, .no s => ⟨_, .no s, .refl _⟩
  | _, _, _, 0, .sh _ s => ⟨_, .no s, .refl _⟩
  | _, _, _, 0, .ow _ _ s => ⟨_, .no s, List.sublist_cons_self _ _⟩
  | _, _, _, i + 1, .no s => by
    obtain ⟨O', h, l⟩ := Slots.setNo (i := i) s
    exact ⟨O', .no h, l⟩
  | _, _, _, i + 1, .sh q s => by
    obtain ⟨O', h, l⟩ := Slots.setNo (i := i) s
    exact ⟨O', .sh q h, l⟩
  | _, _, _, i + 1, .ow h1 h2 s => by
    obtain ⟨O', h, l⟩ := Slots.setNo (i := i) s
    exact ⟨_, .ow h1 h2 h, l.cons_cons _⟩
theorem OkS.setNo {i : Nat} (o : OkS K C S ρ b σ H) : OkS K C S (ρ.set i none) b (σ.set i none) H := by
  obtain ⟨c, O, s, w⟩ := o
  obtain ⟨O', s', l⟩ := s.setNo (i := i)
  exact ⟨c, O', s', w.sub l⟩
theorem OkS.wipe (o : OkS K C S ρ b σ H) : ∀ vs : List Nat, OkS K C S (wipeE ρ vs) b (L2.wipe σ vs) H
  | [] => o
  | v :: vs => (OkS.wipe o vs).setNo
theorem OkF.shareL {u' : HO} (o : OkF K C S ρ b σ H p u) : OkS K C (upd S p u') ρ b σ (upd H p u') := by
  obtain ⟨c, h1, h2, h3, h4, O, s, w, n⟩ := o
  refine ⟨c.shareL h2 h3 h4, O, s.mono (same_upd h2) (fun q hq vs h => by rw [upd_ne (fun z => n (by rw [← z]; exact hq))]; exact h), w.nd, fun q hq => ?_⟩
  rw [upd_ne (fun z => n (by rw [← z]; exact hq))]
  exact w.al q hq
theorem OkF.setOw {d : D} {i : Nat} (o : OkF K C S ρ b σ H p u) (r : ODR K C.ba S u d) : OkS K C S (ρ.set i (some (.ow d))) b (σ.set i (some (.ref p))) H := by
  obtain ⟨c, h1, h2, h3, h4, O, s, w, n⟩ := o
  obtain ⟨O', s', nd, m⟩ := s.setOw h1 r (i := i) n w.nd
  refine ⟨c, O', s', nd, fun q hq => ?_⟩
  rcases m q hq with e | e
  · subst e; exact ⟨h2, h3, h4⟩
  · exact w.al q e
/-- an owned slot -/
theorem OkS.getOw {i : Nat} {d : D} (o : OkS K C S ρ b σ H) (e : ρ[i]? = some (some (.ow d))) :
    ∃ p u, σ[i]? = some (some (.ref p)) ∧ H p = some u ∧ ODR K C.ba S u d ∧ S p = none ∧ C.H0 p = none ∧ C.ba ≠ some p ∧
      (∀ u' d', ODR K C.ba S u' d' → OkS K C S (ρ.set i (some (.ow d'))) b σ (upd H p u')) ∧ ∀ od, OkS K C (upd S p (lockU od u)) (ρ.set i (some (.sh d))) b σ (upd H p (lockU od u)) := by
  obtain ⟨c, O, s, w⟩ := o
  obtain ⟨p, u, e1, h1, h2, hp⟩ := s.getOw e
  obtain ⟨a1, a2, a3⟩ := w.al p hp
  refine ⟨p, u, e1, h1, h2, a1, a2, a3, fun u' d' r => ⟨c.write a1 a2 a3, O, s.write r w.nd e1 hp ⟨_, e⟩, w⟩, fun od => ⟨c.shareL a1 a2 a3, ?_⟩⟩
  -- the slot's own address is owned no more
  have hl : i < σ.length := (List.getElem?_eq_some_iff.mp e1).1
  have es : σ.set i (some (.ref p)) = σ := by
    apply List.ext_getElem?
    intro j
    by_cases hj : i = j
    · subst hj; rw [List.getElem?_set_self hl, e1]
    · rw [List.getElem?_set_ne hj]
  have key : ∀ {σ : L2.St} {ρ : Env} {O : List Addr} {i : Nat} {d : D}, Slots K C.ba S H σ ρ O → O.Nodup → (∀ q ∈ O, S q = none) → ρ[i]? = some (some (.ow d)) → σ[i]? = some (some (.ref p)) → p ∈ O →
      ∃ O', Slots K C.ba (upd S p (lockU od u)) (upd H p (lockU od u)) σ (ρ.set i (some (.sh d))) O' ∧ O'.Sublist O ∧ p ∉ O' := by
    intro σ ρ O i d s
    induction s generalizing i with
    | nil => intro _ _ e; simp at e
    | no s ih =>
      intro nd al e e1 hp
      cases i with
      | zero => simp at e
      | succ i =>
        obtain ⟨O', q1, q2, q3⟩ := ih nd al (by simpa using e) (by simpa using e1) hp
        exact ⟨O', .no q1, q2, q3⟩
    | sh r s ih =>
      intro nd al e e1 hp
      cases i with
      | zero => simp at e
      | succ i =>
        obtain ⟨O', q1, q2, q3⟩ := ih nd al (by simpa using e) (by simpa using e1) hp
        exact ⟨O', .sh (r.up (same_upd a1)) q1, q2, q3⟩
    | @ow p' u' d' σ ρ O g1 g2 s ih =>
      intro nd al e e1 hp
      cases i with
      | zero =>
        simp only [List.getElem?_cons_zero, Option.some.injEq, SD.ow.injEq] at e
        simp only [List.getElem?_cons_zero, Option.some.injEq, V.ref.injEq] at e1
        subst e
        subst e1
        rw [h1] at g1
        cases g1
        refine ⟨O, .sh ((g2.up (same_upd a1)).dr upd_same) (s.mono (same_upd a1) fun q hq _ z => by rw [upd_ne (fun y => (List.nodup_cons.mp nd).1 (by rw [← y]; exact hq))]; exact z), List.sublist_cons_self _ _, (List.nodup_cons.mp nd).1⟩
      | succ i =>
        simp only [List.getElem?_cons_succ] at e e1
        obtain ⟨q, ws, f1, _, _, f2⟩ := s.getOw e
        rw [e1] at f1
        cases f1
        obtain ⟨O', q1, q2, q3⟩ := ih (List.nodup_cons.mp nd).2 (fun q hq => al q (List.mem_cons_of_mem _ hq)) e e1 f2
        have ne : p ≠ p' := fun z => (List.nodup_cons.mp nd).1 (by rw [← z]; exact f2)
        refine ⟨p' :: O', .ow (by rw [upd_ne (fun y => ne y.symm)]; exact g1) (g2.up (same_upd a1)) q1, q2.cons_cons _, fun z => ?_⟩
        rcases List.mem_cons.mp z with z | z
        · exact ne z
        · exact q3 z
  obtain ⟨O', q1, q2, q3⟩ := key s w.nd (fun q hq => (w.al q hq).1) e e1 hp
  refine ⟨O', q1, (w.sub q2).nd, fun q hq => ?_⟩
  have ne : q ≠ p := fun z => q3 (by rw [← z]; exact hq)
  rw [upd_ne ne]
  exact (w.sub q2).al q hq
/-- the bag is written -/
theorem OkS.bagW {a : Addr} (o : OkS K C S ρ b σ H) (e : C.ba = some a) : OkS K C S ρ b' σ (upd H a (.lst [.int b'.x, .int b'.y, .int b'.z])) := by
  obtain ⟨c, O, s, w⟩ := o
  obtain ⟨h1, h2⟩ := c.bag a e
  refine ⟨⟨fun q x z => ?_, fun q x z hb => ?_, fun q z => ?_, c.new⟩, O, s.mono (Same.refl _) (fun q hq vs z => ?_), w⟩
  · rw [upd_ne (ne_of_none z h2)]; exact c.sub q x z
  · rw [upd_ne (fun y => hb (by rw [y]; exact e))]; exact c.fr q x z hb
  · rw [e] at z; cases z; exact ⟨upd_same, h2⟩
  · rw [upd_ne (fun y => (w.al q hq).2.2 (by rw [y]; exact e))]; exact z
end

section
variable {K : PySem.W.Frag} {C : Cq} {W : WX} {S S1 : Hp} {ρ : Env} {σ : L2.St} {α β : Type}
theorem OutG.imp {R R' : α → Bag → Hp → Hp → Prop} {o : Out α} (h : OutG K C W S ρ σ R o) (f : ∀ a b S' H', Same S S' → OkS K C S' ρ b σ H' → R a b S' H' → R' a b S' H') : OutG K C W S ρ σ R' o := by
  cases o with
  | ok a b => exact fun S' H' e' ok => f a b S' H' e' ok (h S' H' e' ok)
  | ex c ns ds bx => exact h
  | stuck => exact h
end

/-- an expression; a test; arguments; a fresh list -/
def tD (K : PySem.W.Frag) (C : Cq) (W : WX) (F : EF) : TE := fun σ H Q => ∃ S ρ b, OkS K C S ρ b σ H ∧ OutG K C W S ρ σ (fun d _ S' H' => ∀ v, DR K C.ba S' v d → Q v H') (F ρ b)
def tDt (K : PySem.W.Frag) (C : Cq) (W : WX) (F : BF) : TT := fun σ H Q => ∃ S ρ b, OkS K C S ρ b σ H ∧ OutG K C W S ρ σ (fun k _ _ H' => Q k H') (F ρ b)
def tDA (K : PySem.W.Frag) (C : Cq) (W : WX) (F : AF) : TA := fun σ H Q => ∃ S ρ b, OkS K C S ρ b σ H ∧ OutG K C W S ρ σ (fun ds _ S' H' => ∀ vs, DRs K C.ba S' vs ds → Q vs H') (F ρ b)
/-- an outcome of a fresh list -/
def OutF (K : PySem.W.Frag) (C : Cq) (W : WX) (S : Hp) (ρ : Env) (σ : L2.St) (Q : VK) : Out D → Prop
  | .ok d b => ∀ S' H' p u, Same S S' → OkF K C S' ρ b σ H' p u → ODR K C.ba S' u d → Q (.ref p) H'
  | .ex c ns ds bx => ∀ (dx : Option Addr) (S' H' : Hp) (b : Bag), Same S S' → OkS K C S' ρ b σ H' → XR K C.ba S' dx ns ds → b = bx → W (.ref (He.ga K c)) dx σ H'
  | .stuck => False
def tDF (K : PySem.W.Frag) (C : Cq) (W : WX) (F : EF) : TE := fun σ H Q => ∃ S ρ b, OkS K C S ρ b σ H ∧ OutF K C W S ρ σ Q (F ρ b)

section
variable {X : Cx} {e : Expr} {t t' : TE}
/-- a thing told is locked behind the expression -/
def LkV (Q : VK) : VK := fun v H => Q v H ∨ ∃ p u, v = .ref p ∧ H p = some u ∧ Mut (some u) ∧ ∀ od, Q v (upd H p (.frz od u))
theorem pe_lk (h : PE X e t) : PE X e (fun σ H Q => t σ H (LkV Q)) := ⟨fun pins s σ H Q I q => thn (h.run pins s σ H _ I q) fun v s1 ⟨x, H1, I2, r, z⟩ => by
  rcases z with z | ⟨p, u, rfl, hp, mu, z⟩
  · exact ⟨x, H1, I2, r, z⟩
  · obtain ⟨od, I3⟩ := I2.lock hp mu
    exact ⟨_, _, I3, r, z od⟩⟩
/-- a thing is locked ahead of a statement -/
def LkS (t : TS) : TS := fun D σ H => t D σ H ∨ ∃ p u, H p = some u ∧ Mut (some u) ∧ ∀ od, t D σ (upd H p (.frz od u))
theorem ps_lk {st : Stmt} {t : TS} (h : PS X st t) : PS X st (LkS t) := ⟨fun pins s σ H D I q => by
  rcases q with q | ⟨p, u, hp, mu, q⟩
  · exact h.run pins s σ H D I q
  · obtain ⟨od, I3⟩ := I.lock hp mu
    exact h.run pins s σ _ D I3 (q od)⟩
/-- .. or behind it -/
def LkN (D : Ends) : Ends := { D with nx := fun σ H => D.nx σ H ∨ ∃ p u, H p = some u ∧ Mut (some u) ∧ ∀ od, D.nx σ (upd H p (.frz od u)) }
theorem ps_lkN {st : Stmt} {t : TS} (h : PS X st t) : PS X st (fun D σ H => t (LkN D) σ H) := ⟨fun pins s σ H D I q => thn (h.run pins s σ H (LkN D) I q) fun f s1 z => by
  cases f with
  | next =>
    obtain ⟨σ', H', I2, z⟩ := z
    rcases z with z | ⟨p, u, hp, mu, z⟩
    · exact ⟨σ', H', I2, z⟩
    · obtain ⟨od, I3⟩ := I2.lock hp mu
      exact ⟨σ', _, I3, z od⟩
  | brk => exact z
  | cont => exact z
  | ret v => exact z⟩
theorem pe_imp (h : PE X e t) (f : ∀ σ H Q, t' σ H Q → t σ H Q) : PE X e t' := ⟨fun pins s σ H Q I q => h.run pins s σ H Q I (f σ H Q q)⟩
theorem pt_imp {t t' : TT} (h : PT X e t) (f : ∀ σ H Q, t' σ H Q → t σ H Q) : PT X e t' := ⟨fun pins s σ H Q I q => h.run pins s σ H Q I (f σ H Q q)⟩
theorem pw_imp {t t' : TT} (h : PW X e t) (f : ∀ σ H Q, t' σ H Q → t σ H Q) : PW X e t' := ⟨fun wh pins s σ H Q I q => h.run wh pins s σ H Q I (f σ H Q q)⟩
theorem pa_imp {es : List Expr} {t t' : TA} (h : PA X es t) (f : ∀ σ H Q, t' σ H Q → t σ H Q) : PA X es t' := ⟨fun pos pins s σ H Q I q => h.run pos pins s σ H Q I (f σ H Q q)⟩
theorem ps_imp {st : Stmt} {t t' : TS} (h : PS X st t) (f : ∀ D σ H, t' D σ H → t D σ H) : PS X st t' := ⟨fun pins s σ H D I q => h.run pins s σ H D I (f D σ H q)⟩
theorem pss_imp {st : List Stmt} {t t' : TS} (h : PSs X st t) (f : ∀ D σ H, t' D σ H → t D σ H) : PSs X st t' := ⟨fun pins s σ H D I q => h.run pins s σ H D I (f D σ H q)⟩
theorem pg_imp {tg : Expr} {t t' : TG} (h : PG X tg t) (f : ∀ v σ H Q, t' v σ H Q → t v σ H Q) : PG X tg t' := ⟨fun pins s σ H v u Q I r q => h.run pins s σ H v u Q I r (f v σ H Q q)⟩
theorem pi_imp {tg it : Expr} {t t' : TI} (h : PI X tg it t) (f : ∀ σ H R, t' σ H R → t σ H R) : PI X tg it t' := ⟨fun pins s σ H R I q => h.run pins s σ H R I (f σ H R q)⟩
end

section
variable {X : Cx} {C : Cq} {W : WX} {e a b c : Expr} {pos : Pos} {F Fa Fb Fc : EF}
/-- a fresh list as a value -/
theorem d_share (h : PE X e (tDF X.K C W F)) : PE X e (tD X.K C W F) := pe_imp (pe_lk h) fun σ H Q ⟨S, ρ, b, ok, q⟩ => by
  refine ⟨S, ρ, b, ok, ?_⟩
  cases hF : F ρ b with
  | ok d b' =>
    rw [hF] at q
    intro S' H' p u es of r
    rcases r.how with hw | ⟨mu, hw⟩
    · have q' := q _ _ (es.trans of.same) (of.shareL (u' := lockU default u)) _ ((r.up of.same).dr upd_same)
      rw [hw default, upd_at of.at_] at q'
      exact .inl q'
    · refine .inr ⟨p, u, rfl, of.at_, mu, fun od => ?_⟩
      have q' := q _ _ (es.trans of.same) (of.shareL (u' := lockU od u)) _ ((r.up of.same).dr upd_same)
      rw [hw od] at q'
      exact q'
  | ex c ns ds bx => rw [hF] at q; exact q
  | stuck => rw [hF] at q; exact q
theorem d_var {x : Str} {i : Nat} (h : PE X (.Name x pos) (tVar i)) : PE X (.Name x pos) (tD X.K C W (eV i)) := pe_imp h fun σ H Q ⟨S, ρ, b, ok, q⟩ => by
  unfold eV at q
  cases hr : ρ[i]? with
  | none => rw [hr] at q; exact q.elim
  | some o =>
    cases o with
    | none => rw [hr] at q; exact q.elim
    | some s =>
      cases s with
      | ow ds => rw [hr] at q; exact q.elim
      | sh d =>
        rw [hr] at q
        obtain ⟨v, hv, r⟩ := ok.get hr
        exact ⟨v, hv, q S H (Same.refl _) ok v r⟩
theorem d_const {v : V} {d : D} (h : PE X e (tC v)) (r : ∀ S, DR X.K C.ba S v d) : PE X e (tD X.K C W (eC d)) := pe_imp h fun σ H Q ⟨S, ρ, b, ok, q⟩ => q S H (Same.refl _) ok v (r S)
theorem tOp_of {r : R2} {f : D → D → Option D} (hf : Op2 X.K C r f) {σ : L2.St} {H : Hp} {Q : VK} (h : tD X.K C W (e2 f Fa Fb) σ H Q) : tOp r (tD X.K C W Fa) (tD X.K C W Fb) σ H Q := by
  obtain ⟨S, ρ, b, ok, q⟩ := h
  refine ⟨S, ρ, b, ok, q.bind.imp fun x b1 S1 H1 s1 ok1 q1 v r1 => ⟨S1, ρ, b1, ok1, q1.bind.imp fun y b2 S2 H2 s2 ok2 q2 w r2 => ?_⟩⟩
  obtain ⟨z, hz, q3⟩ := q2.pureO
  exact hf S2 ρ b2 σ H2 v w x y z Q ok2 (r1.up s2) r2 hz fun u S' H' e o r => q3 S' H' e o u r
theorem d_op {op : Operator} {r : R2} {f : D → D → Option D} (ho : OpR X (binaryOp op) r) (hf : Op2 X.K C r f) (ha : PE X a (tD X.K C W Fa)) (hb : PE X b (tD X.K C W Fb)) : PE X (.BinOp a op b pos) (tD X.K C W (e2 f Fa Fb)) :=
  pe_imp (pe_op ho ha hb) fun _ _ _ h => tOp_of hf h
theorem d_cmp {op : CmpOp} {r : R2} {f : D → D → Option D} (ho : OpR X (compareOp op) r) (hf : Op2 X.K C r f) (ha : PE X a (tD X.K C W Fa)) (hb : PE X b (tD X.K C W Fb)) (hm : behindInMarks op b = false) : PE X (.Compare a [op] [b] pos) (tD X.K C W (e2 f Fa Fb)) :=
  pe_imp (pe_cmpR ho ha hb hm) fun _ _ _ h => tOp_of hf h
theorem tTest_of {σ : L2.St} {H : Hp} {Q : Bool → Hp → Prop} (h : tDt X.K C W (bB F) σ H Q) : tD X.K C W F σ H (fun x H' => ∃ k, x = .bl k ∧ Q k H') := by
  obtain ⟨S, ρ, b, ok, q⟩ := h
  refine ⟨S, ρ, b, ok, q.bind.imp fun d b1 S1 H1 s1 ok1 q1 v r1 => ?_⟩
  cases d with
  | bl k => cases r1; exact ⟨k, rfl, q1 S1 H1 (Same.refl _) ok1⟩
  | non => exact q1.elim
  | int _ => exact q1.elim
  | str _ => exact q1.elim
  | tup _ => exact q1.elim
  | lst _ => exact q1.elim
  | fl _ => exact q1.elim
  | ins _ _ _ => exact q1.elim
  | obj _ => exact q1.elim
  | bag => exact q1.elim
  | dct _ _ => exact q1.elim
  | dtp _ _ => exact q1.elim
theorem d_tcmp {op : CmpOp} {r : R2} {f : D → D → Option D} (ho : OpR X (compareOp op) r) (hf : Op2 X.K C r f) (ha : PE X a (tD X.K C W Fa)) (hb : PE X b (tD X.K C W Fb)) (hm : behindInMarks op b = false) : PT X (.Compare a [op] [b] pos) (tDt X.K C W (bB (e2 f Fa Fb))) :=
  pt_imp (pt_cmpR ho ha hb hm) fun _ _ _ h => by
    have h' := tTest_of h
    exact tOp_of hf h'
theorem d_tval (h : PE X e (tD X.K C W F)) (he : ∀ whole, isTrue e X.env whole = (do let v ← whole; standAt e.pos; holding [v] (truthy v)) := by intro _; rfl) : PT X e (tDt X.K C W (bB F)) :=
  pt_imp (pt_val h he) fun _ _ _ h => tTest_of h
variable {Ga Gb : BF} {rest : List Expr}
theorem d_not (h : PT X a (tDt X.K C W Ga)) : PT X (.UnaryOp .Not a pos) (tDt X.K C W (bNot Ga)) := pt_imp (pt_not h) fun σ H Q ⟨S, ρ, b, ok, q⟩ =>
  ⟨S, ρ, b, ok, q.bind.imp fun k b1 S1 H1 s1 ok1 q1 => q1 S1 H1 (Same.refl _) ok1⟩
theorem d_and (ha : PT X a (tDt X.K C W Ga)) (hb : PW X (.BoolOp .And (b :: rest) pos) (tDt X.K C W Gb)) : PW X (.BoolOp .And (a :: b :: rest) pos) (tDt X.K C W (bAnd Ga Gb)) := pw_imp (pw_and ha hb) fun σ H Q ⟨S, ρ, b, ok, q⟩ =>
  ⟨S, ρ, b, ok, q.bind.imp fun k b1 S1 H1 s1 ok1 q1 => by
    cases k with
    | true => exact ⟨S1, ρ, b1, ok1, q1⟩
    | false => exact q1 S1 H1 (Same.refl _) ok1⟩
theorem d_or (ha : PT X a (tDt X.K C W Ga)) (hb : PW X (.BoolOp .Or (b :: rest) pos) (tDt X.K C W Gb)) : PW X (.BoolOp .Or (a :: b :: rest) pos) (tDt X.K C W (bOr Ga Gb)) := pw_imp (pw_or ha hb) fun σ H Q ⟨S, ρ, b, ok, q⟩ =>
  ⟨S, ρ, b, ok, q.bind.imp fun k b1 S1 H1 s1 ok1 q1 => by
    cases k with
    | true => exact q1 S1 H1 (Same.refl _) ok1
    | false => exact ⟨S1, ρ, b1, ok1, q1⟩⟩
theorem d_eand (ha : PE X a (tD X.K C W Fa)) (hb : PE X (.BoolOp .And (b :: rest) pos) (tD X.K C W Fb)) : PE X (.BoolOp .And (a :: b :: rest) pos) (tD X.K C W (eAnd Fa Fb)) := pe_imp (pe_and ha hb) fun σ H Q ⟨S, ρ, b, ok, q⟩ => by
  refine ⟨S, ρ, b, ok, q.bind.imp fun d b1 S1 H1 s1 ok1 q1 v r => ?_⟩
  cases d <;> first | exact q1.elim | skip
  rename_i k
  cases r
  refine ⟨k, rfl, ?_⟩
  cases k with
  | true => exact ⟨S1, ρ, b1, ok1, q1⟩
  | false => exact q1 S1 H1 (Same.refl _) ok1 _ (.bl _)
theorem d_eor (ha : PE X a (tD X.K C W Fa)) (hb : PE X (.BoolOp .Or (b :: rest) pos) (tD X.K C W Fb)) : PE X (.BoolOp .Or (a :: b :: rest) pos) (tD X.K C W (eOr Fa Fb)) := pe_imp (pe_or ha hb) fun σ H Q ⟨S, ρ, b, ok, q⟩ => by
  refine ⟨S, ρ, b, ok, q.bind.imp fun d b1 S1 H1 s1 ok1 q1 v r => ?_⟩
  cases d <;> first | exact q1.elim | skip
  rename_i k
  cases r
  refine ⟨k, rfl, ?_⟩
  cases k with
  | true => exact q1 S1 H1 (Same.refl _) ok1 _ (.bl _)
  | false => exact ⟨S1, ρ, b1, ok1, q1⟩
theorem d_enot (ha : PE X a (tD X.K C W Fa)) : PE X (.UnaryOp .Not a pos) (tD X.K C W (eNot Fa)) := pe_imp (pe_not ha) fun σ H Q ⟨S, ρ, b, ok, q⟩ => by
  refine ⟨S, ρ, b, ok, q.bind.imp fun d b1 S1 H1 s1 ok1 q1 v r => ?_⟩
  cases d <;> first | exact q1.elim | skip
  rename_i k
  cases r
  exact ⟨k, rfl, q1 S1 H1 (Same.refl _) ok1 _ (.bl _)⟩
theorem d_if {G : BF} (hc : PT X c (tDt X.K C W G)) (ha : PE X a (tD X.K C W Fa)) (hb : PE X b (tD X.K C W Fb)) : PE X (.IfExp c a b pos) (tD X.K C W (eIf G Fa Fb)) := pe_imp (pe_ifExp hc ha hb) fun σ H Q ⟨S, ρ, b, ok, q⟩ =>
  ⟨S, ρ, b, ok, q.bind.imp fun k b1 S1 H1 s1 ok1 q1 => by
    cases k with
    | true => exact ⟨S1, ρ, b1, ok1, q1⟩
    | false => exact ⟨S1, ρ, b1, ok1, q1⟩⟩
theorem d_anil : PA X [] (tDA X.K C W aNil) := pa_imp pa_nil fun σ H Q ⟨S, ρ, b, ok, q⟩ => q S H (Same.refl _) ok [] .nil
theorem d_acons {es : List Expr} {G : AF} (he : PE X e (tD X.K C W F)) (hr : PA X es (tDA X.K C W G)) (hs : starEach (e :: es) X.env = (false, eval e X.env) :: starEach es X.env := by rfl) : PA X (e :: es) (tDA X.K C W (aCons F G)) :=
  pa_imp (pa_cons he hr hs) fun σ H Q ⟨S, ρ, b, ok, q⟩ =>
    ⟨S, ρ, b, ok, q.bind.imp fun d b1 S1 H1 s1 ok1 q1 v r => ⟨S1, ρ, b1, ok1, q1.bind.imp fun ds b2 S2 H2 s2 ok2 q2 vs rs => q2 S2 H2 (Same.refl _) ok2 _ (.cons (r.up s2) rs)⟩⟩
theorem small_lt {n : Nat} (h : n ≤ 100000) : n < sizeLine := by rw [sizeLine_eq]; omega
theorem small_le {n : Nat} (h : n ≤ 100000) : n ≤ sizeLine := Nat.le_of_lt (small_lt h)
theorem d_tup {es : List Expr} {k} {G : AF} (h : PA X es (tDA X.K C W G)) : PE X (.Tuple es k pos) (tD X.K C W (eTup G)) := pe_imp (pe_tup h) fun σ H Q ⟨S, ρ, b, ok, q⟩ => by
  refine ⟨S, ρ, b, ok, q.bind.imp fun ds b1 S1 H1 s1 ok1 q1 vs r => ?_⟩
  by_cases hl : ds.length ≤ 100000
  · rw [if_pos hl] at q1
    refine ⟨small_le (by rw [r.length]; exact hl), fun p hp => ?_⟩
    exact q1 _ _ (ok1.same hp) (ok1.alloc hp) _ (.tup upd_same (r.up (ok1.same hp)))
  · rw [if_neg hl] at q1; exact q1.elim
theorem d_lst {es : List Expr} {G : AF} (h : PA X es (tDA X.K C W G)) : PE X (.List es pos) (tDF X.K C W (eLst G)) := pe_imp (pe_lst h) fun σ H Q ⟨S, ρ, b, ok, q⟩ => by
  refine ⟨S, ρ, b, ok, ?_⟩
  unfold eLst at q
  cases hG : G ρ b with
  | stuck => rw [hG] at q; exact q.elim
  | ex c ns ds bx => rw [hG] at q; exact q
  | ok ds b1 =>
    rw [hG] at q
    intro S1 H1 s1 ok1 vs r
    by_cases hl : ds.length ≤ 100000
    · have q : OutF X.K C W S ρ σ Q (if ds.length ≤ 100000 then .ok (.lst ds) b1 else .stuck) := q
      rw [if_pos hl] at q
      refine ⟨small_le (by rw [r.length]; exact hl), fun p hp => ?_⟩
      exact q S1 _ p _ s1 (ok1.fresh hp) (.lst r)
    · have q : OutF X.K C W S ρ σ Q (if ds.length ≤ 100000 then .ok (.lst ds) b1 else .stuck) := q
      rw [if_neg hl] at q
      exact q.elim
end
end DL

set_option maxHeartbeats 4000000
namespace DL
open PySem PySem.Spec PyProof.Rows L2
def tDS (K : PySem.W.Frag) (C : Cq) (W : WX) (F : SF) : TS := fun E σ H => ∃ S ρ b, OkS K C S ρ b σ H ∧ SOk K C W S E (F ρ b)
section
variable {X : Cx} {C : Cq} {W : WX} {st : Stmt} {sts : List Stmt} {e : Expr} {pos : Pos} {F : EF} {G Gr : SF}
theorem d_nil : PSs X [] (tDS X.K C W sNil) := pss_imp pss_nil fun E σ H ⟨S, ρ, b, ok, q⟩ => q S σ H (Same.refl _) ok
theorem d_cons (h1 : PS X st (tDS X.K C W G)) (h2 : PSs X sts (tDS X.K C W Gr)) : PSs X (st :: sts) (tDS X.K C W (sSeq G Gr)) := pss_imp (pss_cons h1 h2) fun E σ H ⟨S, ρ, b, ok, q⟩ => ⟨S, ρ, b, ok, q.seq⟩
theorem d_one (h1 : PS X st (tDS X.K C W G)) : PSs X [st] (tDS X.K C W G) := pss_one h1
theorem d_ret (h : PE X e (tD X.K C W F)) : PS X (.Return (some e) pos) (tDS X.K C W (sRet F)) := ps_imp (ps_ret h) fun E σ H ⟨S, ρ, b, ok, q⟩ =>
  ⟨S, ρ, b, ok, q.st.imp fun d b1 S1 H1 s1 ok1 q1 v r => q1 S1 H1 v (Same.refl _) ok1.core r⟩
/-- a fresh list handed back -/
@[simp] def sRetO (F : EF) : SF := fun ρ b => (F ρ b).st ρ fun ds b' => .ro ds b'
theorem outF_of {K : PySem.W.Frag} {S : Hp} {ρ : Env} {σ : L2.St} {E : Ends} {o : Out D} {k : D → Bag → SO} {Q : VK} (h : SOk K C W S E (o.st ρ k)) (f : ∀ d b S' H' p u, Same S S' → SOk K C W S' E (k d b) → OkF K C S' ρ b σ H' p u → ODR K C.ba S' u d → Q (.ref p) H') : OutF K C W S ρ σ Q o := by
  cases o with
  | ok ds b => exact fun S' H' p vs e o r => f ds b S' H' p vs e (SOk.up h e) o r
  | ex c ns ds bx => exact fun dx S' H' b e o x => h dx S' σ H' b e o x
  | stuck => exact h
theorem d_retO (h : PE X e (tDF X.K C W F)) : PS X (.Return (some e) pos) (tDS X.K C W (sRetO F)) := ps_imp (ps_ret h) fun E σ H ⟨S, ρ, b, ok, q⟩ =>
  ⟨S, ρ, b, ok, outF_of q fun ds b S' H' p vs _ q1 o r => q1 S' H' p vs (Same.refl _) o.core o.at_ o.sn o.h0 o.nba r⟩
theorem d_expr (h : PE X e (tD X.K C W F)) (hs : swapsWith e none pos.line X.env = pure false := by rfl) : PS X (.Expr e pos) (tDS X.K C W (sDrop F)) := ps_imp (ps_expr h hs) fun E σ H ⟨S, ρ, b, ok, q⟩ =>
  ⟨S, ρ, b, ok, q.st.imp fun d b1 S1 H1 s1 ok1 q1 v r => q1 S1 σ H1 (Same.refl _) ok1⟩
theorem d_sif {c : Expr} {as bs : List Stmt} {G : BF} {A B : SF} (hc : PT X c (tDt X.K C W G)) (ha : PSs X as (tDS X.K C W A)) (hb : PSs X bs (tDS X.K C W B)) : PS X (.If c as bs pos) (tDS X.K C W (sIf G A B)) := ps_imp (ps_if hc ha hb) fun E σ H ⟨S, ρ, b, ok, q⟩ =>
  ⟨S, ρ, b, ok, q.st.imp fun k b1 S1 H1 s1 ok1 q1 => by
    cases k with
    | true => exact ⟨S1, ρ, b1, ok1, q1⟩
    | false => exact ⟨S1, ρ, b1, ok1, q1⟩⟩
/-- targets of an assignment or a for: they raise nothing, draw nothing -/
def tDG (K : PySem.W.Frag) (C : Cq) (g : GF) : TG := fun v σ H Q => ∃ S ρ b d ρ' b', OkS K C S ρ b σ H ∧ DR K C.ba S v d ∧ g d ρ b = some (ρ', b') ∧ ∀ S' σ' H', Same S S' → OkS K C S' ρ' b' σ' H' → Q σ' H'
theorem d_gname {tg : Expr} {i : Nat} (h : PG X tg (gName i)) : PG X tg (tDG X.K C (gN i)) := pg_imp h fun v σ H Q ⟨S, ρ, b, d, ρ', b', ok, r, e, q⟩ => by
  cases e
  exact q S _ H (Same.refl _) (ok.setSh r)
def tDGs (K : PySem.W.Frag) (C : Cq) (g : GsF) : TGs := fun vs σ H Q => ∃ S ρ b ds ρ' b', OkS K C S ρ b σ H ∧ DRs K C.ba S vs ds ∧ g ds ρ b = some (ρ', b') ∧ ∀ S' σ' H', Same S S' → OkS K C S' ρ' b' σ' H' → Q σ' H'
theorem pgs_imp {ts : List Expr} {t t' : TGs} (h : PGs X ts t) (f : ∀ vs σ H Q, t' vs σ H Q → t vs σ H Q) : PGs X ts t' := ⟨fun pins s σ H vs us Q I r q => h.run pins s σ H vs us Q I r (f vs σ H Q q)⟩
theorem d_gnil : PGs X [] (tDGs X.K C gsN) := pgs_imp pgs_nil fun vs σ H Q ⟨S, ρ, b, ds, ρ', b', ok, r, e, q⟩ => by
  cases ds with
  | nil => cases r; cases e; exact ⟨rfl, q S σ H (Same.refl _) ok⟩
  | cons d ds => cases e
theorem d_gcons {tg : Expr} {ts : List Expr} {g : GF} {gs : GsF} (h1 : PG X tg (tDG X.K C g)) (h2 : PGs X ts (tDGs X.K C gs)) (hs : (assignEach (tg :: ts) X.env).map (·.2) = assign tg X.env :: (assignEach ts X.env).map (·.2) := by rfl) :
    PGs X (tg :: ts) (tDGs X.K C (gsC g gs)) := pgs_imp (pgs_cons h1 h2 hs) fun vs σ H Q ⟨S, ρ, b, ds, ρ', b', ok, r, e, q⟩ => by
  cases ds with
  | nil => cases e
  | cons d ds =>
    cases r with
    | cons r1 r2 =>
      simp only [gsC, Option.bind_eq_some_iff] at e
      obtain ⟨z, e1, e2⟩ := e
      exact ⟨_, _, rfl, S, ρ, b, d, z.1, z.2, ok, r1, e1, fun S' σ' H' s' ok' => ⟨S', z.1, z.2, ds, ρ', b', ok', r2.up s', e2, fun S2 σ2 H2 s2 ok2 => q S2 σ2 H2 (s'.trans s2) ok2⟩⟩
theorem d_gtup {es : List Expr} {k n : Nat} {gs : GsF} (hc : X.calm = true) (h : PGs X es (tDGs X.K C gs)) (hn : (assignEach es X.env).length = n := by rfl) (hst : (assignEach es X.env).findIdx? (·.1) = none := by rfl) :
    PG X (.Tuple es k pos) (tDG X.K C (gT n gs)) := pg_imp (pg_tup hc h hn hst) fun v σ H Q ⟨S, ρ, b, d, ρ', b', ok, r, e, q⟩ => by
  cases d with
  | tup ds =>
    cases r with
    | tup h1 h2 =>
      simp only [gT] at e
      by_cases hl : ds.length = n
      · rw [if_pos hl] at e
        exact ⟨_, _, rfl, seqT ok.core.sub h1, by rw [h2.length]; exact hl, S, ρ, b, ds, ρ', b', ok, h2, e, q⟩
      · rw [if_neg hl] at e; cases e
  | non => cases e
  | bl _ => cases e
  | int _ => cases e
  | str _ => cases e
  | lst _ => cases e
  | fl _ => cases e
  | ins _ _ _ => cases e
  | obj _ => cases e
  | bag => cases e
  | dct _ _ => cases e
  | dtp _ _ => cases e
theorem sAsg_of {F : EF} {g : GF} {E : Ends} {σ : L2.St} {H : Hp} (h : tDS X.K C W (sAsg F g) E σ H) : tAsg (tD X.K C W F) (tDG X.K C g) E σ H := by
  obtain ⟨S, ρ, b, ok, q⟩ := h
  refine ⟨S, ρ, b, ok, q.st.imp fun d b1 S1 H1 s1 ok1 q1 v r => ?_⟩
  cases hg : g d ρ b1 with
  | none => rw [hg] at q1; exact q1.elim
  | some z =>
    rw [hg] at q1
    exact ⟨S1, ρ, b1, d, z.1, z.2, ok1, r, hg, fun S' σ' H' s' ok' => q1 S' σ' H' s' ok'⟩
/-- name = e; any target = e -/
theorem d_set {i : Nat} (h : PS X st (tAsg (tD X.K C W F) (gName i))) : PS X st (tDS X.K C W (sAsg F (gN i))) := ps_imp h fun E σ H q => by
  obtain ⟨S, ρ, b, ok, q⟩ := q
  exact ⟨S, ρ, b, ok, q.st.imp fun d b1 S1 H1 s1 ok1 q1 v r => q1 S1 _ H1 (Same.refl _) (ok1.setSh r)⟩
theorem d_asg {tg : Expr} {g : GF} (he : PE X e (tD X.K C W F)) (hg : PG X tg (tDG X.K C g)) (hs : swapsWithSole [tg] e pos.line X.env = pure false := by rfl) (hw : swappedStores [tg] e X.env = pure none := by rfl)
    (h1 : (assignEach [tg] X.env).map (·.2) = [assign tg X.env] := by rfl) : PS X (.Assign [tg] e pos) (tDS X.K C W (sAsg F g)) := ps_imp (ps_asg he hg hs hw h1) fun _ _ _ h => sAsg_of h
theorem d_own {i : Nat} (h : PS X st (tAsg (tDF X.K C W F) (gName i))) : PS X st (tDS X.K C W (sOwn F i)) := ps_imp h fun E σ H ⟨S, ρ, b, ok, q⟩ =>
  ⟨S, ρ, b, ok, outF_of q fun ds b S' H' p vs _ q1 o r => q1 S' _ H' (Same.refl _) (o.setOw r)⟩
theorem d_setF {i : Nat} (h : PS X st (tAsg (tDF X.K C W F) (gName i))) : PS X st (tDS X.K C W (sAsg F (gN i))) := ps_imp (ps_lkN h) fun E σ H ⟨S, ρ, b, ok, q⟩ =>
  ⟨S, ρ, b, ok, outF_of (E := E) q fun d b S' H' p u _ q1 o r => by
    rcases r.how with hw | ⟨mu, hw⟩
    · have q' := q1 _ _ _ o.same ((o.shareL (u' := lockU default u)).setSh ((r.up o.same).dr upd_same))
      rw [hw default, upd_at o.at_] at q'
      exact .inl q'
    · refine .inr ⟨p, u, o.at_, mu, fun od => ?_⟩
      have q' := q1 _ _ _ o.same ((o.shareL (u' := lockU od u)).setSh ((r.up o.same).dr upd_same))
      rw [hw od] at q'
      exact q'⟩
theorem tDS_freeze {i : Nat} {E : Ends} {σ : L2.St} {H : Hp} (h : tDS X.K C W (sFreeze i G) E σ H) : LkS (tDS X.K C W G) E σ H := by
  obtain ⟨S, ρ, b, ok, q⟩ := h
  unfold sFreeze at q
  cases hr : ρ[i]? with
  | none => rw [hr] at q; exact .inl ⟨S, ρ, b, ok, q⟩
  | some o =>
    cases o with
    | none => rw [hr] at q; exact .inl ⟨S, ρ, b, ok, q⟩
    | some s =>
      cases s with
      | sh d => rw [hr] at q; exact .inl ⟨S, ρ, b, ok, q⟩
      | ow d =>
        rw [hr] at q
        obtain ⟨p, u, _, hp, r, a1, a2, a3, _, sh⟩ := ok.getOw hr
        rcases r.how with hw | ⟨mu, hw⟩
        · have s' := sh default
          rw [hw default, upd_at hp] at s'
          exact .inl ⟨_, _, b, s', SOk.up q (same_upd a1)⟩
        · refine .inr ⟨p, u, hp, mu, fun od => ?_⟩
          have s' := sh od
          rw [hw od] at s'
          exact ⟨_, _, b, s', SOk.up q (same_upd a1)⟩
theorem d_freeze {i : Nat} (h : PS X st (tDS X.K C W G)) : PS X st (tDS X.K C W (sFreeze i G)) := ps_imp (ps_lk h) fun _ _ _ q => tDS_freeze q
end
end DL

set_option maxHeartbeats 400000
namespace DL
open PySem PySem.Spec PyProof.Rows L2
def tDI (K : PySem.W.Frag) (C : Cq) (W : WX) (F : AF) : TI := fun σ H R => ∃ S ρ b, OkS K C S ρ b σ H ∧ OutG K C W S ρ σ (fun ds _ S' H' => ∀ J, ItD K C.ba J ds S' → R J H') (F ρ b)
def seqOf : D → Option (List D)
  | .lst ds => some ds
  | .fl ds => some ds
  | _ => none
def aSeq (F : EF) : AF := fun ρ b => (F ρ b).bind fun d b' => Out.pureO (seqOf d) b'
def tupOf : D → Option (List D)
  | .tup ds => some ds
  | _ => none
def aTup (F : EF) : AF := fun ρ b => (F ρ b).bind fun d b' => Out.pureO (tupOf d) b'
section
variable {X : Cx} {C : Cq} {W : WX} {tg l e : Expr} {pos : Pos} {F : EF}
theorem seqL {K : PySem.W.Frag} {ba : Option Addr} {S : Hp} {v : V} {d : D} {ds : List D} (r : DR K ba S v d) (h : seqOf d = some ds) : ∃ a xs, v = .ref a ∧ SqL K S a xs ∧ DRs K ba S xs ds := by
  cases d <;> simp [seqOf] at h
  · subst h
    cases r with
    | lst h1 h2 => exact ⟨_, _, rfl, SqL.of h1, h2⟩
  · subst h
    cases r with
    | fl h1 h2 => exact ⟨_, _, rfl, h1, h2⟩
theorem itL {K : PySem.W.Frag} {ba : Option Addr} {S : Hp} {a : Addr} {xs : List V} {ds : List D} (h : SqL K S a xs) (r : DRs K ba S xs ds) : ItD K ba (Itl K a) ds S := fun C hC i S' ρ b σ H e ok => by
  have hS : SqL K H a xs := (e.trans ok.core.sub).seq h
  refine ⟨fun d hd => ?_, fun hl => ⟨xs, hS, by rw [r.length]; exact Nat.le_of_eq hl⟩⟩
  obtain ⟨v, hv, rv⟩ := r.get hd
  refine ⟨⟨xs, v, hS, hv⟩, fun x H' y => ?_⟩
  obtain ⟨e1, y⟩ := y
  subst e1
  have hx := y xs hS
  rw [hv] at hx
  cases hx
  exact ⟨S', Same.refl _, ok, rv.up e, fun _ _ z => z⟩
theorem itT {K : PySem.W.Frag} {ba : Option Addr} {S : Hp} {a : Addr} {xs : List V} {ds : List D} (h : S a = some (.tup xs)) (r : DRs K ba S xs ds) : ItD K ba (Itt K a) ds S := fun C hC i S' ρ b σ H e ok => by
  have hS : SqT K H a xs := seqT (e.trans ok.core.sub) h
  refine ⟨fun d hd => ?_, fun hl => ⟨xs, hS, by rw [r.length]; exact Nat.le_of_eq hl⟩⟩
  obtain ⟨v, hv, rv⟩ := r.get hd
  refine ⟨⟨xs, v, hS, hv⟩, fun x H' y => ?_⟩
  obtain ⟨e1, y⟩ := y
  subst e1
  have hx := y xs hS
  rw [hv] at hx
  cases hx
  exact ⟨S', Same.refl _, ok, rv.up e, fun _ _ z => z⟩
theorem d_ilist (h : PE X l (tD X.K C W F)) : PI X tg l (tDI X.K C W (aSeq F)) := pi_imp (pi_list h) fun σ H R ⟨S, ρ, b, ok, q⟩ => by
  refine ⟨S, ρ, b, ok, q.bind.imp fun d b1 S1 H1 s1 ok1 q1 v r => ?_⟩
  obtain ⟨ds, hd, q2⟩ := q1.pureO
  obtain ⟨a, xs, rfl, h1, h2⟩ := seqL r hd
  exact ⟨a, rfl, ⟨xs, ok1.core.sub.seq h1⟩, q2 S1 H1 (Same.refl _) ok1 _ (itL h1 h2)⟩
theorem d_ituple (h : PE X l (tD X.K C W F)) : PI X tg l (tDI X.K C W (aTup F)) := pi_imp (pi_tup h) fun σ H R ⟨S, ρ, b, ok, q⟩ => by
  refine ⟨S, ρ, b, ok, q.bind.imp fun d b1 S1 H1 s1 ok1 q1 v r => ?_⟩
  obtain ⟨ds, hd, q2⟩ := q1.pureO
  cases d <;> simp [tupOf] at hd
  subst hd
  cases r with
  | tup h1 h2 => exact ⟨_, rfl, ⟨_, seqT ok1.core.sub h1⟩, q2 S1 H1 (Same.refl _) ok1 _ (itT h1 h2)⟩
theorem itR {K : PySem.W.Frag} {ba : Option Addr} {S : Hp} (n : Nat) : ItD K ba (Itr 0 n) ((List.range n).map fun (k : Nat) => D.int (k : Int)) S := fun C hC i S' ρ b σ H e ok => by
  refine ⟨fun d hd => ?_, fun hl => ?_⟩
  · rw [List.getElem?_map] at hd
    by_cases hi : i < n
    · rw [List.getElem?_eq_getElem (by simpa using hi)] at hd
      simp at hd
      subst hd
      refine ⟨hi, fun x H' y => ?_⟩
      obtain ⟨e1, y⟩ := y
      subst e1
      subst y
      refine ⟨S', Same.refl _, ok, ?_, fun _ _ z => z⟩
      rw [Int.zero_add]
      exact .int _
    · rw [List.getElem?_eq_none (by simpa using hi)] at hd
      simp at hd
  · show n ≤ i
    have hl' : n = i := by simpa using hl
    omega
theorem d_irange {a : Expr} {G : AF} {p : Pos} (hg : Gl X "range") (hm : X.mg "range" = none) (ha : PA X [a] (tDA X.K C W G)) (hs : starEach [a] X.env = [(false, eval a X.env)] := by rfl) : PI X tg (.Call (.Name "range" p) [a] [] pos) (tDI X.K C W (aRng G)) :=
  pi_imp (pi_range1 hg hm ha hs) fun σ H R ⟨S, ρ, b, ok, q⟩ => by
  refine ⟨S, ρ, b, ok, q.bind.imp fun ds b1 S1 H1 s1 ok1 q1 vs r => ?_⟩
  split at q1
  · rename_i i
    cases r with
    | cons r1 r2 =>
      cases r2
      cases r1
      by_cases h : -1000000 ≤ i ∧ i ≤ 1000000
      · rw [if_pos h] at q1
        refine ⟨i, rfl, by omega, by omega, q1 S1 H1 (Same.refl _) ok1 _ (itR _)⟩
      · rw [if_neg h] at q1; exact q1.elim
  · exact q1.elim
end
section
variable {X : Cx} {C : Cq} {W : WX} {tg iter : Expr} {pos : Pos} {F : AF} {g : GF} {B : SF}
theorem loop_ok {K : PySem.W.Frag} {J : It} {ds : List D} {S1 : Hp} {E : Ends} {σ : L2.St} {H : Hp} {ρ : Env} {b : Bag} (hJ : ItD K C.ba J ds S1) (ok : OkS K C S1 ρ b σ H) (h : SOk K C W S1 E (loopD g B ds ρ b)) :
    ∃ Wv : Nat → Nat → L2.St → Hp → Prop, (∃ m, Wv 0 m σ H) ∧ ∀ i m σ H, Wv i m σ H → (J.stop i H ∧ E.nx σ H) ∨ (J.go i H ∧ ∃ N : L2.St → Hp → Prop, (∀ σ' H', N σ' H' → ∃ m', m' < m ∧ Wv (i + 1) m' σ' H') ∧
      ∀ x H', J.yld i H x H' → tDG K C g x σ H' fun σ2 H2 => tDS K C W B { E with nx := N, ct := N, bk := E.nx } σ2 H2) := by
  refine ⟨fun i m σ H => m = ds.length - i ∧ i ≤ ds.length ∧ ∃ S' ρ b, Same S1 S' ∧ OkS K C S' ρ b σ H ∧ SOk K C W S' E (loopD g B (ds.drop i) ρ b), ⟨ds.length, by simp, Nat.zero_le _, S1, ρ, b, Same.refl _, ok, by simpa using h⟩, ?_⟩
  rintro i m σ H ⟨rfl, hi, S', ρ, b, e, ok, q⟩
  by_cases hlt : i < ds.length
  · have hd : ds[i]? = some ds[i] := List.getElem?_eq_getElem hlt
    obtain ⟨go, yl⟩ := (hJ C rfl i S' ρ b σ H e ok).1 _ hd
    rw [List.drop_eq_getElem_cons hlt] at q
    unfold loopD at q
    refine .inr ⟨go, fun σ' H' => i + 1 ≤ ds.length ∧ ∃ S2 ρ b, Same S1 S2 ∧ OkS K C S2 ρ b σ' H' ∧ SOk K C W S2 E (loopD g B (ds.drop (i + 1)) ρ b), fun σ' H' n => ⟨ds.length - (i + 1), by omega, rfl, n.1, n.2⟩, fun x H' y => ?_⟩
    obtain ⟨S2, e2, ok2, r, _⟩ := yl x H' y
    cases hg : g ds[i] ρ b with
    | none => rw [hg] at q; exact q.elim
    | some z =>
      rw [hg] at q
      refine ⟨S2, ρ, b, _, z.1, z.2, ok2, r, hg, fun S3 σ3 H3 e3 ok3 => ⟨S3, z.1, z.2, ok3, ?_⟩⟩
      have e13 : Same S1 S3 := (e.trans e2).trans e3
      dsimp only at q
      cases hB : B z.1 z.2 with
      | nx ρ2 b2 =>
        rw [hB] at q
        exact fun S4 σ4 H4 e4 ok4 => ⟨hlt, S4, ρ2, b2, e13.trans e4, ok4, SOk.up q ((e2.trans e3).trans e4)⟩
      | ct ρ2 b2 =>
        rw [hB] at q
        exact fun S4 σ4 H4 e4 ok4 => ⟨hlt, S4, ρ2, b2, e13.trans e4, ok4, SOk.up q ((e2.trans e3).trans e4)⟩
      | bk ρ2 b2 =>
        rw [hB] at q
        exact fun S4 σ4 H4 e4 ok4 => q S4 σ4 H4 ((e2.trans e3).trans e4) ok4
      | rt d b2 => rw [hB] at q; exact SOk.up (o := .rt d b2) q (e2.trans e3)
      | ro d b2 => rw [hB] at q; exact SOk.up (o := .ro d b2) q (e2.trans e3)
      | ex ρ2 c ns es bx => rw [hB] at q; exact SOk.up (o := .ex ρ2 c ns es bx) q (e2.trans e3)
      | stuck => rw [hB] at q; exact q
  · have e : i = ds.length := by omega
    subst e
    refine .inl ⟨(hJ C rfl _ S' ρ b σ H (by assumption) ok).2 rfl, ?_⟩
    rw [List.drop_length] at q
    exact q S' σ H (Same.refl _) ok
theorem d_for {body : List Stmt} (hp : PassesOwn (model X.prog X.w) X.A X.env X.xe) (hc : X.calm = true) (hi : PI X tg iter (tDI X.K C W F)) (hg : PG X tg (tDG X.K C g)) (hb : PSs X body (tDS X.K C W B)) (hs : ∀ x, foldedSetIterable iter X.env x = pure x := by intro _; rfl) :
    PS X (.For tg iter body [] pos) (tDS X.K C W (sFor F g B)) := ps_imp (ps_for hp hc hi hg hb hs) fun E σ H ⟨S, ρ, b, ok, q⟩ =>
  ⟨S, ρ, b, ok, q.st.imp fun ds b1 S1 H1 s1 ok1 q1 J hJ => loop_ok hJ ok1 q1⟩
end
abbrev W0 : WX := fun _ _ _ _ => False
def tDany (K : PySem.W.Frag) (F : EF) : TE := fun σ H Q => ∃ C, tD K C W0 F σ H Q
def tDtany (K : PySem.W.Frag) (F : BF) : TT := fun σ H Q => ∃ C, tDt K C W0 F σ H Q
theorem d_any {X : Cx} {e : Expr} {F : EF} (h : ∀ C, PE X e (tD X.K C W0 F)) : PE X e (tDany X.K F) := ⟨fun pins s σ H Q I ⟨C, q⟩ => (h C).run pins s σ H Q I q⟩
theorem d_tsany {X : Cx} {es : List Expr} {F : BF} (h : ∀ C, PTs X es (tDt X.K C W0 F)) : PTs X es (tDtany X.K F) := ⟨fun pins s σ H Q I ⟨C, q⟩ => (h C).run pins s σ H Q I q⟩
/-- a target of a comprehension's own names -/
def CTg (K : PySem.W.Frag) (g : TG) (f : GF) (vs : List Nat) : Prop := ∀ (C : Cq) (S : Hp) (ρ : Env) (b : Bag) (σ : L2.St) (H : Hp) (v : V) (d : D) (ρ' : Env) (b' : Bag) (Q : L2.St → Hp → Prop), OkS K C S ρ b σ H → DR K C.ba S v d → f d ρ b = some (ρ', b') →
  (∀ σ', wipe σ' vs = wipe σ vs → OkS K C S ρ' b' σ' H → Q σ' H) → g v σ H Q
theorem wipe_get : ∀ (vs : List Nat) (σ : L2.St) (j : Nat), (wipe σ vs)[j]? = if j ∈ vs ∧ j < σ.length then some none else σ[j]?
  | [], σ, j => by simp [wipe]
  | v :: vs, σ, j => by
    unfold wipe
    by_cases h : v = j
    · subst h
      by_cases hl : v < σ.length
      · rw [List.getElem?_set_self (by rw [wipe_length]; exact hl), if_pos ⟨List.mem_cons_self, hl⟩]
      · rw [List.getElem?_eq_none (by rw [List.length_set, wipe_length]; omega), if_neg (fun z => hl z.2), List.getElem?_eq_none (by omega)]
    · rw [List.getElem?_set_ne h, wipe_get vs σ j]
      have : (j ∈ v :: vs) ↔ j ∈ vs := by simp only [List.mem_cons]; exact ⟨fun z => z.elim (fun q => absurd q.symm h) id, .inr⟩
      simp only [this]
theorem wipe_set {vs : List Nat} {σ : L2.St} {i : Nat} {x : Option V} (h : i ∈ vs) : wipe (σ.set i x) vs = wipe σ vs := by
  apply List.ext_getElem?
  intro j
  rw [wipe_get, wipe_get, List.length_set]
  by_cases hj : j ∈ vs ∧ j < σ.length
  · rw [if_pos hj, if_pos hj]
  · rw [if_neg hj, if_neg hj]
    by_cases e : i = j
    · subst e
      have hl : σ.length ≤ i := by
        have : ¬ i < σ.length := fun z => hj ⟨h, z⟩
        omega
      rw [List.getElem?_eq_none (by rw [List.length_set]; exact hl), List.getElem?_eq_none hl]
    · rw [List.getElem?_set_ne e]
theorem ctg_name {K : PySem.W.Frag} {i : Nat} {vs : List Nat} (h : i ∈ vs) : CTg K (gName i) (gN i) vs := fun C S ρ b σ H v d ρ' b' Q ok r e q => by
  cases e
  exact q _ (wipe_set h) (ok.setSh r)
theorem gT2_of {i j : Nat} {d : D} {ρ ρ' : Env} {b b' : Bag} (e : gT 2 (gsC (gN i) (gsC (gN j) gsN)) d ρ b = some (ρ', b')) : ∃ x y, d = .tup [x, y] ∧ ρ' = (ρ.set i (some (.sh x))).set j (some (.sh y)) ∧ b' = b := by
  cases d with
  | tup ds =>
    unfold gT at e
    dsimp only at e
    cases ds with
    | nil => rw [if_neg (by decide)] at e; cases e
    | cons x ds =>
      cases ds with
      | nil => rw [if_neg (by simp)] at e; cases e
      | cons y ds =>
        cases ds with
        | nil =>
          rw [if_pos (by rfl)] at e
          have e' : some ((ρ.set i (some (.sh x))).set j (some (.sh y)), b) = some (ρ', b') := e
          cases e'
          exact ⟨x, y, rfl, rfl, rfl⟩
        | cons z ds => rw [if_neg (by simp)] at e; cases e
  | non => cases e
  | bl _ => cases e
  | int _ => cases e
  | str _ => cases e
  | lst _ => cases e
  | fl _ => cases e
  | ins _ _ _ => cases e
  | obj _ => cases e
  | bag => cases e
  | dct _ _ => cases e
  | dtp _ _ => cases e
theorem ctg_pair {K : PySem.W.Frag} {i j : Nat} {vs : List Nat} (h : i ∈ vs) (h' : j ∈ vs) : CTg K (gTup K 2 (gCons (gName i) (gCons (gName j) gNil))) (gT 2 (gsC (gN i) (gsC (gN j) gsN))) vs := fun C S ρ b σ H v d ρ' b' Q ok r e q => by
  obtain ⟨x, y, rfl, rfl, rfl⟩ := gT2_of e
  cases r with
  | tup h1 h2 =>
    cases h2 with
    | cons r1 h3 =>
      cases h3 with
      | cons r2 h4 =>
        cases h4
        exact ⟨_, _, rfl, seqT ok.core.sub h1, rfl, _, _, rfl, _, _, rfl, rfl, q _ ((wipe_set h').trans (wipe_set h)) ((ok.setSh r1).setSh r2)⟩
theorem wipe_idem {σ : L2.St} {vs : List Nat} : wipe (wipe σ vs) vs = wipe σ vs := by
  apply List.ext_getElem?
  intro j
  rw [wipe_get, wipe_length]
  by_cases hj : j ∈ vs ∧ j < σ.length
  · rw [if_pos hj, wipe_get, if_pos hj]
  · rw [if_neg hj]
section
variable {X : Cx} {C : Cq} {W : WX} {e : Expr} {Fi : AF} {g : TG} {f : GF} {T : BF} {F : EF} {vs : List Nat}
/-- one more item on a fresh list -/
theorem OkF.push {K : PySem.W.Frag} {S S' H H' : Hp} {ρ : Env} {b b' : Bag} {σ : L2.St} {p : Addr} {xs : List V} {y : V} (o : OkF K C S ρ b σ H p (.lst xs)) (d : Core (inner C S H) S' b' H') (es : Same S S') :
    H' p = some (.lst xs) ∧ OkF K C S' ρ b' σ (upd H' p (.lst (xs ++ [y]))) p (.lst (xs ++ [y])) ∧ OkF K C S' ρ b' σ H' p (.lst xs) := by
  obtain ⟨c, h1, h2, h3, h4, O, s, w, n⟩ := o
  have hp : H' p = some (.lst xs) := d.fr p _ h1 h4
  have sn : S' p = none := by
    cases q : S' p with
    | none => rfl
    | some u =>
      rcases d.new p u q with h | h | ⟨ys, h⟩
      · have z : S p = some u := h
        rw [h2] at z; cases z
      · have z : H p = none := h
        rw [h1] at z; cases z
      · have z := d.sub _ _ q
        rw [hp, h] at z; cases z
  obtain ⟨c', O', s', w'⟩ := OkS.frame ⟨c, O, s, w⟩ d es
  have fr := OkS.frame ⟨c, O, s, w⟩ d es
  have sl : Slots K C.ba S' H' σ ρ O := s.mono es (fun q hq u h => d.fr q u h (w.al q hq).2.2)
  have ow : Own C S' O := by
    refine ⟨w.nd, fun q hq => ⟨?_, (w.al q hq).2⟩⟩
    cases z : S' q with
    | none => rfl
    | some u =>
      rcases d.new q u z with h | h | ⟨ys, h⟩
      · have y : S q = some u := h
        rw [(w.al q hq).1] at y
        cases y
      · obtain ⟨u', hu⟩ := s.there q hq
        have y : H q = none := h
        rw [hu] at y
        cases y
      · obtain ⟨u', hu, nt⟩ := s.thereO q hq
        have y := d.sub _ _ z
        rw [d.fr q u' hu (w.al q hq).2.2, h] at y
        exact absurd (Option.some.inj y) (nt ys)
  refine ⟨hp, ⟨fr.core.write sn h3 h4, upd_same, sn, h3, h4, O, sl.mono (Same.refl _) (fun q hq u h => ?_), ow, n⟩, fr.core, hp, sn, h3, h4, O, sl, ow, n⟩
  rw [upd_ne (fun z => n (by rw [← z]; exact hq))]
  exact h
theorem noex_out {K : PySem.W.Frag} {S : Hp} {ρ : Env} {σ : L2.St} {α : Type} {R : α → Bag → Hp → Hp → Prop} {o : Out α} {a : α} {b : Bag} (h : o.noex = .ok a b) (q : ∀ S' H', Same S S' → OkS K C S' ρ b σ H' → R a b S' H') : OutG K C W0 S ρ σ R o := by
  cases o with
  | ok a' b' => cases h; exact q
  | ex c ns ds bx => cases h
  | stuck => cases h
theorem bind_ok {α β : Type} {o : Out α} {k : α → Bag → Out β} {z : β} {b : Bag} (h : o.bind k = .ok z b) : ∃ a b1, o = .ok a b1 ∧ k a b1 = .ok z b := by
  cases o with
  | ok a b1 => exact ⟨a, b1, rfl, h⟩
  | ex c ns ds bx => cases h
  | stuck => cases h
theorem lcD_noex : ∀ {ds : List D} {ρ : Env} {b : Bag} {c : Str} {ns : List Str} {es : List D} {bx : Bag}, lcD f T F ds ρ b ≠ .ex c ns es bx
  | [], _, _, _, _, _, _, h => by cases h
  | d :: ds, ρ, b, c, ns, es, bx, h => by
    unfold lcD at h
    split at h
    · cases h
    · rename_i z _
      cases hT : T z.1 z.2 with
      | ex _ _ _ => rw [hT] at h; cases h
      | stuck => rw [hT] at h; cases h
      | ok k b1 =>
        rw [hT] at h
        have h : (if k = true then ((F z.1 b1).noex).bind fun y b2 => (lcD f T F ds ρ b2).bind fun ys b3 => .ok (y :: ys) b3 else lcD f T F ds ρ b1) = Out.ex c ns es bx := h
        cases k with
        | false => rw [if_neg Bool.false_ne_true] at h; exact lcD_noex h
        | true =>
          rw [if_pos rfl] at h
          cases hF : F z.1 b1 with
          | ex _ _ _ => rw [hF] at h; cases h
          | stuck => rw [hF] at h; cases h
          | ok y b2 =>
            rw [hF] at h
            have h : ((lcD f T F ds ρ b2).bind fun ys b3 => .ok (y :: ys) b3) = Out.ex c ns es bx := h
            cases hL : lcD f T F ds ρ b2 with
            | ok _ _ => rw [hL] at h; cases h
            | stuck => rw [hL] at h; cases h
            | ex _ _ _ => exact lcD_noex hL
/-- [elt for target in iter if ..] -/
theorem lc_of (hT : CTg X.K g f vs) {σ : L2.St} {H : Hp} {Q : VK} (hh : tDF X.K C W (eLc Fi vs f T F) σ H Q) : tLc (tDI X.K C W Fi) g (tDtany X.K T) (tDany X.K F) vs σ H Q := by
  obtain ⟨S, ρ, b, ok, q⟩ := hh
  refine ⟨S, ρ, b, ok, ?_⟩
  unfold eLc at q
  cases hF : Fi ρ b with
  | stuck => rw [hF] at q; exact q.elim
  | ex c ns ds bx => rw [hF] at q; exact q
  | ok ds b1 =>
    rw [hF] at q
    have q : OutF X.K C W S ρ σ Q (if ds.length ≤ 100000 then (lcD f T F ds (wipeE (unown ρ) vs) b1).bind fun ys b2 => .ok (.lst ys) b2 else .stuck) := q
    by_cases hl : ds.length ≤ 100000
    · rw [if_pos hl] at q
      intro S1 H1 e1 ok1 J hJ Dd hD
      cases hL : lcD f T F ds (wipeE (unown ρ) vs) b1 with
      | stuck => rw [hL] at q; exact q.elim
      | ex c ns es bx => exact absurd hL lcD_noex
      | ok ys b2 =>
        rw [hL] at q
        have q : ∀ S' H' p u, Same S S' → OkF X.K C S' ρ b2 σ H' p u → ODR X.K C.ba S' u (.lst ys) → Q (.ref p) H' := q
        refine ⟨fun i m H => m = ds.length - i ∧ i ≤ ds.length ∧ ∃ S' b xs pre rest, Same S1 S' ∧ OkF X.K C S' ρ b σ H Dd (.lst xs) ∧ DRs X.K C.ba S' xs pre ∧ xs.length ≤ i ∧ lcD f T F (ds.drop i) (wipeE (unown ρ) vs) b = .ok rest b2 ∧ pre ++ rest = ys,
          ⟨ds.length, by simp, Nat.zero_le _, S1, b1, [], [], ys, Same.refl _, ok1.fresh hD, .nil, Nat.zero_le _, by simpa using hL, rfl⟩, ?_⟩
        rintro i m H ⟨rfl, hi, S', b', xs, pre, rest, e', of, rx, hxl, hr, hys⟩
        by_cases hlt : i < ds.length
        · have hd : ds[i]? = some ds[i] := List.getElem?_eq_getElem hlt
          have oks := of.ok
          obtain ⟨go, yl⟩ := (hJ C rfl i S' ρ b' σ H e' oks).1 _ hd
          rw [List.drop_eq_getElem_cons hlt] at hr
          unfold lcD at hr
          refine .inr ⟨go, fun H => i + 1 ≤ ds.length ∧ ∃ S' b xs pre rest, Same S1 S' ∧ OkF X.K C S' ρ b σ H Dd (.lst xs) ∧ DRs X.K C.ba S' xs pre ∧ xs.length ≤ i + 1 ∧ lcD f T F (ds.drop (i + 1)) (wipeE (unown ρ) vs) b = .ok rest b2 ∧ pre ++ rest = ys,
            fun H' n => ⟨ds.length - (i + 1), by omega, rfl, n.1, n.2⟩, fun x H' y => ?_⟩
          -- the item, seen from within
          have oki := (oks.inner).wipe vs
          have okw : OkS X.K (inner C S' H) S' (wipeE (unown ρ) vs) b' (wipe σ vs) H := oki
          obtain ⟨_, yl2⟩ := (hJ (inner C S' H) rfl i S' _ b' _ H e' okw).1 _ hd
          obtain ⟨S2, e2, ok2, r2, k2⟩ := yl2 x H' y
          split at hr
          · cases hr
          · rename_i z hg
            refine hT (inner C S' H) S2 _ b' _ H' x _ z.1 z.2 _ ok2 r2 hg fun σ2 hw ok3 => ⟨by rw [hw]; exact wipe_idem, ?_⟩
            obtain ⟨k, b3, hk, hr⟩ := bind_ok hr
            refine ⟨inner C S' H, S2, z.1, z.2, ok3, noex_out hk fun S4 H4 e4 ok4 => ?_⟩
            cases k with
            | false =>
              rw [if_neg Bool.false_ne_true] at hr ⊢
              obtain ⟨_, _, o3⟩ := of.push (y := x) ok4.core (e2.trans e4)
              exact ⟨hlt, S4, b3, xs, pre, rest, (e'.trans e2).trans e4, o3, rx.up (e2.trans e4), by omega, hr, hys⟩
            | true =>
              rw [if_pos rfl] at hr ⊢
              obtain ⟨y0, b5, hy, hr⟩ := bind_ok hr
              obtain ⟨ys', b6, hr1, hr2⟩ := bind_ok hr
              cases hr2
              refine ⟨inner C S' H, S4, z.1, b3, ok4, noex_out hy fun S5 H5 e5 ok5 v5 r5 => ?_⟩
              have e25 : Same S' S5 := (e2.trans e4).trans e5
              obtain ⟨a1, a2, _⟩ := of.push (y := v5) ok5.core e25
              refine ⟨xs, a1, small_lt (by omega), hlt, S5, b5, xs ++ [v5], pre ++ [y0], ys', e'.trans e25, a2, (rx.up e25).app (.cons r5 .nil), by simp; omega, hr1, ?_⟩
              rw [← hys]
              simp
        · have e : i = ds.length := by omega
          subst e
          rw [List.drop_length] at hr
          cases hr
          refine .inl ⟨(hJ C rfl _ S' ρ _ σ H e' of.ok).2 rfl, ?_⟩
          rw [List.append_nil] at hys
          subst hys
          exact q S' H Dd _ (e1.trans e') of (.lst rx)
    · rw [if_neg hl] at q
      exact q.elim
theorem d_lc (hT : CTg X.K g f vs) (h : PE X e (tLc (tDI X.K C W Fi) g (tDtany X.K T) (tDany X.K F) vs)) : PE X e (tDF X.K C W (eLc Fi vs f T F)) := pe_imp h fun _ _ _ hh => lc_of hT hh
theorem d_setlc {st : Stmt} {i : Nat} (hT : CTg X.K g f vs) (h : PS X st (tAsg (tLc (tDI X.K C W Fi) g (tDtany X.K T) (tDany X.K F) vs) (gName i))) : PS X st (tAsg (tDF X.K C W (eLc Fi vs f T F)) (gName i)) := ps_imp h fun _ _ _ hh => lc_of hT hh
end
end DL

set_option maxHeartbeats 1000000
namespace DL
open PySem PySem.Spec PyProof.Rows L2
def OutD (K : PySem.W.Frag) (C : Cq) (S : Hp) (Q : VK) (E : XK) : Out D → Prop
  | .ok d b => ∀ S' H v, Same S S' → Core C S' b H → DR K C.ba S' v d → Q v H
  | .ex c ns ds bx => ∀ (dx : Option Addr) S' H b, Same S S' → Core C S' b H → XR K C.ba S' dx ns ds → b = bx → E (.ref (He.ga K c)) dx H
  | .stuck => False
/-- a def's promise by its function of data -/
def spD (K : PySem.W.Frag) (F : DFn) : Sp := fun vs H Q E => ∃ (S : Hp) (ba : Option Addr) (b : Bag) (ds : List D), Core ⟨H, S, ba⟩ S b H ∧ DRs K ba S vs ds ∧ OutD K ⟨H, S, ba⟩ S Q E (F ds b)
/-- .. that hands back a fresh object -/
def OutDF (K : PySem.W.Frag) (C : Cq) (S : Hp) (Q : VK) : Out D → Prop
  | .ok d b => ∀ S' H p u, Same S S' → Core C S' b H → H p = some u → S' p = none → C.H0 p = none → C.ba ≠ some p → ODR K C.ba S' u d → Q (.ref p) H
  | .ex _ _ _ _ => False
  | .stuck => False
def spDF (K : PySem.W.Frag) (F : DFn) : Sp := fun vs H Q _ => ∃ (S : Hp) (ba : Option Addr) (b : Bag) (ds : List D), Core ⟨H, S, ba⟩ S b H ∧ DRs K ba S vs ds ∧ OutDF K ⟨H, S, ba⟩ S Q (F ds b)
def SO.outF : SO → Out D
  | .ro d b => .ok d b
  | _ => .stuck
@[simp] def runF (n m : Nat) (G : SF) : DFn := fun ds b => if ds.length = m then (G (startE n ds) b).outF else .stuck
theorem slots_none {K : PySem.W.Frag} {ba : Option Addr} {S H : Hp} : ∀ k : Nat, Slots K ba S H (List.replicate k none) (List.replicate k none) []
  | 0 => .nil
  | k + 1 => .no (slots_none k)
theorem slots_start {K : PySem.W.Frag} {ba : Option Addr} {S H : Hp} (k : Nat) : ∀ (ds : List D) (vs : List V), DRs K ba S vs ds → Slots K ba S H (vs.map some ++ List.replicate k none) (ds.map (fun d => some (.sh d)) ++ List.replicate k none) []
  | [], _, r => by cases r; exact slots_none k
  | d :: ds, _, r => by
    cases r with
    | cons r1 r2 => exact .sh r1 (slots_start k ds _ r2)
theorem okS_start {K : PySem.W.Frag} {ba : Option Addr} {S H : Hp} {vs : List V} {ds : List D} {b : Bag} {N : List Str} (c : Core ⟨H, S, ba⟩ S b H) (r : DRs K ba S vs ds) : OkS K ⟨H, S, ba⟩ S (startE N.length ds) b (start N vs) H := by
  refine ⟨c, [], ?_, List.nodup_nil, fun _ h => by cases h⟩
  unfold startE L2.start
  rw [r.length]
  exact slots_start _ _ _ r
abbrev WD (E : XK) : WX := fun cls d _ H => E cls d H
variable {Gd Gd' : Around → Prop}
section
variable {P : Program} {w : World} {K : PySem.W.Frag} {mg : Str → Option Value} {base : Heap}
theorem spD_len {m : Nat} {G : SF} {n : Nat} {vs : List V} {H : Hp} {Q : VK} {E : XK} (h : spD K (runD n m G) vs H Q E) : vs.length = m := by
  obtain ⟨S, ba, b, ds, c, r, o⟩ := h
  by_cases hl : ds.length = m
  · rw [r.length, hl]
  · unfold runD at o
    rw [if_neg hl] at o
    exact o.elim
theorem spDF_len {m : Nat} {G : SF} {n : Nat} {vs : List V} {H : Hp} {Q : VK} {E : XK} (h : spDF K (runF n m G) vs H Q E) : vs.length = m := by
  obtain ⟨S, ba, b, ds, c, r, o⟩ := h
  by_cases hl : ds.length = m
  · rw [r.length, hl]
  · unfold runF at o
    rw [if_neg hl] at o
    exact o.elim
/-- THE RULE for a def -/
theorem d_def {x qual : Str} {st : Stmt} {f : Addr} {fd : FuncData} {N ps : List Str} {k : Nat} {G : SF} (F : Fun K x qual st f fd) (Sc : FnScope N ps (defScope st))
    (body : ∀ (cdv : Value) (A : Around) (outer : List PySem.Env) (s : Shared) (H : Hp) (E : XK) (C : Cq), Room k (A.deeper (envOfC qual (defScope st) s.heap.objs.size f cdv)) → Gd A →
      PSs (cxOf (L2.CX P w) P w K mg base N qual (defScope st) f cdv A outer s H E) (defBody st) (tDS K C (WD E) G)) : FnG P w K mg base Gd (k + 1) f fd ps (spD K (runD N.length ps.length G)) := by
  refine FnG.body F Sc (fun vs H Q E h => spD_len h) (fun cdv A outer s H vs Q E hr hg h => ?_)
  obtain ⟨S, ba, b, ds, c, r, o⟩ := h
  refine ⟨_, body cdv A outer s H E ⟨H, S, ba⟩ hr hg, S, startE N.length ds, b, okS_start c r, ?_⟩
  unfold runD at o
  by_cases hl : ds.length = ps.length
  · rw [if_pos hl] at o
    cases hG : G (startE N.length ds) b with
    | nx ρ b' => rw [hG] at o; exact fun S' σ H' e ok => o S' H' .non e ok.core .non
    | rt d b' => rw [hG] at o; exact fun S' H' v e ok r => o S' H' v e ok r
    | ro d b' => rw [hG] at o; exact o.elim
    | bk ρ b' => rw [hG] at o; exact o.elim
    | ct ρ b' => rw [hG] at o; exact o.elim
    | ex ρ c ns es bx => rw [hG] at o; exact fun dx S' σ H' b e ok x => o dx S' H' b e ok.core x
    | stuck => rw [hG] at o; exact o
  · rw [if_neg hl] at o
    exact o.elim
theorem d_defF {x qual : Str} {st : Stmt} {f : Addr} {fd : FuncData} {N ps : List Str} {k : Nat} {G : SF} (F : Fun K x qual st f fd) (Sc : FnScope N ps (defScope st))
    (body : ∀ (cdv : Value) (A : Around) (outer : List PySem.Env) (s : Shared) (H : Hp) (E : XK) (C : Cq), Room k (A.deeper (envOfC qual (defScope st) s.heap.objs.size f cdv)) → Gd A →
      PSs (cxOf (L2.CX P w) P w K mg base N qual (defScope st) f cdv A outer s H E) (defBody st) (tDS K C (WD E) G)) : FnG P w K mg base Gd (k + 1) f fd ps (spDF K (runF N.length ps.length G)) := by
  refine FnG.body F Sc (fun vs H Q E h => spDF_len h) (fun cdv A outer s H vs Q E hr hg h => ?_)
  obtain ⟨S, ba, b, ds, c, r, o⟩ := h
  refine ⟨_, body cdv A outer s H E ⟨H, S, ba⟩ hr hg, S, startE N.length ds, b, okS_start c r, ?_⟩
  unfold runF at o
  by_cases hl : ds.length = ps.length
  · rw [if_pos hl] at o
    cases hG : G (startE N.length ds) b with
    | nx ρ b' => rw [hG] at o; exact o.elim
    | rt d b' => rw [hG] at o; exact o.elim
    | ro d b' => rw [hG] at o; exact fun S' H' p u e ok h1 h2 h3 h4 r => o S' H' p u e ok h1 h2 h3 h4 r
    | bk ρ b' => rw [hG] at o; exact o.elim
    | ct ρ b' => rw [hG] at o; exact o.elim
    | ex ρ c ns es bx => rw [hG] at o; exact o.elim
    | stuck => rw [hG] at o; exact o
  · rw [if_neg hl] at o
    exact o.elim
end
section
variable {X : Cx} {C : Cq} {W : WX} {e a b : Expr} {pos : Pos} {F Fa Fb : EF} {G : AF}
theorem spD_of {K : PySem.W.Frag} {Fn : DFn} {S : Hp} {ρ : Env} {b : Bag} {σ : L2.St} {H : Hp} {vs : List V} {ds : List D} {Q : VK} (ok : OkS K C S ρ b σ H) (r : DRs K C.ba S vs ds)
    (q : OutG K C W S ρ σ (fun d _ S' H' => ∀ v, DR K C.ba S' v d → Q v H') (Fn ds b)) : spD K Fn vs H Q (fun cls d H' => W cls d σ H') := by
  refine ⟨S, C.ba, b, ds, ok.core.inner, r, ?_⟩
  cases hF : Fn ds b with
  | ok d b' => rw [hF] at q; exact fun S' H' v e c r => q S' H' e (ok.frame c e) v r
  | ex c ns es bx => rw [hF] at q; exact fun dx S' H' b e c x => q dx S' H' b e (ok.frame c e) x
  | stuck => rw [hF] at q; exact q
/-- f(..), as a reading -/
def tCG (sp : Sp) (W : WX) (t : TA) : TE := fun σ H Q => t σ H fun vs H1 => sp vs H1 Q (fun c d H' => W c d σ H')
theorem pe_callG {k : Nat} {f : Addr} {fd : FuncData} {ps : List Str} {sp : Sp} {x : Str} {p : Pos} {es : List Expr} {t : TA} (FO : FnG X.prog X.w X.K X.mg X.base Gd k f fd ps sp) (hr : Room k X.A) (hgd : Gd X.A) (hg : Gl X x) (hm : X.mg x = some (.ref f)) (hk : PySem.W.keepIn X.K (.ref f) = true)
    (hb : Binds X.K fd ps []) (tk : Takes X W) (ha : PA X (e :: es) t) (hdb : (x == ("__debug__" : Str)) = false) (he : starEach (e :: es) X.env = (false, eval e X.env) :: starEach es X.env) (hpl : (backTo pos (starEach es X.env)).any (·.1) = false) :
    PE X (.Call (.Name x p) (e :: es) [] pos) (tCG sp W t) := ⟨fun pins s σ H Q I h =>
  wpAny_Call_Name_kw (ld_glob I hg hm (PySem.W.callWith_K (h₀ := X.base) I.ok.mod.kin hk (thn (ha.run pos pins s σ H _ I h) fun us s1 z => by
    obtain ⟨vs, H1, J, r, q⟩ := z
    have hl : us.length = ps.length := by rw [← r.length]; exact FO.many _ _ _ _ q
    have bt := hb s1 us J.kIn (by rw [List.append_nil]; exact hl)
    rw [List.append_nil] at bt
    exact ⟨J.kIn, FO.at_ hr hgd tk J bt r q⟩) he hpl) hdb)⟩
theorem d_call {k : Nat} {f : Addr} {fd : FuncData} {ps : List Str} {Fn : DFn} {x : Str} {p : Pos} {es : List Expr} (FO : FnG X.prog X.w X.K X.mg X.base Gd k f fd ps (spD X.K Fn)) (hr : Room k X.A) (hgd : Gd X.A) (hg : Gl X x) (hm : X.mg x = some (.ref f)) (hk : PySem.W.keepIn X.K (.ref f) = true)
    (hb : Binds X.K fd ps []) (tk : Takes X W) (ha : PA X (e :: es) (tDA X.K C W G)) (hdb : (x == ("__debug__" : Str)) = false := by decide) (he : starEach (e :: es) X.env = (false, eval e X.env) :: starEach es X.env := by rfl)
    (hpl : (backTo pos (starEach es X.env)).any (·.1) = false := by rfl) : PE X (.Call (.Name x p) (e :: es) [] pos) (tD X.K C W (eCall Fn G)) :=
  pe_imp (pe_callG FO hr hgd hg hm hk hb tk ha hdb he hpl) fun σ H Q ⟨S, ρ, b, ok, q⟩ =>
    ⟨S, ρ, b, ok, q.bind.imp fun ds b1 S1 H1 s1 ok1 q1 vs r => spD_of ok1 r q1⟩
/-- f(g(..)): g hands back a fresh list of three ints, which f takes as its bag -/
def eBag (Fn Bn : DFn) (G : AF) : EF := fun ρ b => (G ρ b).bind fun ds b' => match Bn ds b' with
  | .ok (.lst [.int x, .int y, .int z]) b2 => (match Fn [.bag] ⟨x, y, z⟩ with
    | .ok (.bl k) _ => .ok (.bl k) b2
    | _ => .stuck)
  | _ => .stuck
theorem outDF_three {K : PySem.W.Frag} {ba : Option Addr} {S : Hp} {u : HO} {x y z : Int} (r : ODR K ba S u (.lst [.int x, .int y, .int z])) : u = .lst [.int x, .int y, .int z] := by
  cases r with
  | lst r =>
    cases r with
    | cons r1 r =>
      cases r with
      | cons r2 r =>
        cases r with
        | cons r3 r =>
          cases r; cases r1; cases r2; cases r3
          rfl
theorem d_callBag {k kb : Nat} {f fb : Addr} {fd fdb : FuncData} {ps psb : List Str} {Fn Bn : DFn} {x xb : Str} {p pb posb : Pos} {e2 : Expr} {es : List Expr} (FO : FnG X.prog X.w X.K X.mg X.base Gd k f fd ps (spD X.K Fn)) (hr : Room k X.A) (hgd : Gd X.A) (hg : Gl X x) (hm : X.mg x = some (.ref f)) (hk : PySem.W.keepIn X.K (.ref f) = true)
    (hb : Binds X.K fd ps []) (tk : Takes X W) (FB : FnG X.prog X.w X.K X.mg X.base Gd' kb fb fdb psb (spDF X.K Bn)) (hrb : Room kb X.A) (hgd' : Gd' X.A) (hgb : Gl X xb) (hmb : X.mg xb = some (.ref fb)) (hkb : PySem.W.keepIn X.K (.ref fb) = true)
    (hbb : Binds X.K fdb psb []) (ha : PA X (e2 :: es) (tDA X.K C W G)) (hdb : (x == ("__debug__" : Str)) = false := by decide) (hdb2 : (xb == ("__debug__" : Str)) = false := by decide)
    (he2 : starEach (e2 :: es) X.env = (false, eval e2 X.env) :: starEach es X.env := by rfl) (hpl2 : (backTo posb (starEach es X.env)).any (·.1) = false := by rfl)
    (he : starEach [.Call (.Name xb pb) (e2 :: es) [] posb] X.env = (false, eval (.Call (.Name xb pb) (e2 :: es) [] posb) X.env) :: starEach [] X.env := by rfl) (hpl : (backTo pos (starEach [] X.env)).any (·.1) = false := by rfl) :
    PE X (.Call (.Name x p) [.Call (.Name xb pb) (e2 :: es) [] posb] [] pos) (tD X.K C W (eBag Fn Bn G)) :=
  pe_imp (pe_callG FO hr hgd hg hm hk hb tk (pa_cons (pe_callG FB hrb hgd' hgb hmb hkb hbb tk ha hdb2 he2 hpl2) pa_nil he) hdb he hpl) fun σ H Q ⟨S, ρ, b, ok, q⟩ => by
  refine ⟨S, ρ, b, ok, q.bind.imp fun ds b1 S1 H1 s1 ok1 q1 vs r => ?_⟩
  refine ⟨S1, C.ba, b1, ds, ok1.core.inner, r, ?_⟩
  split at q1
  · rename_i x y z b2 hB
    rw [hB]
    intro S2 H2 p2 u e2 c2 h1 h2 h3 h4 ro
    have hu := outDF_three ro
    subst hu
    split at q1
    · rename_i k b3 hF
      -- the callee sees nothing shared but has its bag at p2
      refine ⟨fun _ => none, some p2, ⟨x, y, z⟩, [.bag], ⟨fun a o e => (by cases e), fun a o e _ => e, fun a e => ?_, fun a o e => (by cases e)⟩, .cons (.bag rfl) .nil, ?_⟩
      · cases e; exact ⟨h1, rfl⟩
      · rw [hF]
        intro S3 H3 v3 e3 c3 r3
        cases r3
        have hfr : ∀ a o, H2 a = some o → a ≠ p2 → H3 a = some o := fun a o h n => c3.fr a o h (fun z => n (Option.some.inj z).symm)
        have c4 : Core (inner C S1 H1) S2 b2 H3 := by
          refine ⟨fun a o e => hfr a o (c2.sub a o e) (ne_of_none e h2), fun a o e hb => hfr a o (c2.fr a o e hb) (ne_of_none e h3), fun a e => ?_, c2.new⟩
          obtain ⟨g1, g2⟩ := c2.bag a e
          exact ⟨hfr a _ g1 (fun z => h4 (by rw [← z]; exact e)), g2⟩
        have ok3 : OkS X.K C S2 ρ b2 σ H3 := ok1.frame c4 e2
        exact q1 S2 H3 e2 ok3 _ (.bl k)
    · exact q1.elim
  · exact q1.elim
end
end DL

set_option maxHeartbeats 1000000
namespace DL
open PySem PySem.Spec PyProof.Rows L2
theorem tuple_once (l : Addr) (items : Array Value) (n : Nat) (dd : Option Addr) (sl : Array (Option Value)) (u : Tok) (c1 : (items.isEmpty || (1 : Int) == 1) = true) :
    Meets (Builtin.«tuple.__mul__» ⟨[.ref l, .int 1 u], []⟩) (fun _ R s => s.heap.get? l = some { cls := .type "tuple", dict := dd, data := .seq items n, slots := sl } ∧ R (.ok (.ret (Value.ref l))) s) :=
  .of_wp fun prog w A R s h => by
    obtain ⟨hp, g, d, tk, os⟩ := s
    obtain ⟨hl, h⟩ := h
    have f1 := AutoSeq1.idx_int
    wp_walk using wpAny_loadPart' hl
    repeat (first
      | (refine wpAny_ite_false (by decide) ?_; wp_walk using wpAny_loadPart' hl)
      | (refine wpAny_ite_true c1 ?_; wp_walk using wpAny_loadPart' hl)
      | (refine wpAny_ite_true (by simp) ?_; wp_walk using wpAny_loadPart' hl))
    all_goals exact ⟨_, rfl, h⟩
def rOnce (K : PySem.W.Frag) : R2 := fun x y H Q => ∃ l xs, x = .ref l ∧ y = .int 1 ∧ SqT K H l xs ∧ Q (.ref l) H
theorem op_once {X : Cx} : OpR X (binaryOp .Mult) (rOnce X.K) := by
  intro pins s σ H x y v u Q I rx ry ⟨l, xs, hx, hy, hT, q⟩
  subst hx hy
  cases rx
  obtain ⟨t, rfl⟩ := ry
  obtain ⟨its, r, ⟨⟨cls, dd, data, sl⟩, ho, hc, n, hd⟩, hs⟩ := I.tuple hT
  simp only at hc hd
  subst hc hd
  refine wpAny_binaryOp_repeat_ref (T := "tuple") (U := "int") (by decide) ⟨_, ho, rfl⟩ (fun s' => typeIs_int s' 1 t) noFill_tuple_mul F.fills_int_mul F.slot_int_rmul
    repeat_tuple F.slot_int_index.lookup (call_meets F.slot_int_rmul (typeIs_int s 1 t) F.entry_int_rmul (F.args_int_rmul_2 _ _) (int_rmul_tuple 1 t l its.toArray n dd sl) ?_)
  refine ⟨ho, rfl, ⟨_, ho, rfl⟩, call_meets F.slot_tuple_mul ⟨_, ho, rfl⟩ F.entry_tuple_mul (F.args_tuple_mul_2 _ _) (tuple_once l its.toArray n dd sl t (by simp)) ⟨ho, ?_⟩⟩
  exact ⟨.ref l, H, I, rfl, q⟩
theorem big_le {n : Nat} (h : n ≤ 100000) : n ≤ sizeLine := by rw [sizeLine_eq]; omega
def powF : D → D → Option D
  | .int i, .int j => if 0 ≤ j ∧ j ≤ 1000 ∧ i.natAbs < 2 ^ 64 then some (.int (i ^ j.toNat)) else none
  | _, _ => none
theorem DRs.rep {K : PySem.W.Frag} {ba : Option Addr} {S : Hp} {vs : List V} {ds : List D} (h : DRs K ba S vs ds) : ∀ k : Nat, DRs K ba S (List.replicate k vs).flatten (List.replicate k ds).flatten
  | 0 => by simpa using DRs.nil
  | k + 1 => by
    rw [List.replicate_succ, List.replicate_succ, List.flatten_cons, List.flatten_cons]
    exact h.app (DRs.rep h k)
section
variable {X : Cx} {C : Cq} {W : WX} {e a b : Expr} {pos : Pos} {F Fa Fb : EF} {G : AF}
def rAddA (K : PySem.W.Frag) : R2 := fun x y H Q => (rI0 fun i j => .int (i + j)) x y H Q ∨ (∃ i j, x = .str i ∧ y = .str j ∧ i.length + j.length ≤ sizeLine ∧ Q (.str (i ++ j)) H) ∨ rCat x y H Q ∨ rCatA K x y H Q
theorem op_addA : OpR X (binaryOp .Add) (rAddA X.K) := op_add.or (op_add_str.or (op_cat.or op_catA))
theorem add2 {K : PySem.W.Frag} : Op2 K C (rAddA K) addF := by
  intro S ρ b σ H v w d e z Q ok r1 r2 hz q
  cases d with
  | int i =>
    cases e with
    | int j =>
      cases hz; cases r1; cases r2
      exact .inl ⟨i, j, rfl, rfl, q _ S H (Same.refl _) ok (.int _)⟩
    | _ => cases hz
  | str x =>
    cases e with
    | str y =>
      simp only [addF] at hz
      by_cases h : x.length + y.length ≤ 100000
      · rw [if_pos h] at hz
        cases hz; cases r1; cases r2
        exact .inr (.inl ⟨x, y, rfl, rfl, big_le h, q _ S H (Same.refl _) ok (.str _)⟩)
      · rw [if_neg h] at hz; cases hz
    | _ => cases hz
  | lst x =>
    cases e with
    | lst y =>
      simp only [addF] at hz
      by_cases h : x.length + y.length ≤ 100000
      · rw [if_pos h] at hz
        cases hz
        cases r1 with
        | lst h1 h2 =>
          cases r2 with
          | lst h3 h4 =>
            refine .inr (.inr (.inl ⟨_, _, _, _, rfl, rfl, ok.core.sub _ _ h1, ok.core.sub _ _ h3, by rw [h2.length, h4.length]; exact big_le h, fun p hp => ?_⟩))
            exact q _ _ _ (ok.same hp) (ok.alloc hp) (.lst upd_same ((h2.app h4).up (ok.same hp)))
      · rw [if_neg h] at hz; cases hz
    | _ => cases hz
  | tup x =>
    cases e with
    | tup y =>
      simp only [addF] at hz
      by_cases h : x.length + y.length ≤ 100000
      · rw [if_pos h] at hz
        cases hz
        cases r1 with
        | tup h1 h2 =>
          cases r2 with
          | tup h3 h4 =>
            refine .inr (.inr (.inr ⟨_, _, _, _, rfl, rfl, seqT ok.core.sub h1, seqT ok.core.sub h3, by rw [h2.length, h4.length]; exact big_le h, fun e0 => ?_, fun _ e0 => ?_, fun _ _ p hp => ?_⟩))
            · subst e0
              cases h2
              exact q _ S H (Same.refl _) ok (.tup h3 h4)
            · subst e0
              cases h4
              rw [List.append_nil] at q
              exact q _ S H (Same.refl _) ok (.tup h1 h2)
            · exact q _ _ _ (ok.same hp) (ok.alloc hp) (.tup upd_same ((h2.app h4).up (ok.same hp)))
      · rw [if_neg h] at hz; cases hz
    | _ => cases hz
  | _ => cases hz
theorem d_add (ha : PE X a (tD X.K C W Fa)) (hb : PE X b (tD X.K C W Fb)) : PE X (.BinOp a .Add b pos) (tD X.K C W (e2 addF Fa Fb)) := d_op op_addA add2 ha hb
theorem rI_of0 {f : Value → Value → Sem Value} {g : Int → Int → V} (h : OpR X f (rI0 g)) : OpR X f (rI (fun _ _ => True) g) := fun pins s σ H x y v u Q I rx ry ⟨i, j, e1, e2, _, q⟩ => h pins s σ H x y v u Q I rx ry ⟨i, j, e1, e2, q⟩
theorem d_sub (ha : PE X a (tD X.K C W Fa)) (hb : PE X b (tD X.K C W Fb)) : PE X (.BinOp a .Sub b pos) (tD X.K C W (e2 subF Fa Fb)) :=
  d_op (rI_of0 op_sub) (i2 (g' := fun i j => .int (i - j)) (fun d e z h => by
    unfold subF at h
    split at h
    · cases h; exact ⟨_, _, rfl, rfl, trivial, rfl⟩
    · cases h) fun _ _ _ => .int _) ha hb
theorem d_mod (ha : PE X a (tD X.K C W Fa)) (hb : PE X b (tD X.K C W Fb)) : PE X (.BinOp a .Mod b pos) (tD X.K C W (e2 modF Fa Fb)) :=
  d_op op_mod (i2 (g' := fun i j => .int (i % j)) (fun d e z h => by
    unfold modF at h
    split at h
    · split at h
      · cases h; exact ⟨_, _, rfl, rfl, by assumption, rfl⟩
      · cases h
    · cases h) fun _ _ _ => .int _) ha hb
theorem d_fdiv (ha : PE X a (tD X.K C W Fa)) (hb : PE X b (tD X.K C W Fb)) : PE X (.BinOp a .FloorDiv b pos) (tD X.K C W (e2 fdivF Fa Fb)) :=
  d_op op_fdiv (i2 (g' := fun i j => .int (i / j)) (fun d e z h => by
    unfold fdivF at h
    split at h
    · split at h
      · cases h; exact ⟨_, _, rfl, rfl, by assumption, rfl⟩
      · cases h
    · cases h) fun _ _ _ => .int _) ha hb
theorem d_pow (ha : PE X a (tD X.K C W Fa)) (hb : PE X b (tD X.K C W Fb)) : PE X (.BinOp a .Pow b pos) (tD X.K C W (e2 powF Fa Fb)) :=
  d_op op_pow (i2 (g' := fun i j => .int (i ^ j.toNat)) (fun d e z h => by
    unfold powF at h
    split at h
    · split at h
      · rename_i q
        cases h; exact ⟨_, _, rfl, rfl, ⟨q.1, by omega, q.2.2⟩, rfl⟩
      · cases h
    · cases h) fun _ _ _ => .int _) ha hb
def rMulS : R2 := fun x y H Q => ∃ (a : Str) (k : Int), x = .str a ∧ y = .int k ∧ ((a.length ≤ 1000 ∧ -1000 ≤ k ∧ k ≤ 1000) ∨ (a.length ≤ 10000 ∧ -100 ≤ k ∧ k ≤ 100)) ∧ Q (.str (Txt.mul a k)) H
theorem mulOk_of2 {a : Str} {k : Int} (h1 : a.length ≤ 10000) (h2 : -100 ≤ k) (h3 : k ≤ 100) : MulOk a k := by
  refine ⟨?_, fun hk _ => ?_, fun hk _ => ?_⟩
  · simp only [Bool.or_eq_false_iff, decide_eq_false_iff_not]
    omega
  · have : (10000 : Int) ≤ (2 ^ 63 - 1) / k := by
      rw [Int.le_ediv_iff_mul_le (by omega)]
      omega
    omega
  · have hm : a.length * k.toNat ≤ 10000 * 100 := Nat.mul_le_mul h1 (by omega)
    unfold PySem.Builtin.Str.tooLong
    rw [sizeLine_eq]
    simp only [decide_eq_false_iff_not]
    omega
theorem mulOk_of {a : Str} {k : Int} (h1 : a.length ≤ 1000) (h2 : -1000 ≤ k) (h3 : k ≤ 1000) : MulOk a k := by
  refine ⟨?_, fun hk _ => ?_, fun hk _ => ?_⟩
  · simp only [Bool.or_eq_false_iff, decide_eq_false_iff_not]
    omega
  · have : (1000 : Int) ≤ (2 ^ 63 - 1) / k := by
      rw [Int.le_ediv_iff_mul_le (by omega)]
      omega
    omega
  · have hm : a.length * k.toNat ≤ 1000 * 1000 := Nat.mul_le_mul h1 (by omega)
    unfold PySem.Builtin.Str.tooLong
    rw [sizeLine_eq]
    simp only [decide_eq_false_iff_not]
    omega
theorem op_mulS : OpR X (binaryOp .Mult) rMulS := by
  intro pins s σ H x y v u Q I rx ry ⟨a, k, hx, hy, h1, q⟩
  subst hx hy
  obtain ⟨t, rfl⟩ := rx
  obtain ⟨t', rfl⟩ := ry
  have ok : MulOk a k := h1.elim (fun h => mulOk_of h.1 h.2.1 h.2.2) (fun h => mulOk_of2 h.1 h.2.1 h.2.2)
  exact SB.mul ok fun t' k => ⟨.str _, H, I.tok k, ⟨t', rfl⟩, q⟩
theorem mul2 {K : PySem.W.Frag} : Op2 K C (fun x y H Q => (rI CMul (fun i j => .int (i * j)) x y H Q ∨ rRep x y H Q) ∨ rMulS x y H Q ∨ rOnce K x y H Q ∨ rRepT K x y H Q) mulF := by
  intro S ρ b σ H v w d e z Q ok r1 r2 hz q
  unfold mulF at hz
  split at hz
  · split at hz
    · rename_i x k h
      cases hz; cases r1; cases r2
      exact .inr (.inl ⟨_, _, rfl, rfl, h, q _ S H (Same.refl _) ok (.str _)⟩)
    · cases hz
  · split at hz
    · rename_i i j h
      cases hz; cases r1; cases r2
      exact .inl (.inl ⟨_, _, rfl, rfl, h, q _ S H (Same.refl _) ok (.int _)⟩)
    · cases hz
  · split at hz
    · rename_i x k h
      cases hz
      cases r2
      cases r1 with
      | @tup l xs _ h1 h2 =>
        have hl := h2.length
        by_cases hk : k = 1
        · subst hk
          refine .inr (.inr (.inl ⟨_, _, rfl, rfl, seqT ok.core.sub h1, ?_⟩))
          have e1 : (List.replicate (1 : Int).toNat x).flatten = x := by simp
          rw [e1] at q
          exact q _ S H (Same.refl _) ok (.tup h1 h2)
        · refine .inr (.inr (.inr ⟨_, _, _, rfl, rfl, seqT ok.core.sub h1, fun z => ?_, by omega, h.2.1, by omega, fun p hp => ?_⟩))
          · rw [z] at hl
            have := h.2.2.2
            rw [← hl] at this
            exact absurd this (by simp)
          · exact q _ _ _ (ok.same hp) (ok.alloc hp) (.tup upd_same ((h2.rep _).up (ok.same hp)))
    · cases hz
  · split at hz
    · rename_i x k h
      cases hz
      cases r2
      cases r1 with
      | lst h1 h2 =>
        refine .inl (.inr ⟨_, _, _, rfl, rfl, ok.core.sub _ _ h1, by omega, by omega, ?_, fun p hp => ?_⟩)
        · rw [h2.length]
          have hk : k.toNat ≤ 1000 := by omega
          exact Nat.le_trans (Nat.mul_le_mul h.2.2 hk) (big_le (by decide))
        · exact q _ _ _ (ok.same hp) (ok.alloc hp) (.lst upd_same ((h2.rep _).up (ok.same hp)))
    · cases hz
  · cases hz
theorem d_mul (ha : PE X a (tD X.K C W Fa)) (hb : PE X b (tD X.K C W Fb)) : PE X (.BinOp a .Mult b pos) (tD X.K C W (e2 mulF Fa Fb)) := d_op ((op_mul.or op_rep).or (op_mulS.or (op_once.or op_repT))) mul2 ha hb
theorem d_lt2 {K : PySem.W.Frag} : Op2 K C (fun x y H Q => rI0 (fun i j => .bl (decide (i < j))) x y H Q ∨ (∃ i j, x = .str i ∧ y = .str j ∧ Q (.bl (decide (i.cps.toList < j.cps.toList))) H)) ltF := by
  intro S ρ b σ H v w d e z Q ok r1 r2 hz q
  unfold ltF at hz
  split at hz
  · cases hz; cases r1; cases r2
    exact .inl ⟨_, _, rfl, rfl, q _ S H (Same.refl _) ok (.bl _)⟩
  · cases hz; cases r1; cases r2
    exact .inr ⟨_, _, rfl, rfl, q _ S H (Same.refl _) ok (.bl _)⟩
  · cases hz
theorem d_le2 {K : PySem.W.Frag} : Op2 K C (fun x y H Q => rI0 (fun i j => .bl (decide (i ≤ j))) x y H Q ∨ (∃ i j, x = .str i ∧ y = .str j ∧ Q (.bl (!decide (j.cps.toList < i.cps.toList))) H)) leF := by
  intro S ρ b σ H v w d e z Q ok r1 r2 hz q
  unfold leF at hz
  split at hz
  · cases hz; cases r1; cases r2
    exact .inl ⟨_, _, rfl, rfl, q _ S H (Same.refl _) ok (.bl _)⟩
  · cases hz; cases r1; cases r2
    exact .inr ⟨_, _, rfl, rfl, q _ S H (Same.refl _) ok (.bl _)⟩
  · cases hz
theorem d_gt2 {K : PySem.W.Frag} : Op2 K C (rI (fun _ _ => True) (fun i j => .bl (decide (j < i)))) gtF := i2 (g' := fun i j => .bl (decide (j < i))) (fun d e z h => by
    unfold gtF at h
    split at h
    · cases h; exact ⟨_, _, rfl, rfl, trivial, rfl⟩
    · cases h) fun _ _ _ => .bl _
theorem d_ge2 {K : PySem.W.Frag} : Op2 K C (rI (fun _ _ => True) (fun i j => .bl (decide (j ≤ i)))) geF := i2 (g' := fun i j => .bl (decide (j ≤ i))) (fun d e z h => by
    unfold geF at h
    split at h
    · cases h; exact ⟨_, _, rfl, rfl, trivial, rfl⟩
    · cases h) fun _ _ _ => .bl _
theorem o_lt : OpR X (compareOp .Lt) (fun x y H Q => rI0 (fun i j => .bl (decide (i < j))) x y H Q ∨ (∃ i j, x = .str i ∧ y = .str j ∧ Q (.bl (decide (i.cps.toList < j.cps.toList))) H)) := op_lt.or op_lt_str
theorem o_le : OpR X (compareOp .LtE) (fun x y H Q => rI0 (fun i j => .bl (decide (i ≤ j))) x y H Q ∨ (∃ i j, x = .str i ∧ y = .str j ∧ Q (.bl (!decide (j.cps.toList < i.cps.toList))) H)) := op_le.or op_le_str
theorem d_eq2 {K : PySem.W.Frag} : Op2 K C (rEqD K) eqF := by
  intro S ρ b σ H v w d e z Q ok r1 r2 hz q
  unfold eqF at hz
  split at hz
  · rename_i p p' h1 h2
    split at hz
    · rename_i hs
      cases hz
      exact ⟨p, p', DR.dp ok.core.sub d v p r1 h1, DR.dp ok.core.sub e w p' r2 h2, hs.1, hs.2, q _ S H (Same.refl _) ok (.bl _)⟩
    · cases hz
  · cases hz
theorem d_ne2 {K : PySem.W.Frag} : Op2 K C (rNeD K) neF := by
  intro S ρ b σ H v w d e z Q ok r1 r2 hz q
  unfold neF at hz
  split at hz
  · rename_i p p' h1 h2
    split at hz
    · rename_i hs
      cases hz
      exact ⟨p, p', DR.dp ok.core.sub d v p r1 h1, DR.dp ok.core.sub e w p' r2 h2, hs.1, hs.2, q _ S H (Same.refl _) ok (.bl _)⟩
    · cases hz
  · cases hz
theorem d_eq (hu : X.A.units + 64 < cLine) (ha : PE X a (tD X.K C W Fa)) (hb : PE X b (tD X.K C W Fb)) : PE X (.Compare a [.Eq] [b] pos) (tD X.K C W (e2 eqF Fa Fb)) := d_cmp (op_eqD hu) d_eq2 ha hb (nomark _)
theorem d_ne (hu : X.A.units + 64 < cLine) (ha : PE X a (tD X.K C W Fa)) (hb : PE X b (tD X.K C W Fb)) : PE X (.Compare a [.NotEq] [b] pos) (tD X.K C W (e2 neF Fa Fb)) := d_cmp (op_neD hu) d_ne2 ha hb (nomark _)
theorem d_lt (ha : PE X a (tD X.K C W Fa)) (hb : PE X b (tD X.K C W Fb)) : PE X (.Compare a [.Lt] [b] pos) (tD X.K C W (e2 ltF Fa Fb)) := d_cmp o_lt d_lt2 ha hb (nomark _)
theorem d_le (ha : PE X a (tD X.K C W Fa)) (hb : PE X b (tD X.K C W Fb)) : PE X (.Compare a [.LtE] [b] pos) (tD X.K C W (e2 leF Fa Fb)) := d_cmp o_le d_le2 ha hb (nomark _)
theorem d_gt (ha : PE X a (tD X.K C W Fa)) (hb : PE X b (tD X.K C W Fb)) : PE X (.Compare a [.Gt] [b] pos) (tD X.K C W (e2 gtF Fa Fb)) := d_cmp (rI_of0 op_gt) d_gt2 ha hb (nomark _)
theorem t_eq (hu : X.A.units + 64 < cLine) (ha : PE X a (tD X.K C W Fa)) (hb : PE X b (tD X.K C W Fb)) : PT X (.Compare a [.Eq] [b] pos) (tDt X.K C W (bB (e2 eqF Fa Fb))) := d_tcmp (op_eqD hu) d_eq2 ha hb (nomark _)
theorem t_ne (hu : X.A.units + 64 < cLine) (ha : PE X a (tD X.K C W Fa)) (hb : PE X b (tD X.K C W Fb)) : PT X (.Compare a [.NotEq] [b] pos) (tDt X.K C W (bB (e2 neF Fa Fb))) := d_tcmp (op_neD hu) d_ne2 ha hb (nomark _)
theorem t_lt (ha : PE X a (tD X.K C W Fa)) (hb : PE X b (tD X.K C W Fb)) : PT X (.Compare a [.Lt] [b] pos) (tDt X.K C W (bB (e2 ltF Fa Fb))) := d_tcmp o_lt d_lt2 ha hb (nomark _)
theorem t_ge (ha : PE X a (tD X.K C W Fa)) (hb : PE X b (tD X.K C W Fb)) : PT X (.Compare a [.GtE] [b] pos) (tDt X.K C W (bB (e2 geF Fa Fb))) := d_tcmp (rI_of0 op_ge) d_ge2 ha hb (nomark _)
theorem d_neg (ha : PE X a (tD X.K C W Fa)) : PE X (.UnaryOp .USub a pos) (tD X.K C W (e1 negF Fa)) := pe_imp (pe_un un_neg ha) fun σ H Q ⟨S, ρ, b, ok, q⟩ => by
  refine ⟨S, ρ, b, ok, q.bind.imp fun d b1 S1 H1 s1 ok1 q1 v r => ?_⟩
  obtain ⟨z, hz, q2⟩ := q1.pureO
  cases d with
  | int i => cases hz; cases r; exact ⟨i, rfl, q2 S1 H1 (Same.refl _) ok1 _ (.int _)⟩
  | _ => cases hz
end
end DL

set_option maxHeartbeats 1000000
namespace DL
open PySem PySem.Spec PyProof.Rows L2
section
variable {X : Cx} {C : Cq} {W : WX} {e a b : Expr} {pos : Pos} {F Fa Fb : EF} {G : AF}
theorem d_ix (ha : PE X a (tD X.K C W Fa)) (hb : PE X b (tD X.K C W Fb)) (hs : PlainIx b) : PE X (.Subscript a b pos) (tD X.K C W (eIx Fa Fb)) := pe_imp (pe_ix ix_seq ha hb hs) fun σ H Q ⟨S, ρ, b0, ok, q⟩ => by
  refine ⟨S, ρ, b0, ok, q.bind.imp fun x b1 S1 H1 s1 ok1 q1 v r1 => ⟨S1, ρ, b1, ok1, q1.bind.imp fun y b2 S2 H2 s2 ok2 q2 w r2 => ?_⟩⟩
  obtain ⟨z, hz, q3⟩ := q2.pureO
  have r1 := r1.up s2
  cases y with
  | int i =>
    cases r2
    cases x with
    | lst ds =>
      cases r1 with
      | lst h1 h2 =>
        obtain ⟨u, hu, ru⟩ := h2.atI hz
        exact .inl ⟨_, _, i, u, rfl, rfl, SqL.of (ok2.core.sub _ _ h1), hu, q3 S2 H2 (Same.refl _) ok2 u ru⟩
    | fl ds =>
      cases r1 with
      | fl h1 h2 =>
        obtain ⟨u, hu, ru⟩ := h2.atI hz
        exact .inl ⟨_, _, i, u, rfl, rfl, ok2.core.sub.seq h1, hu, q3 S2 H2 (Same.refl _) ok2 u ru⟩
    | tup ds =>
      cases r1 with
      | tup h1 h2 =>
        obtain ⟨u, hu, ru⟩ := h2.atI hz
        exact .inr (.inl ⟨_, _, i, u, rfl, rfl, seqT ok2.core.sub h1, hu, q3 S2 H2 (Same.refl _) ok2 u ru⟩)
    | str x =>
      cases r1
      simp only [ixF] at hz
      by_cases hl : x.length ≤ 100000
      · rw [if_pos hl] at hz
        simp only [Option.map_eq_some_iff] at hz
        obtain ⟨c, hc, rfl⟩ := hz
        exact .inr (.inr ⟨_, i, c, rfl, rfl, big_le hl, hc, q3 S2 H2 (Same.refl _) ok2 _ (.str _)⟩)
      · rw [if_neg hl] at hz; cases hz
    | bag =>
      cases r1 with
      | bag hb =>
        obtain ⟨h1, _⟩ := ok2.core.bag _ hb
        have rb : DRs X.K C.ba S2 [V.int b2.x, V.int b2.y, V.int b2.z] b2.ds := .cons (.int _) (.cons (.int _) (.cons (.int _) .nil))
        obtain ⟨u, hu, ru⟩ := rb.atI hz
        exact .inl ⟨_, _, i, u, rfl, rfl, SqL.of h1, hu, q3 S2 H2 (Same.refl _) ok2 u ru⟩
    | non => cases hz
    | bl _ => cases hz
    | int _ => cases hz
    | ins _ _ _ => cases hz
    | obj _ => cases hz
    | dct _ _ => cases hz
    | dtp _ _ => cases hz
  | _ => cases x <;> cases hz
def tDO (K : PySem.W.Frag) (C : Cq) (W : WX) (F : OF) : TO := fun σ H Q => ∃ S ρ b, OkS K C S ρ b σ H ∧ OutG K C W S ρ σ (fun o _ _ H' => Q o H') (F ρ b)
theorem po_imp {o : Option Expr} {t t' : TO} (h : PO X o t) (f : ∀ σ H Q, t' σ H Q → t σ H Q) : PO X o t' := ⟨fun pins s σ H Q I q => h.run pins s σ H Q I (f σ H Q q)⟩
theorem d_ono : PO X none (tDO X.K C W oNo) := po_imp po_none fun σ H Q ⟨S, ρ, b, ok, q⟩ => q S H (Same.refl _) ok
theorem d_osome (h : PE X e (tD X.K C W F)) : PO X (some e) (tDO X.K C W (oSome F)) := po_imp (po_some h) fun σ H Q ⟨S, ρ, b, ok, q⟩ => by
  refine ⟨S, ρ, b, ok, q.bind.imp fun d b1 S1 H1 s1 ok1 q1 v r => ?_⟩
  cases d with
  | int i => cases r; exact ⟨i, rfl, q1 S1 H1 (Same.refl _) ok1⟩
  | _ => exact q1.elim
theorem cut_dr {K : PySem.W.Frag} {ba : Option Addr} {S : Hp} {vs : List V} {ds : List D} (h : DRs K ba S vs ds) (lo hi : Option Int) : DRs K ba S (cutV vs lo hi) (cutD ds lo hi) := by
  unfold cutV cutD
  rw [h.length]
  exact (h.drop _).take _
def rSlAll (K : PySem.W.Frag) : V → Option Int → Option Int → Hp → VK → Prop := fun x lo hi H Q => rSlL K x lo hi H Q ∨ rSlA K x lo hi H Q ∨ rSlS x lo hi H Q
theorem sl_all : SlR X (rSlAll X.K) := sl_list.or (sl_tupA.or sl_str)
theorem d_slice {lo hi : Option Expr} {Ol Oh : OF} {p2 : Pos} (he : PE X e (tD X.K C W F)) (hl : PO X lo (tDO X.K C W Ol)) (hh : PO X hi (tDO X.K C W Oh)) : PE X (.Subscript e (.Slice lo hi none p2) pos) (tD X.K C W (eSl F Ol Oh)) :=
  pe_imp (pe_slice sl_all he hl hh) fun σ H Q ⟨S, ρ, b, ok, q⟩ => by
  refine ⟨S, ρ, b, ok, q.bind.imp fun d b1 S1 H1 s1 ok1 q1 v r => ⟨S1, ρ, b1, ok1, q1.bind.imp fun l b2 S2 H2 s2 ok2 q2 => ⟨S2, ρ, b2, ok2, q2.bind.imp fun h b3 S3 H3 s3 ok3 q3 => ?_⟩⟩⟩
  obtain ⟨z, hz, q4⟩ := q3.pureO
  have r := r.up (s2.trans s3)
  cases d with
  | lst ds =>
    cases hz
    cases r with
    | lst h1 h2 =>
      refine .inl ⟨_, _, rfl, SqL.of (ok3.core.sub _ _ h1), fun p hp => ?_⟩
      exact q4 _ _ (ok3.same hp) (ok3.alloc hp) _ (.lst upd_same ((cut_dr h2 l h).up (ok3.same hp)))
  | fl ds =>
    cases hz
    cases r with
    | fl h1 h2 =>
      refine .inl ⟨_, _, rfl, ok3.core.sub.seq h1, fun p hp => ?_⟩
      exact q4 _ _ (ok3.same hp) (ok3.alloc hp) _ (.lst upd_same ((cut_dr h2 l h).up (ok3.same hp)))
  | tup ds =>
    cases hz
    cases r with
    | tup h1 h2 =>
      refine .inr (.inl ⟨_, _, rfl, seqT ok3.core.sub h1, fun hw => ?_, fun _ p hp => ?_⟩)
      · have e1 : cutD ds l h = ds := by
          unfold cutD
          rw [h2.length] at hw
          rw [hw.1, hw.2, List.drop_zero, Nat.sub_zero, List.take_length]
        rw [e1] at q4
        exact q4 S3 H3 (Same.refl _) ok3 _ (.tup h1 h2)
      · exact q4 _ _ (ok3.same hp) (ok3.alloc hp) _ (.tup upd_same ((cut_dr h2 l h).up (ok3.same hp)))
  | str x =>
    cases r
    simp only [slF] at hz
    by_cases hx : x.length ≤ 100000
    · rw [if_pos hx] at hz
      cases hz
      exact .inr (.inr ⟨x, rfl, big_le hx, q4 S3 H3 (Same.refl _) ok3 _ (.str _)⟩)
    · rw [if_neg hx] at hz; cases hz
  | _ => cases hz
def CallD (K : PySem.W.Frag) (C : Cq) (r : List V → Hp → VK → Prop) (f : List D → Option D) : Prop := ∀ (S : Hp) (ρ : Env) (b : Bag) (σ : L2.St) (H : Hp) (vs : List V) (ds : List D) (z : D) (Q : VK), OkS K C S ρ b σ H → DRs K C.ba S vs ds → f ds = some z →
  (∀ u S' H', Same S S' → OkS K C S' ρ b σ H' → DR K C.ba S' u z → Q u H') → r vs H Q
theorem tCB_of {r : List V → Hp → VK → Prop} {f : List D → Option D} (hf : CallD X.K C r f) {σ : L2.St} {H : Hp} {Q : VK} (h : tD X.K C W (eB f G) σ H Q) : tCB r (tDA X.K C W G) σ H Q := by
  obtain ⟨S, ρ, b, ok, q⟩ := h
  refine ⟨S, ρ, b, ok, q.bind.imp fun ds b1 S1 H1 s1 ok1 q1 vs rs => ?_⟩
  obtain ⟨z, hz, q2⟩ := q1.pureO
  exact hf S1 ρ b1 σ H1 vs ds z Q ok1 rs hz fun u S' H' e o r => q2 S' H' e o u r
theorem d_callB {id : String} {r : List V → Hp → VK → Prop} {f : List D → Option D} {x : Str} {p : Pos} {es : List Expr} (hc : CallR X (.builtin id) r) (hf : CallD X.K C r f) (hg : Gl X x) (hm : X.mg x = none) (hv : bootBuiltins x = some (.builtin id)) (ha : PA X (e :: es) (tDA X.K C W G))
    (hn : x ≠ "__name__" := by decide) (hdb : (x == ("__debug__" : Str)) = false := by decide) (he : starEach (e :: es) X.env = (false, eval e X.env) :: starEach es X.env := by rfl) (hpl : (backTo pos (starEach es X.env)).any (·.1) = false := by rfl) :
    PE X (.Call (.Name x p) (e :: es) [] pos) (tD X.K C W (eB f G)) := pe_imp (pe_callB hc hg hm hv ha hn hdb he hpl) fun _ _ _ h => tCB_of hf h
theorem d_callTy {T : String} {r : List V → Hp → VK → Prop} {f : List D → Option D} {x : Str} {p : Pos} {es : List Expr} (hc : CallR X (.type T) r) (hf : CallD X.K C r f) (hg : Gl X x) (hm : X.mg x = none) (hv : bootBuiltins x = some (.type T)) (ha : PA X (e :: es) (tDA X.K C W G))
    (hn : x ≠ "__name__" := by decide) (hdb : (x == ("__debug__" : Str)) = false := by decide) (he : starEach (e :: es) X.env = (false, eval e X.env) :: starEach es X.env := by rfl) (hpl : (backTo pos (starEach es X.env)).any (·.1) = false := by rfl) :
    PE X (.Call (.Name x p) (e :: es) [] pos) (tD X.K C W (eB f G)) := pe_imp (pe_callTy hc hg hm hv ha hn hdb he hpl) fun _ _ _ h => tCB_of hf h
theorem c_len {K : PySem.W.Frag} : CallD K C (fun xs H Q => ∃ x n, xs = [x] ∧ LenV K x H n ∧ Q (.int n) H) lenF := by
  intro S ρ b σ H vs ds z Q ok rs hz q
  unfold lenF at hz
  split at hz
  · cases hz
    cases rs with
    | cons r1 r2 =>
      cases r2
      cases r1 with
      | lst h1 h2 => exact ⟨_, _, rfl, .inl ⟨_, SqL.of (ok.core.sub _ _ h1), h2.length.symm⟩, q _ S H (Same.refl _) ok (.int _)⟩
  · cases hz
    cases rs with
    | cons r1 r2 =>
      cases r2
      cases r1 with
      | fl h1 h2 => exact ⟨_, _, rfl, .inl ⟨_, ok.core.sub.seq h1, h2.length.symm⟩, q _ S H (Same.refl _) ok (.int _)⟩
  · cases hz
    cases rs with
    | cons r1 r2 =>
      cases r2
      cases r1 with
      | tup h1 h2 => exact ⟨_, _, rfl, .inr ⟨_, seqT ok.core.sub h1, h2.length.symm⟩, q _ S H (Same.refl _) ok (.int _)⟩
  · split at hz
    · rename_i hl
      cases hz
      cases rs with
      | cons r1 r2 =>
        cases r2
        cases r1
        exact ⟨_, _, rfl, ⟨big_le hl, rfl⟩, q _ S H (Same.refl _) ok (.int _)⟩
    · cases hz
  · cases hz
theorem d_len {p : Pos} (hg : Gl X "len") (hm : X.mg "len" = none) (ha : PA X [a] (tDA X.K C W G)) (he : starEach [a] X.env = (false, eval a X.env) :: starEach [] X.env := by rfl) (hpl : (backTo pos (starEach [] X.env)).any (·.1) = false := by rfl) :
    PE X (.Call (.Name "len" p) [a] [] pos) (tD X.K C W (eB lenF G)) := d_callB call_len c_len hg hm PySem.boot_len ha (by decide) (by decide) he hpl
/-- functions of ints alone -/
theorem c_int1 {K : PySem.W.Frag} {g : Int → Int} {f : List D → Option D} (hf : ∀ ds z, f ds = some z → ∃ i, ds = [.int i] ∧ z = .int (g i)) : CallD K C (fun xs H Q => ∃ i, xs = [.int i] ∧ Q (.int (g i)) H) f := by
  intro S ρ b σ H vs ds z Q ok rs hz q
  obtain ⟨i, rfl, rfl⟩ := hf _ _ hz
  cases rs with
  | cons r1 r2 => cases r2; cases r1; exact ⟨i, rfl, q _ S H (Same.refl _) ok (.int _)⟩
@[simp] def absF : List D → Option D
  | [.int i] => some (.int (if i < 0 then -i else i))
  | _ => none
theorem d_abs {p : Pos} (hg : Gl X "abs") (hm : X.mg "abs" = none) (ha : PA X [a] (tDA X.K C W G)) (he : starEach [a] X.env = (false, eval a X.env) :: starEach [] X.env := by rfl) (hpl : (backTo pos (starEach [] X.env)).any (·.1) = false := by rfl) :
    PE X (.Call (.Name "abs" p) [a] [] pos) (tD X.K C W (eB absF G)) := d_callB call_abs (c_int1 (g := fun i => if i < 0 then -i else i) fun ds z h => by
      unfold absF at h
      split at h
      · cases h; exact ⟨_, rfl, rfl⟩
      · cases h) hg hm (by decide +kernel) ha (by decide) (by decide) he hpl
@[simp] def intF : List D → Option D
  | [.int i] => some (.int i)
  | [.bl k] => some (.int (if k then 1 else 0))
  | _ => none
theorem c_intc {K : PySem.W.Frag} : CallD K C (fun xs H Q => (∃ i, xs = [.int i] ∧ Q (.int i) H) ∨ ∃ k, xs = [.bl k] ∧ Q (.int (if k then 1 else 0)) H) intF := by
  intro S ρ b σ H vs ds z Q ok rs hz q
  unfold intF at hz
  split at hz
  · cases hz
    cases rs with
    | cons r1 r2 => cases r2; cases r1; exact .inl ⟨_, rfl, q _ S H (Same.refl _) ok (.int _)⟩
  · cases hz
    cases rs with
    | cons r1 r2 => cases r2; cases r1; exact .inr ⟨_, rfl, q _ S H (Same.refl _) ok (.int _)⟩
  · cases hz
theorem d_int {p : Pos} (hg : Gl X "int") (hm : X.mg "int" = none) (ha : PA X [a] (tDA X.K C W G)) (he : starEach [a] X.env = (false, eval a X.env) :: starEach [] X.env := by rfl) (hpl : (backTo pos (starEach [] X.env)).any (·.1) = false := by rfl) : PE X (.Call (.Name "int" p) [a] [] pos) (tD X.K C W (eB intF G)) := d_callTy call_int1 c_intc hg hm (by decide +kernel) ha (by decide) (by decide) he hpl
def maxF : List D → Option D
  | [.int i, .int j] => some (.int (if j > i then j else i))
  | _ => none
def minF : List D → Option D
  | [.int i, .int j] => some (.int (if j < i then j else i))
  | _ => none
theorem c_int2 {K : PySem.W.Frag} {g : Int → Int → Int} {f : List D → Option D} (hf : ∀ ds z, f ds = some z → ∃ i j, ds = [.int i, .int j] ∧ z = .int (g i j)) : CallD K C (fun xs H Q => ∃ i j, xs = [.int i, .int j] ∧ Q (.int (g i j)) H) f := by
  intro S ρ b σ H vs ds z Q ok rs hz q
  obtain ⟨i, j, rfl, rfl⟩ := hf _ _ hz
  cases rs with
  | cons r1 r2 =>
    cases r2 with
    | cons r2 r3 => cases r3; cases r1; cases r2; exact ⟨i, j, rfl, q _ S H (Same.refl _) ok (.int _)⟩
theorem d_max2 {p : Pos} (hc : X.calm = true) (hg : Gl X "max") (hm : X.mg "max" = none) (ha : PA X [a, b] (tDA X.K C W G)) (he : starEach [a, b] X.env = (false, eval a X.env) :: starEach [b] X.env := by rfl) (hpl : (backTo pos (starEach [b] X.env)).any (·.1) = false := by rfl) :
    PE X (.Call (.Name "max" p) [a, b] [] pos) (tD X.K C W (eB maxF G)) := d_callB (call_max2 hc) (c_int2 (g := fun i j => if j > i then j else i) fun ds z h => by
      unfold maxF at h
      split at h
      · cases h; exact ⟨_, _, rfl, rfl⟩
      · cases h) hg hm (by decide +kernel) ha (by decide) (by decide) he hpl
theorem d_min2 {p : Pos} (hc : X.calm = true) (hg : Gl X "min") (hm : X.mg "min" = none) (ha : PA X [a, b] (tDA X.K C W G)) (he : starEach [a, b] X.env = (false, eval a X.env) :: starEach [b] X.env := by rfl) (hpl : (backTo pos (starEach [b] X.env)).any (·.1) = false := by rfl) :
    PE X (.Call (.Name "min" p) [a, b] [] pos) (tD X.K C W (eB minF G)) := d_callB (call_min2 hc) (c_int2 (g := fun i j => if j < i then j else i) fun ds z h => by
      unfold minF at h
      split at h
      · cases h; exact ⟨_, _, rfl, rfl⟩
      · cases h) hg hm (by decide +kernel) ha (by decide) (by decide) he hpl
@[simp] def divmodF : List D → Option D
  | [.int i, .int j] => if 0 < j ∧ j < 1073741824 then some (.tup [.int (i / j), .int (i % j)]) else none
  | _ => none
theorem c_divmod {K : PySem.W.Frag} : CallD K C (fun xs H Q => ∃ i j, xs = [.int i, .int j] ∧ CDiv i j ∧ ∀ p, H p = none → Q (.ref p) (upd H p (.tup [.int (i / j), .int (i % j)]))) divmodF := by
  intro S ρ b σ H vs ds z Q ok rs hz q
  unfold divmodF at hz
  split at hz
  · split at hz
    · rename_i h
      cases hz
      cases rs with
      | cons r1 r2 =>
        cases r2 with
        | cons r2 r3 =>
          cases r3; cases r1; cases r2
          exact ⟨_, _, rfl, h, fun p hp => q _ _ _ (ok.same hp) (ok.alloc hp) (.tup upd_same (.cons (.int _) (.cons (.int _) .nil)))⟩
    · cases hz
  · cases hz
theorem d_divmod {p : Pos} (hg : Gl X "divmod") (hm : X.mg "divmod" = none) (ha : PA X [a, b] (tDA X.K C W G)) (he : starEach [a, b] X.env = (false, eval a X.env) :: starEach [b] X.env := by rfl) (hpl : (backTo pos (starEach [b] X.env)).any (·.1) = false := by rfl) :
    PE X (.Call (.Name "divmod" p) [a, b] [] pos) (tD X.K C W (eB divmodF G)) := d_callB call_divmod c_divmod hg hm (by decide +kernel) ha (by decide) (by decide) he hpl
theorem c_tuple {K : PySem.W.Frag} : CallD K C (fun xs H Q => ∃ p ys, xs = [.ref p] ∧ ((SqL K H p ys ∧ ∀ l, H l = none → Q (.ref l) (upd H l (.tup ys))) ∨ (SqT K H p ys ∧ Q (.ref p) H))) tupleF := by
  intro S ρ b σ H vs ds z Q ok rs hz q
  unfold tupleF at hz
  split at hz
  · cases hz
    cases rs with
    | cons r1 r2 =>
      cases r2
      cases r1 with
      | lst h1 h2 => exact ⟨_, _, rfl, .inl ⟨SqL.of (ok.core.sub _ _ h1), fun p hp => q _ _ _ (ok.same hp) (ok.alloc hp) (.tup upd_same (h2.up (ok.same hp)))⟩⟩
  · cases hz
    cases rs with
    | cons r1 r2 =>
      cases r2
      cases r1 with
      | fl h1 h2 => exact ⟨_, _, rfl, .inl ⟨ok.core.sub.seq h1, fun p hp => q _ _ _ (ok.same hp) (ok.alloc hp) (.tup upd_same (h2.up (ok.same hp)))⟩⟩
  · cases hz
    cases rs with
    | cons r1 r2 =>
      cases r2
      cases r1 with
      | tup h1 h2 => exact ⟨_, _, rfl, .inr ⟨seqT ok.core.sub h1, q _ S H (Same.refl _) ok (.tup h1 h2)⟩⟩
  · cases hz
theorem d_tuple {p : Pos} (hg : Gl X "tuple") (hm : X.mg "tuple" = none) (ha : PA X [a] (tDA X.K C W G)) (he : starEach [a] X.env = (false, eval a X.env) :: starEach [] X.env := by rfl) (hpl : (backTo pos (starEach [] X.env)).any (·.1) = false := by rfl) : PE X (.Call (.Name "tuple" p) [a] [] pos) (tD X.K C W (eB tupleF G)) := d_callTy call_tuple_of c_tuple hg hm (by decide +kernel) ha (by decide) (by decide) he hpl
theorem truths_dr {K : PySem.W.Frag} {ba : Option Addr} {S : Hp} : ∀ {ds : List D} {vs : List V} {ks : List Bool}, DRs K ba S vs ds → truths ds = some ks → vs = ks.map V.bl
  | [], _, _, r, h => by cases r; cases h; rfl
  | .bl k :: ds, _, _, r, h => by
    simp only [truths, Option.map_eq_some_iff] at h
    obtain ⟨ks, h1, rfl⟩ := h
    cases r with
    | cons r1 r2 => cases r1; rw [truths_dr r2 h1]; rfl
  | .non :: _, _, _, _, h => by cases h
  | .int _ :: _, _, _, _, h => by cases h
  | .str _ :: _, _, _, _, h => by cases h
  | .tup _ :: _, _, _, _, h => by cases h
  | .lst _ :: _, _, _, _, h => by cases h
  | .fl _ :: _, _, _, _, h => by cases h
  | .ins _ _ _ :: _, _, _, _, h => by cases h
  | .obj _ :: _, _, _, _, h => by cases h
  | .bag :: _, _, _, _, h => by cases h
  | .dct _ _ :: _, _, _, _, h => by cases h
  | .dtp _ _ :: _, _, _, _, h => by cases h
theorem c_all {K : PySem.W.Frag} : CallD K C (rAll K) allF := by
  intro S ρ b σ H vs ds z Q ok rs hz q
  unfold allF at hz
  split at hz
  · simp only [Option.map_eq_some_iff] at hz
    obtain ⟨ks, hk, rfl⟩ := hz
    cases rs with
    | cons r1 r2 =>
      cases r2
      cases r1 with
      | lst h1 h2 =>
        have e := truths_dr h2 hk
        subst e
        exact ⟨_, ks, rfl, SqL.of (ok.core.sub _ _ h1), q _ S H (Same.refl _) ok (.bl _)⟩
  · cases hz
theorem d_all {p : Pos} (hc : X.calm = true) (hg : Gl X "all") (hm : X.mg "all" = none) (ha : PA X [a] (tDA X.K C W G)) (he : starEach [a] X.env = (false, eval a X.env) :: starEach [] X.env := by rfl) (hpl : (backTo pos (starEach [] X.env)).any (·.1) = false := by rfl) :
    PE X (.Call (.Name "all" p) [a] [] pos) (tD X.K C W (eB allF G)) := d_callB (cr_all hc) c_all hg hm (by decide +kernel) ha (by decide) (by decide) he hpl
end
end DL

set_option maxHeartbeats 1000000
namespace DL
open PySem PySem.Spec PyProof.Rows L2
section
variable {X : Cx} {C : Cq} {W : WX} {st : Stmt} {e a b o : Expr} {es : List Expr} {pos apos cpos : Pos} {F Fa Fb : EF} {G : AF}
def reprF : List D → Option D
  | [.lst ds] => (D.lst ds).pd.bind fun p => if p.showable = true ∧ p.hasDict = false ∧ p.depth ≤ 60 ∧ p.shown.length ≤ 1000000 then some (.str p.shown) else none
  | [.tup ds] => (D.tup ds).pd.bind fun p => if p.showable = true ∧ p.hasDict = false ∧ p.depth ≤ 60 ∧ p.shown.length ≤ 1000000 then some (.str p.shown) else none
  | [.int i] => if i.natAbs.log2 < 1920 then some (.str (toString i)) else none
  | _ => none
def rRepr (K : PySem.W.Frag) : List V → Hp → VK → Prop := fun vs H Q => (∃ i, vs = [.int i] ∧ i.natAbs.log2 < 1920 ∧ Q (.str (toString i)) H) ∨
  ∃ a p, vs = [.ref a] ∧ Dp K H (.ref a) p ∧ p.showable = true ∧ p.hasDict = false ∧ p.depth ≤ 60 ∧ p.shown.length ≤ 1000000 ∧ Q (.str p.shown) H
theorem cr_repr (hg : X.A.guards = some []) (hu : X.A.units + 64 < cLine) : CallR X (.builtin "repr") (rRepr X.K) := by
  intro pins s σ H xs us Q I r h
  rcases h with ⟨i, rfl, hz, q⟩ | ⟨a, p, rfl, hd, h1, h2, h3, h4, q⟩
  · cases r with
    | cons r1 r2 =>
      cases r2
      obtain ⟨t, rfl⟩ := r1
      exact PySem.P.repr_of_int hz ⟨.str _, H, I.tok _, ⟨_, rfl⟩, q⟩
  · cases r with
    | cons r1 r2 =>
      cases r2
      cases r1
      obtain ⟨as, rd⟩ := Dp.reads I p (.ref a) (.ref a) hd rfl
      exact repr_of_reads' rd h1 (PyData.noDict_hsm h2) hg (by omega) (fun _ _ z => z) (fun h' u tk hk => ⟨.str p.shown, H, I.kept hk, ⟨u, rfl⟩, q⟩) (by rw [sizeLine_eq]; omega)
theorem c_repr {K : PySem.W.Frag} : CallD K C (rRepr K) reprF := by
  intro S ρ b σ H vs ds z Q ok rs hz q
  unfold reprF at hz
  split at hz
  · simp only [Option.bind_eq_some_iff] at hz
    obtain ⟨p, hp, hz⟩ := hz
    split at hz
    · rename_i hc
      cases hz
      cases rs with
      | cons r1 r2 =>
        cases r2
        have hd := DR.dp ok.core.sub _ _ p r1 hp
        cases r1 with
        | lst h1 h2 => exact .inr ⟨_, p, rfl, hd, hc.1, hc.2.1, hc.2.2.1, hc.2.2.2, q _ S H (Same.refl _) ok (.str _)⟩
    · cases hz
  · simp only [Option.bind_eq_some_iff] at hz
    obtain ⟨p, hp, hz⟩ := hz
    split at hz
    · rename_i hc
      cases hz
      cases rs with
      | cons r1 r2 =>
        cases r2
        have hd := DR.dp ok.core.sub _ _ p r1 hp
        cases r1 with
        | tup h1 h2 => exact .inr ⟨_, p, rfl, hd, hc.1, hc.2.1, hc.2.2.1, hc.2.2.2, q _ S H (Same.refl _) ok (.str _)⟩
    · cases hz
  · split at hz
    · rename_i hc
      cases hz
      cases rs with
      | cons r1 r2 => cases r2; cases r1; exact .inl ⟨_, rfl, hc, q _ S H (Same.refl _) ok (.str _)⟩
    · cases hz
  · cases hz
theorem d_push {i : Nat} {x : Str} {px : Pos} (hx : PE X (.Name x px) (tVar i)) (he : PE X e (tD X.K C W F))
    (hbase : attributeBase (.Name x px) "append" X.env (eval (.Name x px) X.env) = eval (.Name x px) X.env := by rfl)
    (hfew : ((backTo cpos (starEach [e] X.env)).all (fun x => !x.1) && (backToKw cpos (keywordEach [] X.env)).all (fun x => x.1.isSome)
      && decide ([e].length + ([] : List Keyword).length + (if ([] : List Keyword).isEmpty then 0 else 1) < 30)) = true := by rfl)
    (hline : (apos.endLine == cpos.line) = true := by rfl) (hs : starEach [e] X.env = (false, eval e X.env) :: starEach [] X.env := by rfl) (hplain : (backTo cpos (starEach [] X.env)).any (·.1) = false := by rfl)
    (hsw : swapsWith (.Call (.Attribute (.Name x px) "append" apos) [e] [] cpos) none pos.line X.env = pure false := by rfl) :
    PS X (.Expr (.Call (.Attribute (.Name x px) "append" apos) [e] [] cpos) pos) (tDS X.K C W (sPush i F)) :=
  ps_imp (ps_expr (pe_bm PySem.F.plainAttrs_list PySem.F.slot_list_append PySem.F.type_list_append mt_append hx (pa_cons he pa_nil hs) hbase hfew hline hs hplain) hsw) fun E σ H ⟨S, ρ, b, ok, q⟩ => by
  unfold sPush at q
  split at q
  · rename_i ds hr
    obtain ⟨p, u, e1, hp, r, _⟩ := ok.getOw hr
    cases r with
    | lst r =>
      refine ⟨_, e1, .inl ⟨rfl, _, SqL.of hp⟩, S, ρ, b, ok, q.st.imp fun d b1 S1 H1 s1 ok1 q1 v rv => ?_⟩
      obtain ⟨p', u', e1', hp', r', _, _, _, wr, _⟩ := ok1.getOw hr
      rw [e1] at e1'
      cases e1'
      cases r' with
      | @lst xs' _ r' =>
        by_cases hl : ds.length ≤ 100000
        · rw [if_pos hl] at q1
          refine ⟨p, xs', v, rfl, rfl, hp', small_lt (by rw [r'.length]; exact hl), ?_⟩
          exact q1 S1 σ _ (Same.refl _) (wr _ _ (.lst (r'.app (.cons rv .nil))))
        · rw [if_neg hl] at q1
          exact q1.elim
  · exact q.elim
@[simp] def gBag (i : Nat) (k : Int) : GF := fun d ρ b => match ρ[i]?, d with
  | some (some (.sh .bag)), .int z => (b.set k z).map fun b' => (ρ, b')
  | _, _ => none
theorem d_gbag {i : Nat} {x : Expr} {k : Int} (h : PG X (.Subscript x a pos) (gSub (tVar i) (tC (.int k)) rSetL)) : PG X (.Subscript x a pos) (tDG X.K C (gBag i k)) := pg_imp h fun v σ H Q ⟨S, ρ, b, d, ρ', b', ok, r, e, q⟩ => by
  unfold gBag at e
  split at e
  · rename_i z hr
    simp only [Option.map_eq_some_iff] at e
    obtain ⟨b2, hb, e⟩ := e
    cases e
    cases r
    obtain ⟨u, hu, ru⟩ := ok.get hr
    cases ru with
    | @bag p hp =>
      obtain ⟨h1, h2⟩ := ok.core.bag p hp
      have fin : ∀ j, ixN 3 k = some j → [V.int b.x, V.int b.y, V.int b.z].set j (.int z) = [V.int b'.x, V.int b'.y, V.int b'.z] → gSub (tVar i) (tC (.int k)) rSetL (.int z) σ H Q := fun j hj he => by
        refine ⟨_, hu, p, _, k, j, rfl, rfl, h1, hj, ?_⟩
        rw [he]
        exact q S σ _ (Same.refl _) (ok.bagW hp)
      unfold Bag.set at hb
      by_cases h0 : k = 0
      · subst h0
        rw [if_pos rfl] at hb
        cases hb
        exact fin 0 rfl rfl
      · rw [if_neg h0] at hb
        by_cases h1 : k = 1
        · subst h1
          rw [if_pos rfl] at hb
          cases hb
          exact fin 1 rfl rfl
        · rw [if_neg h1] at hb
          by_cases h2 : k = 2
          · subst h2
            rw [if_pos rfl] at hb
            cases hb
            exact fin 2 rfl rfl
          · rw [if_neg h2] at hb
            cases hb
  · cases e
def sPar2 (i j : Nat) (G : AF) : SF := fun ρ b => (G ρ b).st ρ fun ds b' => match ds with
  | [d, e] => .nx ((ρ.set i (some (.sh d))).set j (some (.sh e))) b'
  | _ => .stuck
def sPar3 (i j l : Nat) (G : AF) : SF := fun ρ b => (G ρ b).st ρ fun ds b' => match ds with
  | [d, e, f] => .nx (((ρ.set i (some (.sh d))).set j (some (.sh e))).set l (some (.sh f))) b'
  | _ => .stuck
theorem d_par3 {i j l : Nat} (h : PS X st (tPar3 i j l (tDA X.K C W G))) : PS X st (tDS X.K C W (sPar3 i j l G)) := ps_imp h fun E σ H ⟨S, ρ, b, ok, q⟩ => by
  refine ⟨S, ρ, b, ok, q.st.imp fun ds b1 S1 H1 s1 ok1 q1 vs r => ?_⟩
  split at q1
  · cases r with
    | cons r1 r =>
      cases r with
      | cons r2 r =>
        cases r with
        | cons r3 r =>
          cases r
          exact ⟨_, _, _, rfl, q1 S1 _ H1 (Same.refl _) (((ok1.setSh r1).setSh r2).setSh r3)⟩
  · exact q1.elim
/-- an expression within: in an inner run, without the owned -/
def tDin (K : PySem.W.Frag) (F : EF) : TE := fun σ H Q => ∃ C, tD K C W0 F σ H Q
end
end DL

set_option maxHeartbeats 2000000
namespace PySem
open AutoSeq1 (wpAny_loadPart')
/-- enumerate of what begins an iterator, from 0 -/
theorem enum0_made {v : Value} {o : Obj} {G : Heap → Prop} (B : Begins v o G) :
    Meets (Builtin.«enumerate.__new__» ⟨[.type "enumerate", v], []⟩) (fun _ R s => G s.heap ∧
      R (.ok (.ret (.ref (s.heap.push o).objs.size))) { s with heap := (s.heap.push o).push { cls := .type "enumerate", data := .fields #[.none, .bool false, .ref s.heap.objs.size, rawInt 0, .none, .none] } }) :=
  .of_wp fun prog w A R s z => by
    obtain ⟨hp, gs, dr, tk, os⟩ := s
    obtain ⟨z1, z2⟩ := z
    have sub := sub_enumerate
    have begin_ : ∀ {A' : Around} {E : Value → Shared → Prop} {Q : Value → Shared → Prop}, Q (.ref hp.objs.size) ⟨hp.push o, gs, dr, tk, os⟩ → wpAny (model prog w) A' (pyIter v) Q E ⟨hp, gs, dr, tk, os⟩ := fun {A' E Q} q =>
      B.iter prog w A' E ⟨hp, gs, dr, tk, os⟩ Q z1 q
    wp_walk using begin_
    refine wpAny_stack_any fun st => wpAny_pure ?_
    split
    · rename_i c _ _ _ _ _
      cases (c == Value.type "enumerate") <;> (wp_walk using begin_; exact ⟨_, rfl, z2⟩)
    · wp_walk using begin_
      exact ⟨_, rfl, z2⟩
theorem enum0_begins {prog : Program} {w : World} {A : Around} {E : Value → Shared → Prop} {s : Shared} {v : Value} {o : Obj} {G : Heap → Prop} {Q : Value → Shared → Prop} (B : Begins v o G) (z : G s.heap)
    (h : ∀ h', IsEnum h' (s.heap.objs.size + 1) s.heap.objs.size 0 .none → h'.get? s.heap.objs.size = some o → h'.objs.size = s.heap.objs.size + 2 →
      (∀ b ob, s.heap.get? b = some ob → h'.get? b = some ob) → Q (.ref (s.heap.objs.size + 1)) { s with heap := h' }) : wpAny (model prog w) A (call (.type "enumerate") [v]) Q E s := by
  refine callType_new F.called_enumerate (by decide) (F.typeCall_enumerate_1 _) (F.newCall_enumerate_1 _) (fun ob => F.args_object_init_2 ob _) F.entry_enumerate_new (enum0_made B) ⟨z, ?_⟩
  have sz : (s.heap.push o).objs.size = s.heap.objs.size + 1 := Heap.size_push ..
  have at_ : IsEnum ((s.heap.push o).push { cls := .type "enumerate", data := .fields #[.none, .bool false, .ref s.heap.objs.size, rawInt 0, .none, .none] }) (s.heap.objs.size + 1) s.heap.objs.size 0 .none := by
    rw [← sz]
    exact Heap.get?_push_size _ rfl
  show _ ∧ _
  rw [sz]
  exact ⟨⟨_, at_, rfl⟩, h _ at_ (Heap.get?_push_of_some _ (Heap.get?_push_size _ B.free)) (by rw [Heap.size_push, sz]) fun b ob q => Heap.get?_push_of_some _ (Heap.get?_push_of_some _ q)⟩
end PySem
namespace DL
open PySem PySem.Spec PyProof.Rows L2
/-- enumerate(t), t a tuple: each item in a new pair -/
def Itet (K : PySem.W.Frag) (a : Addr) : It :=
  ⟨fun i H => ∃ (xs : List V) (x : V), SqT K H a xs ∧ xs[i]? = some x, fun i H v H' => ∃ T x, v = .ref T ∧ H T = none ∧ H' = upd H T (.tup [.int (i : Nat), x]) ∧ ∀ xs, SqT K H a xs → xs[i]? = some x, fun i H => ∃ xs : List V, SqT K H a xs ∧ xs.length = i⟩
theorem turn_enumT {P : Program} {w : World} {K : PySem.W.Frag} {elts : List Expr} {kk : Nat} {tpos : Pos} (a e it : Addr) (hei : e ≠ it) :
    Turn P w K (.Tuple elts kk tpos) (Itet K a) [e, it] e (fun i h => (∃ old, IsEnum h e it ((i : Nat) : Int) old) ∧ h.IsTupleIter it a i) where
  mem := by simp
  obj := fun i h st b hb => by
    obtain ⟨⟨old, he⟩, ⟨o, ho, hc, hd⟩⟩ := st
    rcases (show b = e ∨ b = it by simpa using hb) with z | z
    · subst z; exact ⟨_, he, fun v q => by cases q⟩
    · subst z; exact ⟨o, ho, fun v q => by rw [hd] at q; cases q⟩
  keep := fun i h h' st k => ⟨st.1.elim fun old he => ⟨old, k e (by simp) _ he⟩, st.2.at fun o q => k it (by simp) o q⟩
  item := by
    intro X hP hw hK hc i pins s σ H E I hf st hg
    subst hP hw hK
    obtain ⟨xs, x, hq, hx⟩ := hg
    obtain ⟨its, rv, p, hz⟩ := I.tuple hq
    obtain ⟨u, hu, ru⟩ := rv.get hx
    obtain ⟨⟨old, he⟩, hit⟩ := st
    have hle : e < s.heap.objs.size := Heap.lt_size he
    have hli : it < s.heap.objs.size := by obtain ⟨_, q, _⟩ := hit; exact Heap.lt_size q
    have hta : a ≠ it := fun z => by
      subst z
      obtain ⟨o1, g1, g2, _⟩ := hit
      obtain ⟨o2, g3, g4, _⟩ := p
      rw [g1] at g3
      cases g3
      rw [g2] at g4
      exact absurd g4 (by decide)
    have hne : a ≠ e := fun z => by
      subst z
      obtain ⟨o2, g3, g4, _⟩ := p
      have he' : s.heap.get? a = some _ := he
      rw [he'] at g3
      cases g3
      exact absurd (show Value.type "enumerate" = Value.type "tuple" from g4) (by decide)
    have G := GoesN.enumFrom (elts := elts) (x1 := kk) (pos := tpos) 0 (Draws.tuple (prog := X.prog) (w := X.w) (A := X.A.in1) (I.ok.hd hc) it a hta its.toArray) e hei (by simp [hei, hne.symm]) (by simp)
    have hil : i < its.length := (List.getElem?_eq_some_iff.mp hu).1
    have st' : (∃ old, IsEnum s.heap e it (0 + ((i : Nat) : Int)) old) ∧ s.heap.IsTupleIter it a i ∧ s.heap.IsTuple a its.toArray := ⟨⟨old, by rw [Int.zero_add]; exact he⟩, hit, p⟩
    refine wpAny_mono (G.goes i s (fun v s2 => ∃ x H', Inv X pins σ H' s2 ∧ RelV x v ∧ (Itet X.K a).yld i H x H' ∧ ((∃ old, IsEnum s2.heap e it ((i + 1 : Nat) : Int) old) ∧ s2.heap.IsTupleIter it a (i + 1)) ∧ ∀ b ∈ [e, it], H' b = none) E (by simpa using hil) st' fun v h' tk hY hst hk htk => ?_)
      (fun r s1 h1 => h1) fun _ _ z => z
    obtain ⟨T, t, y, rfl, hT, hy, hTup⟩ := hY
    have ey : y = u := by
      have hy' : its[i]? = some y := by simpa using hy
      rw [hu] at hy'
      exact (Option.some.inj hy').symm
    subst ey
    have hnb : ∀ b ∈ [e, it], b < s.heap.objs.size := fun b hb => by
      rcases (show b = e ∨ b = it by simpa using hb) with z | z
      · subst z; exact hle
      · subst z; exact hli
    have new : ObjOk X.prog X.w (upd H T (.tup [.int (i : Nat), x])) h' T (.tup [.int (i : Nat), x]) :=
      ⟨by show 2 ≤ sizeLine; decide, [.int (0 + (i : Nat)) t, y], .cons ⟨t, by rw [Int.zero_add]⟩ (.cons ru .nil), hTup⟩
    have J := I.turnedNew (t' := tk) (ch := [e, it]) hk hf hT new
    refine ⟨.ref T, _, J, rfl, ⟨T, x, rfl, I.hok.fresh hT, rfl, fun ys hy => by rw [I.tuple_inj hy hq]; exact hx⟩, ⟨?_, hst.2.1⟩, fun b hb => ?_⟩
    · obtain ⟨old', he'⟩ := hst.1
      have e0 : (0 : Int) + ((i + 1 : Nat) : Int) = ((i + 1 : Nat) : Int) := Int.zero_add _
      rw [e0] at he'
      exact ⟨old', he'⟩
    · rw [upd_ne (Nat.ne_of_lt (Nat.lt_of_lt_of_le (hnb b hb) hT))]
      exact (hf b hb).1
  done := by
    intro X hP hw hK hc i pins s σ H E I hf st hg
    subst hP hw hK
    obtain ⟨xs, hq, hx⟩ := hg
    obtain ⟨its, rv, p, hz⟩ := I.tuple hq
    obtain ⟨⟨old, he⟩, hit⟩ := st
    have hta : a ≠ it := fun z => by
      subst z
      obtain ⟨o1, g1, g2, _⟩ := hit
      obtain ⟨o2, g3, g4, _⟩ := p
      rw [g1] at g3
      cases g3
      rw [g2] at g4
      exact absurd g4 (by decide)
    have hne : a ≠ e := fun z => by
      subst z
      obtain ⟨o2, g3, g4, _⟩ := p
      have he' : s.heap.get? a = some _ := he
      rw [he'] at g3
      cases g3
      exact absurd (show Value.type "enumerate" = Value.type "tuple" from g4) (by decide)
    have G := GoesN.enumFrom (elts := elts) (x1 := kk) (pos := tpos) 0 (Draws.tuple (prog := X.prog) (w := X.w) (A := X.A.in1) (I.ok.hd hc) it a hta its.toArray) e hei (by simp [hei, hne.symm]) (by simp)
    have hl : its.toArray.size = i := by
      rw [List.size_toArray, ← rv.length]
      exact hx
    subst hl
    exact G.stops s (fun s1 => Inv X pins σ H s1) E ⟨⟨old, by rw [Int.zero_add]; exact he⟩, hit, p⟩ fun h' tk hk _ => I.turnedL (t' := tk) (ch := [e, it]) hk hf
  self := fun A i s Q E st h => st.1.elim fun _ he => wpAny_pyIter_enum he h
def iEnumT (K : PySem.W.Frag) (ta : TA) : TI := fun σ H R => ta σ H fun vs H1 => ∃ a xs, vs = [.ref a] ∧ SqT K H1 a xs ∧ R (Itet K a) H1
theorem pi_enumT {X : Cx} {e : Expr} {ta : TA} {p pos tpos : Pos} {elts : List Expr} {kk : Nat} (hg : Gl X "enumerate") (hm : X.mg "enumerate" = none) (ha : PA X [e] ta) (hs : starEach [e] X.env = [(false, eval e X.env)] := by rfl) :
    PI X (.Tuple elts kk tpos) (.Call (.Name "enumerate" p) [e] [] pos) (iEnumT X.K ta) := ⟨fun pins s σ H R I h => by
  refine Call_ (ld_blt I hg hm boot_enumerate (PyProof.Rows.callWith_type1 (thn (ha.run pos pins s σ H _ I h) fun us s1 z => ?_) hs rfl))
  obtain ⟨vs, H1, J, r, a, xs, rfl, hq, q⟩ := z
  cases r with
  | cons r rr =>
    cases rr
    cases r
    obtain ⟨its, rv, p', hz⟩ := J.tuple hq
    refine enum0_begins (begins_tuple a its.toArray) p' fun h' he hit hsz hk => wpAny_pyIter_enum he ?_
    refine ⟨s1.heap.objs.size + 1, [s1.heap.objs.size + 1, s1.heap.objs.size], _, _, H1, rfl, J.kept (t' := s1.toks) hk, turn_enumT a (s1.heap.objs.size + 1) s1.heap.objs.size (Nat.succ_ne_self _), ⟨⟨.none, he⟩, _, hit, rfl, rfl⟩, fun b hb => ?_, q⟩
    have le : s1.heap.objs.size ≤ b := by
      rcases (show b = s1.heap.objs.size + 1 ∨ b = s1.heap.objs.size by simpa using hb) with y | y
      · rw [y]; exact Nat.le_succ _
      · rw [y]; exact Nat.le_refl _
    exact J.fpOk le (J.hok.fresh le)⟩
def Itzs (x y : Str) : It :=
  ⟨fun i _ => i < min x.cps.size y.cps.size, fun i H v H' => ∃ T c d, v = .ref T ∧ H T = none ∧ H' = upd H T (.tup [.str ⟨#[c]⟩, .str ⟨#[d]⟩]) ∧ x.cps[i]? = some c ∧ y.cps[i]? = some d, fun i _ => i = min x.cps.size y.cps.size⟩
theorem turn_zipS {P : Program} {w : World} {K : PySem.W.Frag} {elts : List Expr} {kk : Nat} {tpos : Pos} {x y : Str} {t u : Tok} {z TI TO i1 i2 : Addr} (S : ZipSep2 z TI TO i1 i2 [i1] [i2]) :
    Turn P w K (.Tuple elts kk tpos) (Itzs x y) [z, TI, TO, i1, i2] z (fun i h => IsZip h z TI TO .none ∧ IsTupOf2 h TI (.ref i1) (.ref i2) ∧ (∃ a1 a2, IsTupOf2 h TO a1 a2) ∧ h.IsStrIter i1 (strIterType x) x t i ∧ h.IsStrIter i2 (strIterType y) y u i) where
  mem := by simp
  obj := fun i h st c hc => by
    obtain ⟨hz, hTI, ⟨a1, a2, hTO⟩, ⟨o1, e1, _, d1⟩, ⟨o2, e2, _, d2⟩⟩ := st
    rcases (show c = z ∨ c = TI ∨ c = TO ∨ c = i1 ∨ c = i2 by simpa using hc) with q | q | q | q | q
    · rw [q]; exact ⟨_, hz, fun v y => by cases y⟩
    · rw [q]; exact ⟨_, hTI, fun v y => by cases y⟩
    · rw [q]; exact ⟨_, hTO, fun v y => by cases y⟩
    · rw [q]; exact ⟨o1, e1, fun v y => by rw [d1] at y; cases y⟩
    · rw [q]; exact ⟨o2, e2, fun v y => by rw [d2] at y; cases y⟩
  keep := fun i h h' st k => by
    obtain ⟨hz, hTI, ⟨a1, a2, hTO⟩, ⟨o1, e1, r1⟩, ⟨o2, e2, r2⟩⟩ := st
    exact ⟨k z (by simp) _ hz, k TI (by simp) _ hTI, ⟨a1, a2, k TO (by simp) _ hTO⟩, ⟨o1, k i1 (by simp) _ e1, r1⟩, ⟨o2, k i2 (by simp) _ e2, r2⟩⟩
  item := by
    intro X hP hw hK hc i pins s σ H E I hf st hg
    subst hP hw hK
    have hh : X.A.in1.handled = none := I.ok.hd hc
    have G := GoesN.zip2 (elts := elts) (x1 := kk) (pos := tpos) S (Draws.text (prog := X.prog) (w := X.w) (A := X.A.in1) hh i1 x t) (Draws.text (prog := X.prog) (w := X.w) (A := X.A.in1) hh i2 y u)
    have alive : ∀ b ∈ [z, TI, TO, i1, i2], b < s.heap.objs.size := fun b hb => by
      obtain ⟨hz, hTI, ⟨a1, a2, hTO⟩, ⟨o1, e1, _, d1⟩, ⟨o2, e2, _, d2⟩⟩ := st
      rcases (show b = z ∨ b = TI ∨ b = TO ∨ b = i1 ∨ b = i2 by simpa using hb) with q | q | q | q | q
      · rw [q]; exact Heap.lt_size hz
      · rw [q]; exact Heap.lt_size hTI
      · rw [q]; exact Heap.lt_size hTO
      · rw [q]; exact Heap.lt_size e1
      · rw [q]; exact Heap.lt_size e2
    refine wpAny_mono (G.goes i s (fun v s2 => ∃ w H', Inv X pins σ H' s2 ∧ RelV w v ∧ (Itzs x y).yld i H w H' ∧ (IsZip s2.heap z TI TO .none ∧ IsTupOf2 s2.heap TI (.ref i1) (.ref i2) ∧ (∃ a1 a2, IsTupOf2 s2.heap TO a1 a2) ∧ s2.heap.IsStrIter i1 (strIterType x) x t (i + 1) ∧ s2.heap.IsStrIter i2 (strIterType y) y u (i + 1)) ∧ ∀ b ∈ [z, TI, TO, i1, i2], H' b = none) E hg st fun v h' tk hY hst hk htk => ?_)
      (fun r s1 h1 => h1) fun _ _ q => q
    obtain ⟨T, v1, v2, rfl, hT, ⟨c, t1, hc1, rfl⟩, ⟨d, t2, hd1, rfl⟩, hTup⟩ := hY
    have new : ObjOk X.prog X.w (upd H T (.tup [.str ⟨#[c]⟩, .str ⟨#[d]⟩])) h' T (.tup [.str ⟨#[c]⟩, .str ⟨#[d]⟩]) :=
      ⟨by show 2 ≤ sizeLine; decide, [.str ⟨#[c]⟩ t1, .str ⟨#[d]⟩ t2], .cons ⟨t1, rfl⟩ (.cons ⟨t2, rfl⟩ .nil), hTup⟩
    have J := I.turnedNew (t' := tk) (ch := [z, TI, TO, i1, i2]) (fun b o hb q => hk b o (fun m => hb (by
      rcases (show b = z ∨ b = TO ∨ b = i1 ∨ b = i2 by simpa using m) with y | y | y | y <;> simp [y])) q) hf hT new
    refine ⟨.ref T, _, J, rfl, ⟨T, c, d, rfl, I.hok.fresh hT, rfl, hc1, hd1⟩, hst, fun b hb => ?_⟩
    rw [upd_ne (Nat.ne_of_lt (Nat.lt_of_lt_of_le (alive b hb) hT))]
    exact (hf b hb).1
  done := by
    intro X hP hw hK hc i pins s σ H E I hf st hg
    subst hP hw hK
    have hh : X.A.in1.handled = none := I.ok.hd hc
    have G := GoesN.zip2 (elts := elts) (x1 := kk) (pos := tpos) S (Draws.text (prog := X.prog) (w := X.w) (A := X.A.in1) hh i1 x t) (Draws.text (prog := X.prog) (w := X.w) (A := X.A.in1) hh i2 y u)
    have hi : i = min x.cps.size y.cps.size := hg
    subst hi
    exact G.stops s (fun s1 => Inv X pins σ H s1) E st fun h' tk hk _ => I.turnedL (t' := tk) (ch := [z, TI, TO, i1, i2]) (fun b o hb q => hk b o (fun m => hb (by
      rcases (show b = z ∨ b = TO ∨ b = i1 ∨ b = i2 by simpa using m) with y | y | y | y <;> simp [y])) q) hf
  self := fun A i s Q E st h => wpAny_pyIter_zip st.1 h
def iZipS (ta : TA) : TI := fun σ H R => ta σ H fun vs H1 => ∃ x y, vs = [.str x, .str y] ∧ R (Itzs x y) H1
theorem pi_zipS {X : Cx} {e e2 : Expr} {ta : TA} {p pos tpos : Pos} {elts : List Expr} {kk : Nat} (hg : Gl X "zip") (hm : X.mg "zip" = none) (ha : PA X [e, e2] ta)
    (hs : starEach [e, e2] X.env = (false, eval e X.env) :: starEach [e2] X.env := by rfl) (hpl : (backTo pos (starEach [e2] X.env)).any (·.1) = false := by rfl) :
    PI X (.Tuple elts kk tpos) (.Call (.Name "zip" p) [e, e2] [] pos) (iZipS ta) := ⟨fun pins s σ H R I h => by
  refine Call_ (ld_blt I hg hm PyProof.Rows.boot_zip (PyProof.Rows.callWith_type1 (thn (ha.run pos pins s σ H _ I h) fun us s1 w => ?_) hs hpl))
  obtain ⟨vs, H1, J, r, x, y, rfl, q⟩ := w
  cases r with
  | cons r rr =>
    cases rr with
    | cons r' rr =>
      cases rr
      obtain ⟨t, rfl⟩ := r
      obtain ⟨u, rfl⟩ := r'
      refine zip_begins2 (begins_text x t) (begins_text y u) trivial trivial fun h' hz hTI hTO h1 h2 hsz hk => wpAny_pyIter_zip hz ?_
      refine ⟨s1.heap.objs.size + 4, [s1.heap.objs.size + 4, s1.heap.objs.size + 2, s1.heap.objs.size + 3, s1.heap.objs.size, s1.heap.objs.size + 1], _, _, H1, rfl, J.kept (t' := s1.toks) hk,
        turn_zipS (x := x) (y := y) (t := t) (u := u) (zip_sep2 (fp1 := []) (fp2 := []) (by simp) (by simp)), ⟨hz, hTI, ⟨_, _, hTO⟩, ⟨_, h1, rfl, rfl⟩, ⟨_, h2, rfl, rfl⟩⟩, fun b hb => ?_, q⟩
      have le : s1.heap.objs.size ≤ b := by
        rcases (show b = s1.heap.objs.size + 4 ∨ b = s1.heap.objs.size + 2 ∨ b = s1.heap.objs.size + 3 ∨ b = s1.heap.objs.size ∨ b = s1.heap.objs.size + 1 by simpa using hb) with w | w | w | w | w
        · rw [w]; exact Nat.le_add_right _ _
        · rw [w]; exact Nat.le_add_right _ _
        · rw [w]; exact Nat.le_add_right _ _
        · rw [w]; exact Nat.le_refl _
        · rw [w]; exact Nat.le_add_right _ _
      exact J.fpOk le (J.hok.fresh le)⟩
end DL

set_option maxHeartbeats 1000000
namespace DL
open PySem PySem.Spec PyProof.Rows L2
section
variable {X : Cx} {C : Cq} {W : WX} {st : Stmt} {e a b c o tg l : Expr} {es : List Expr} {pos apos cpos : Pos} {F Fa Fb Fc : EF} {G : AF}
def aSigns (F : EF) : AF := fun ρ b => (F ρ b).bind fun d b' => match d with
  | .str x => .ok (signsOf x) b'
  | _ => .stuck
theorem itS {K : PySem.W.Frag} {ba : Option Addr} {S : Hp} (x : Str) : ItD K ba (Its x) (signsOf x) S := fun C hC i S' ρ b σ H e ok => by
  have hl : (signsOf x).length = x.cps.size := by simp [signsOf]
  refine ⟨fun d hd => ?_, fun h => ?_⟩
  · have hi : i < x.cps.size := by rw [← hl]; exact (List.getElem?_eq_some_iff.mp hd).1
    refine ⟨hi, fun v H' y => ?_⟩
    obtain ⟨e1, k, hk, rfl⟩ := y
    subst e1
    have hd' : (signsOf x)[i]? = some (.str ⟨#[k]⟩) := by
      unfold signsOf
      rw [List.getElem?_map, Array.getElem?_toList, hk]
      rfl
    rw [hd] at hd'
    cases hd'
    exact ⟨S', Same.refl _, ok, .str _, fun _ _ z => z⟩
  · show x.cps.size ≤ i
    omega
theorem d_istr (h : PE X l (tD X.K C W F)) : PI X tg l (tDI X.K C W (aSigns F)) := pi_imp (pi_str h) fun σ H R ⟨S, ρ, b, ok, q⟩ => by
  refine ⟨S, ρ, b, ok, q.bind.imp fun d b1 S1 H1 s1 ok1 q1 v r => ?_⟩
  cases d with
  | str x => cases r; exact ⟨x, rfl, q1 S1 H1 (Same.refl _) ok1 _ (itS x)⟩
  | _ => exact q1.elim
theorem pair_of {K : PySem.W.Frag} {S : Hp} {ρ : Env} {b : Bag} {σ : L2.St} {H : Hp} {T : Addr} {v w : V} {d e : D} (ok : OkS K C S ρ b σ H) (hT : H T = none) (r1 : DR K C.ba S v d) (r2 : DR K C.ba S w e) :
    Same S (upd S T (.tup [v, w])) ∧ OkS K C (upd S T (.tup [v, w])) ρ b σ (upd H T (.tup [v, w])) ∧ DR K C.ba (upd S T (.tup [v, w])) (.ref T) (.tup [d, e]) :=
  ⟨ok.same hT, ok.alloc hT, .tup upd_same (.cons (r1.up (ok.same hT)) (.cons (r2.up (ok.same hT)) .nil))⟩
theorem keep_upd {H : Hp} {T : Addr} {u : HO} (hT : H T = none) : ∀ p o, H p = some o → upd H T u p = some o := fun p o e => by
  rw [upd_ne (ne_of_none e hT)]; exact e
theorem itE {K : PySem.W.Frag} {ba : Option Addr} {S : Hp} {a : Addr} {xs : List V} {ds : List D} (h : S a = some (.tup xs)) (r : DRs K ba S xs ds) : ItD K ba (Itet K a) (enumOf ds) S := fun C hC i S' ρ b σ H e ok => by
  subst hC
  have hS : SqT K H a xs := seqT (e.trans ok.core.sub) h
  have hl : (enumOf ds).length = ds.length := by simp [enumOf]
  refine ⟨fun d hd => ?_, fun hl' => ⟨xs, hS, by rw [r.length, ← hl]; exact hl'⟩⟩
  have hi : i < ds.length := by rw [← hl]; exact (List.getElem?_eq_some_iff.mp hd).1
  have hdi : ds[i]? = some ds[i] := List.getElem?_eq_getElem hi
  obtain ⟨v, hv, rv⟩ := r.get hdi
  refine ⟨⟨xs, v, hS, hv⟩, fun x H' y => ?_⟩
  obtain ⟨T, x0, rfl, hT, rfl, y⟩ := y
  have hx := y xs hS
  rw [hv] at hx
  cases hx
  have hd' : (enumOf ds)[i]? = some (.tup [.int (i : Nat), ds[i]]) := by
    unfold enumOf
    rw [List.getElem?_zipWith, hdi, List.getElem?_range hi]
  rw [hd] at hd'
  cases hd'
  obtain ⟨p1, p2, p3⟩ := pair_of ok hT (.int (i : Nat)) (rv.up e)
  exact ⟨_, p1, p2, p3, keep_upd hT⟩
theorem d_ienumT {elts : List Expr} {kk : Nat} {p tpos : Pos} (hg : Gl X "enumerate") (hm : X.mg "enumerate" = none) (ha : PA X [a] (tDA X.K C W G)) (hs : starEach [a] X.env = [(false, eval a X.env)] := by rfl) :
    PI X (.Tuple elts kk tpos) (.Call (.Name "enumerate" p) [a] [] pos) (tDI X.K C W (aEnumT G)) := pi_imp (pi_enumT hg hm ha hs) fun σ H R ⟨S, ρ, b, ok, q⟩ => by
  refine ⟨S, ρ, b, ok, q.bind.imp fun ds b1 S1 H1 s1 ok1 q1 vs r => ?_⟩
  split at q1
  · cases r with
    | cons r1 r2 =>
      cases r2
      cases r1 with
      | tup h1 h2 => exact ⟨_, _, rfl, seqT ok1.core.sub h1, q1 S1 H1 (Same.refl _) ok1 _ (itE h1 h2)⟩
  · exact q1.elim
theorem itZ {K : PySem.W.Frag} {ba : Option Addr} {S : Hp} (x y : Str) : ItD K ba (Itzs x y) (zipOf (signsOf x) (signsOf y)) S := fun C hC i S' ρ b σ H e ok => by
  subst hC
  have hl : (zipOf (signsOf x) (signsOf y)).length = min x.cps.size y.cps.size := by simp [zipOf, signsOf]
  refine ⟨fun d hd => ?_, fun h => ?_⟩
  · have hi : i < min x.cps.size y.cps.size := by rw [← hl]; exact (List.getElem?_eq_some_iff.mp hd).1
    refine ⟨hi, fun v H' w => ?_⟩
    obtain ⟨T, k, m, rfl, hT, rfl, hk, hm⟩ := w
    have hd' : (zipOf (signsOf x) (signsOf y))[i]? = some (.tup [.str ⟨#[k]⟩, .str ⟨#[m]⟩]) := by
      unfold zipOf signsOf
      rw [List.getElem?_zipWith, List.getElem?_map, List.getElem?_map, Array.getElem?_toList, Array.getElem?_toList, hk, hm]
      rfl
    rw [hd] at hd'
    cases hd'
    obtain ⟨p1, p2, p3⟩ := pair_of ok hT (.str ⟨#[k]⟩) (.str ⟨#[m]⟩)
    exact ⟨_, p1, p2, p3, keep_upd hT⟩
  · show i = min x.cps.size y.cps.size
    omega
theorem d_izipS {elts : List Expr} {kk : Nat} {p tpos : Pos} (hg : Gl X "zip") (hm : X.mg "zip" = none) (ha : PA X [a, b] (tDA X.K C W G)) (hs : starEach [a, b] X.env = (false, eval a X.env) :: starEach [b] X.env := by rfl) (hpl : (backTo pos (starEach [b] X.env)).any (·.1) = false := by rfl) :
    PI X (.Tuple elts kk tpos) (.Call (.Name "zip" p) [a, b] [] pos) (tDI X.K C W (aZipS G)) := pi_imp (pi_zipS hg hm ha hs hpl) fun σ H R ⟨S, ρ, b, ok, q⟩ => by
  refine ⟨S, ρ, b, ok, q.bind.imp fun ds b1 S1 H1 s1 ok1 q1 vs r => ?_⟩
  split at q1
  · cases r with
    | cons r1 r2 =>
      cases r2 with
      | cons r2 r3 => cases r3; cases r1; cases r2; exact ⟨_, _, rfl, q1 S1 H1 (Same.refl _) ok1 _ (itZ _ _)⟩
  · exact q1.elim
theorem d_astar {p : Pos} (he : PE X e (tD X.K C W F)) (hr : PA X es (tDA X.K C W G)) (hs : starEach (.Starred e p :: es) X.env = (true, eval e X.env) :: starEach es X.env := by rfl) : PA X (.Starred e p :: es) (tDA X.K C W (aStar F G)) :=
  pa_imp (StX.pa_star he hr hs) fun σ H Q ⟨S, ρ, b, ok, q⟩ => by
  refine ⟨S, ρ, b, ok, q.bind.imp fun d b1 S1 H1 s1 ok1 q1 v r => ?_⟩
  cases hx : anySeq d with
  | none => rw [hx] at q1; exact q1.elim
  | some xs =>
    rw [hx] at q1
    have key : ∃ a ys, v = .ref a ∧ (SqT X.K H1 a ys ∨ SqL X.K H1 a ys) ∧ DRs X.K C.ba S1 ys xs := by
      cases d <;> simp [anySeq] at hx
      · subst hx
        cases r with
        | tup h1 h2 => exact ⟨_, _, rfl, .inl (seqT ok1.core.sub h1), h2⟩
      · subst hx
        cases r with
        | lst h1 h2 => exact ⟨_, _, rfl, .inr (SqL.of (ok1.core.sub _ _ h1)), h2⟩
      · subst hx
        cases r with
        | fl h1 h2 => exact ⟨_, _, rfl, .inr (ok1.core.sub.seq h1), h2⟩
    obtain ⟨a, ys, rfl, h1, h2⟩ := key
    exact ⟨a, ys, rfl, h1, S1, ρ, b1, ok1, q1.bind.imp fun ds b2 S2 H2 s2 ok2 q2 vs rs => q2 S2 H2 (Same.refl _) ok2 _ ((h2.up s2).app rs)⟩
theorem tChain_of {r r' : R2} {f f' : D → D → Option D} (hf : Op2 X.K C r f) (hf' : Op2 X.K C r' f') {σ : L2.St} {H : Hp} {Q : VK} (h : tD X.K C W (e3 f f' Fa Fb Fc) σ H Q) : tChain r r' (tD X.K C W Fa) (tD X.K C W Fb) (tD X.K C W Fc) σ H Q := by
  obtain ⟨S, ρ, b, ok, q⟩ := h
  refine ⟨S, ρ, b, ok, q.bind.imp fun x b1 S1 H1 s1 ok1 q1 v r1 => ⟨S1, ρ, b1, ok1, q1.bind.imp fun y b2 S2 H2 s2 ok2 q2 w r2 => ?_⟩⟩
  split at q2
  · rename_i hz
    refine hf S2 ρ b2 σ H2 v w x y _ _ ok2 (r1.up s2) r2 hz fun u S3 H3 e3 o3 r3 => ?_
    cases r3
    refine ⟨true, rfl, ?_⟩
    rw [if_pos rfl]
    refine ⟨S3, ρ, b2, o3, (OutG.up q2 e3).bind.imp fun z b3 S4 H4 s4 ok4 q4 w' r4 => ?_⟩
    obtain ⟨z', hz', q5⟩ := q4.pureO
    exact hf' S4 ρ b3 σ H4 w w' y z z' Q ok4 (r2.up (e3.trans s4)) r4 hz' fun u S5 H5 e5 o5 r5 => q5 S5 H5 e5 o5 u r5
  · rename_i hz
    refine hf S2 ρ b2 σ H2 v w x y _ _ ok2 (r1.up s2) r2 hz fun u S3 H3 e3 o3 r3 => ?_
    cases r3
    refine ⟨false, rfl, ?_⟩
    rw [if_neg (by decide)]
    exact q2 S3 H3 e3 o3 _ (.bl _)
  · exact q2.elim
theorem d_chain {op op' : CmpOp} {r r' : R2} {f f' : D → D → Option D} (ho : OpR X (compareOp op) r) (ho' : OpR X (compareOp op') r') (hf : Op2 X.K C r f) (hf' : Op2 X.K C r' f') (ha : PE X a (tD X.K C W Fa)) (hb : PE X b (tD X.K C W Fb)) (hc : PE X c (tD X.K C W Fc))
    (hm : lastMarks [op, op'] [b, c] = false := by with_unfolding_all rfl) : PE X (.Compare a [op, op'] [b, c] pos) (tD X.K C W (e3 f f' Fa Fb Fc)) := pe_imp (pe_chain ho ho' ha hb hc hm) fun _ _ _ h => tChain_of hf hf' h
theorem t_chain {op op' : CmpOp} {r r' : R2} {f f' : D → D → Option D} (ho : OpR X (compareOp op) r) (ho' : OpR X (compareOp op') r') (hf : Op2 X.K C r f) (hf' : Op2 X.K C r' f') (ha : PE X a (tD X.K C W Fa)) (hb : PE X b (tD X.K C W Fb)) (hc : PE X c (tD X.K C W Fc))
    (hm : lastMarks [op, op'] [b, c] = false := by with_unfolding_all rfl) : PT X (.Compare a [op, op'] [b, c] pos) (tDt X.K C W (bB (e3 f f' Fa Fb Fc))) := pt_imp (pt_chain ho ho' ha hb hc hm) fun _ _ _ h => by
  have h' := tTest_of h
  exact tChain_of hf hf' h'
theorem t_lele (ha : PE X a (tD X.K C W Fa)) (hb : PE X b (tD X.K C W Fb)) (hc : PE X c (tD X.K C W Fc)) (hm : lastMarks [.LtE, .LtE] [b, c] = false := by with_unfolding_all rfl) : PT X (.Compare a [.LtE, .LtE] [b, c] pos) (tDt X.K C W (bB (e3 leF leF Fa Fb Fc))) := t_chain o_le o_le d_le2 d_le2 ha hb hc hm
theorem d_lele (ha : PE X a (tD X.K C W Fa)) (hb : PE X b (tD X.K C W Fb)) (hc : PE X c (tD X.K C W Fc)) (hm : lastMarks [.LtE, .LtE] [b, c] = false := by with_unfolding_all rfl) : PE X (.Compare a [.LtE, .LtE] [b, c] pos) (tD X.K C W (e3 leF leF Fa Fb Fc)) := d_chain o_le o_le d_le2 d_le2 ha hb hc hm
end
end DL

set_option maxHeartbeats 1000000
namespace DL
open PySem PySem.Spec PyProof.Rows L2
section
variable {X : Cx} {C : Cq} {W : WX} {st : Stmt} {e a b c o tg l : Expr} {es : List Expr} {pos apos cpos : Pos} {F Fa Fb Fc : EF} {G : AF}
theorem d_tyn {x : Str} {n : String} (hg : Gl X x) (hm : X.mg x = none) (hv : bootBuiltins x = some (.type n)) (hn : x ≠ "__name__" := by decide) (hd : (x == ("__debug__" : Str)) = false := by decide) : PE X (.Name x pos) (tD X.K C W (eC (.obj (.ty n)))) :=
  d_const (pe_bltn (v := .ty n) hg hm hv rfl hn hd) fun _ => .obj _
theorem d_clsn {x : Str} {A : Addr} (hg : Gl X x) (hm : X.mg x = some (.ref A)) (hd : (x == ("__debug__" : Str)) = false := by decide) : PE X (.Name x pos) (tD X.K C W (eC (.obj (.ref A)))) :=
  d_const (pe_glob (v := .ref A) hg hm rfl hd) fun _ => .obj _
theorem d_intn {x : Str} {i : Int} {t : Tok} (hg : Gl X x) (hm : X.mg x = some (.int i t)) (hd : (x == ("__debug__" : Str)) = false := by decide) : PE X (.Name x pos) (tD X.K C W (eC (.int i))) :=
  d_const (v := .int i) (pe_glob hg hm ⟨_, rfl⟩ hd) fun _ => .int _
theorem d_strn {x y : Str} {t : Tok} (hg : Gl X x) (hm : X.mg x = some (.str y t)) (hd : (x == ("__debug__" : Str)) = false := by decide) : PE X (.Name x pos) (tD X.K C W (eC (.str y))) :=
  d_const (v := .str y) (pe_glob hg hm ⟨_, rfl⟩ hd) fun _ => .str _
theorem tyx_seqT {K : PySem.W.Frag} {H : Hp} {a : Addr} {xs : List V} (h : SqT K H a xs) : TyX K H (.ref a) (.type "tuple") := by
  rcases h with (h | ⟨o, h⟩) | ⟨o, _, _, h1, h2, _⟩
  · exact .base (.tup h)
  · exact .fTuple h
  · exact .kTuple h1 h2
theorem tyx_seqL {K : PySem.W.Frag} {H : Hp} {a : Addr} {xs : List V} (h : SqL K H a xs) : TyX K H (.ref a) (.type "list") := by
  rcases h with (h | ⟨o, h⟩) | ⟨o, _, _, h1, h2, _⟩
  · exact .base (.lst h)
  · exact .base (.frz h)
  · exact .kList h1 h2
theorem c_isi {K : PySem.W.Frag} {c : V} {u : Value} {kb : String → Option Bool} {own : Addr → Option Bool} (hc : ClsV c u) (hb : ∀ n b, kb n = some b → PySem.W.kitOne K (.type n) u = some b) (ho : ∀ A b, own A = some b → ClsI K A ∧ PySem.W.kitOne K (.ref A) u = some b) : CallD K C (rIsi K) (isiF c kb own) := by
  intro S ρ b σ H vs ds z Q ok rs hz q
  unfold isiF at hz
  split at hz
  · rename_i d c'
    split at hz
    · rename_i hcc
      subst hcc
      cases rs with
      | cons r1 r2 =>
        cases r2 with
        | cons r2 r3 =>
          cases r3; cases r2
          have base : ∀ (n : String), tyD d = some (.inl n) → (∀ v, DR K C.ba S v d → TyX K H v (.type n)) → ∃ (x c : V) (t u : Value) (b : Bool), [_, c'] = [x, c] ∧ ClsV c u ∧ TyX K H x t ∧ PySem.W.kitOne K t u = some b ∧ Q (.bl b) H := fun n hn hty => by
            rw [hn] at hz
            simp only [Option.map_eq_some_iff] at hz
            obtain ⟨k, hk, rfl⟩ := hz
            exact ⟨_, _, _, _, k, rfl, hc, hty _ r1, hb _ _ hk, q _ S H (Same.refl _) ok (.bl _)⟩
          cases d with
          | non => exact base _ rfl fun v r => by cases r; exact .base .non
          | bl k => exact base _ rfl fun v r => by cases r; exact .base (.bl _)
          | int k => exact base _ rfl fun v r => by cases r; exact .base (.int _)
          | str k => exact base _ rfl fun v r => by cases r; exact .base (.str _)
          | tup ds => exact base _ rfl fun v r => (by
              cases r with
              | tup h1 h2 => exact tyx_seqT (seqT ok.core.sub h1))
          | lst ds => exact base _ rfl fun v r => (by
              cases r with
              | lst h1 h2 => exact tyx_seqL (SqL.of (ok.core.sub _ _ h1)))
          | fl ds => exact base _ rfl fun v r => (by
              cases r with
              | fl h1 h2 => exact tyx_seqL (ok.core.sub.seq h1))
          | ins A ns ds =>
            simp only [tyD, Option.map_eq_some_iff] at hz
            obtain ⟨k, hk, rfl⟩ := hz
            obtain ⟨i, hi⟩ := ho _ _ hk
            cases r1 with
            | ins h1 h2 h3 => exact ⟨_, _, _, _, k, rfl, hc, .base (.ins (ok.core.sub _ _ h1) i.cl i.ha i.hn i.htk i.hm), hi, q _ S H (Same.refl _) ok (.bl _)⟩
          | obj v => simp [tyD] at hz
          | bag => simp [tyD] at hz
          | dct ks es => exact base _ rfl fun v r => (by
              cases r with
              | dct h1 h2 h3 => exact .fDict (ok.core.sub _ _ h1))
          | dtp _ _ => simp [tyD] at hz
    · cases hz
  · cases hz
theorem d_isi {p : Pos} {cv : V} {u : Value} {kb : String → Option Bool} {own : Addr → Option Bool} (hc : ClsV cv u) (hb : ∀ n b, kb n = some b → PySem.W.kitOne X.K (.type n) u = some b) (ho : ∀ A b, own A = some b → ClsI X.K A ∧ PySem.W.kitOne X.K (.ref A) u = some b)
    (hg : Gl X "isinstance") (hm : X.mg "isinstance" = none) (ha : PA X [a, b] (tDA X.K C W G)) (he : starEach [a, b] X.env = (false, eval a X.env) :: starEach [b] X.env := by rfl) (hpl : (backTo pos (starEach [b] X.env)).any (·.1) = false := by rfl) :
    PE X (.Call (.Name "isinstance" p) [a, b] [] pos) (tD X.K C W (eB (isiF cv kb own) G)) := d_callB call_isi (c_isi hc hb ho) hg hm PyProof.Rows.boot_isinstance ha (by decide) (by decide) he hpl
theorem one_cp {x : Str} {c : Nat} (h : x.cps.toList = [c]) : x = ⟨#[c]⟩ := by
  cases x with
  | mk cps =>
    have h : cps.toList = [c] := h
    have : cps = #[c] := by
      apply Array.ext'
      exact h
    rw [this]
theorem in2 {K : PySem.W.Frag} : Op2 K C (fun x y H Q => ∃ (c : Nat) (z : Str), x = .str ⟨#[c]⟩ ∧ y = .str z ∧ Q (.bl (decide (c ∈ z.cps.toList))) H) inF := by
  intro S ρ b σ H v w d e z Q ok r1 r2 hz q
  unfold inF at hz
  split at hz
  · split at hz
    · rename_i hc
      cases hz; cases r1; cases r2
      exact ⟨_, _, by rw [one_cp hc], rfl, q _ S H (Same.refl _) ok (.bl _)⟩
    · cases hz
  · cases hz
theorem d_in (ha : PE X a (tD X.K C W Fa)) (hb : PE X b (tD X.K C W Fb)) (hm : behindInMarks .In b = false := by with_unfolding_all rfl) : PE X (.Compare a [.In] [b] pos) (tD X.K C W (e2 inF Fa Fb)) := d_cmp op_in_sign in2 ha hb hm
def MtD (K : PySem.W.Frag) (C : Cq) (r : V → List V → Hp → VK → Prop) (f : Str → List D → Option D) : Prop := ∀ (S : Hp) (ρ : Env) (b : Bag) (σ : L2.St) (H : Hp) (x : Str) (vs : List V) (ds : List D) (z : D) (Q : VK), OkS K C S ρ b σ H → DRs K C.ba S vs ds → f x ds = some z →
  (∀ u S' H', Same S S' → OkS K C S' ρ b σ H' → DR K C.ba S' u z → Q u H') → r (.str x) vs H Q
theorem d_bm {name : Str} {id : String} {r : V → List V → Hp → VK → Prop} {f : Str → List D → Option D} (slot : Slot "str" name id) (hty : typeOf (.builtin id) = pure (.type "method_descriptor")) (hm : MtR X id r) (hf : MtD X.K C r f) (ho : PE X o (tD X.K C W F)) (ha : PA X (e :: es) (tDA X.K C W G))
    (hbase : attributeBase o name X.env (eval o X.env) = eval o X.env := by rfl)
    (hfew : ((backTo cpos (starEach (e :: es) X.env)).all (fun x => !x.1) && (backToKw cpos (keywordEach [] X.env)).all (fun x => x.1.isSome)
      && decide ((e :: es).length + ([] : List Keyword).length + (if ([] : List Keyword).isEmpty then 0 else 1) < 30)) = true := by rfl)
    (hline : (apos.endLine == cpos.line) = true := by rfl) (hs : starEach (e :: es) X.env = (false, eval e X.env) :: starEach es X.env := by rfl) (hplain : (backTo cpos (starEach es X.env)).any (·.1) = false := by rfl) :
    PE X (.Call (.Attribute o name apos) (e :: es) [] cpos) (tD X.K C W (eM f F G)) :=
  pe_imp (pe_bm PySem.F.plainAttrs_str slot hty hm ho ha hbase hfew hline hs hplain) fun σ H Q ⟨S, ρ, b, ok, q⟩ => by
  refine ⟨S, ρ, b, ok, q.bind.imp fun d b1 S1 H1 s1 ok1 q1 v r => ?_⟩
  cases d with
  | str x =>
    cases r
    refine ⟨rfl, S1, ρ, b1, ok1, q1.bind.imp fun ds b2 S2 H2 s2 ok2 q2 vs rs => ?_⟩
    obtain ⟨z, hz, q3⟩ := q2.pureO
    exact hf S2 ρ b2 σ H2 x vs ds z Q ok2 rs hz fun u S' H' e o r => q3 S' H' e o u r
  | _ => exact q1.elim
theorem m_find {K : PySem.W.Frag} : MtD K C (fun x xs H Q => ∃ a b, x = .str a ∧ xs = [.str b] ∧ Q (.int (Txt.find a b)) H) findF := by
  intro S ρ b σ H x vs ds z Q ok rs hz q
  unfold findF at hz
  split at hz
  · cases hz
    cases rs with
    | cons r1 r2 => cases r2; cases r1; exact ⟨x, _, rfl, rfl, q _ S H (Same.refl _) ok (.int _)⟩
  · cases hz
def strsD : List D → Option (List Str)
  | [] => some []
  | .str x :: ds => (strsD ds).map (x :: ·)
  | _ :: _ => none
def seqD : D → Option (List D)
  | .lst ds => some ds
  | .tup ds => some ds
  | .fl ds => some ds
  | _ => none
def joinF (x : Str) : List D → Option D
  | [d] => (seqD d).bind fun ds => (strsD ds).bind fun ys => if (ys.map (·.length)).sum + ys.length * x.length ≤ 16777216 then some (.str (Txt.join x ys)) else none
  | _ => none
theorem lk_dr {K : PySem.W.Frag} {ba : Option Addr} {S : Hp} {f : Str} : ∀ {fs : List (Str × V)} {ns : List Str} {ds : List D} {d : D}, fs.map (·.1) = ns → DRs K ba S (fs.map (·.2)) ds → lkD ns ds f = some d → ∃ v, fs.lookup f = some v ∧ DR K ba S v d
  | [], _, _, _, h, r, e => by subst h; cases r; simp [lkD] at e
  | (n, v) :: fs, _, ds, d, h, r, e => by
    subst h
    cases r with
    | cons r1 r2 =>
      simp only [List.map_cons, lkD] at e
      unfold List.lookup
      split at e
      · rename_i hh
        cases e
        exact ⟨v, by rw [hh], r1⟩
      · rename_i hh
        have hh : (f == n) = false := by simpa using hh
        rw [hh]
        exact lk_dr rfl r2 e
theorem ins_of {K : PySem.W.Frag} {ba : Option Addr} {S : Hp} {A : Addr} {f : Str} {d z : D} {v : V} (r : DR K ba S v d) (h : fldF A f d = some z) : ∃ a dx fs u, v = .ref a ∧ S a = some (.ins A dx fs) ∧ fs.lookup f = some u ∧ DR K ba S u z := by
  cases d with
  | ins A' ns ds =>
    simp only [fldF] at h
    split at h
    · rename_i hA
      subst hA
      cases r with
      | ins h1 h2 h3 =>
        obtain ⟨u, h4, h5⟩ := lk_dr h2 h3 h
        exact ⟨_, _, _, u, rfl, h1, h4, h5⟩
    · cases h
  | _ => cases h
theorem d_fld {A : Addr} {f : Str} (he : PE X e (tD X.K C W F)) (c : Cls X.K A) (n : NoAttr X.K A f) (hb : attributeBase e f X.env (eval e X.env) = eval e X.env := by rfl) : PE X (.Attribute e f pos) (tD X.K C W (e1 (fldF A f) F)) := pe_imp (pe_fld he hb) fun σ H Q ⟨S, ρ, b, ok, q⟩ => by
  refine ⟨S, ρ, b, ok, q.bind.imp fun d b1 S1 H1 s1 ok1 q1 v r => ?_⟩
  obtain ⟨z, hz, q2⟩ := q1.pureO
  obtain ⟨a, dx, fs, u, rfl, h1, h2, h3⟩ := ins_of r hz
  exact ⟨a, A, dx, fs, u, rfl, ok1.core.sub _ _ h1, c, n, h2, q2 S1 H1 (Same.refl _) ok1 u h3⟩
theorem d_prop {A p g : Addr} {f pr : Str} {fd : FuncData} {k : Nat} (he : PE X e (tD X.K C W F)) (c : Cls X.K A) (hp : PropOf X.K A pr p g) (FO : FnOk X.prog X.w X.K X.mg X.base CX0 k g fd ["self"] (getSp A f)) (hr : Room (k + 1) X.A) (hb : Binds X.K fd ["self"] [])
    (hab : attributeBase e pr X.env (eval e X.env) = eval e X.env := by rfl) : PE X (.Attribute e pr pos) (tD X.K C W (e1 (fldF A f) F)) := pe_imp (pe_prop he c hp FO hr hb .nil pass0 hab) fun σ H Q ⟨S, ρ, b, ok, q⟩ => by
  refine ⟨S, ρ, b, ok, q.bind.imp fun d b1 S1 H1 s1 ok1 q1 v r => ?_⟩
  obtain ⟨z, hz, q2⟩ := q1.pureO
  obtain ⟨a, dx, fs, u, rfl, h1, h2, h3⟩ := ins_of r hz
  exact ⟨a, dx, fs, rfl, ok1.core.sub _ _ h1, a, dx, fs, u, rfl, ok1.core.sub _ _ h1, h2, q2 S1 H1 (Same.refl _) ok1 u h3⟩
end
end DL

set_option maxHeartbeats 1000000
namespace DL
open PySem PySem.Spec PyProof.Rows L2
theorem FnG.fnok {P : Program} {w : World} {K : PySem.W.Frag} {mg : Str → Option Value} {base : Heap} {k : Nat} {f : Addr} {fd : FuncData} {ps : List Str} {sp : Sp} (F : FnG P w K mg base (fun _ => True) k f fd ps sp) : FnOk P w K mg base (L2.CX P w) k f fd ps sp :=
  ⟨F.many, fun A fr s H ar us vs Q E hr he hb hv hs => F.go A fr s H ar us vs Q E hr trivial he hb hv hs⟩
section
variable {K : PySem.W.Frag} {C : Cq} {S S' H H' : Hp} {ρ : Env} {b : Bag} {σ : L2.St} {p : Addr} {u u' : HO}
theorem OkF.setU (o : OkF K C S ρ b σ H p u) : OkF K C S ρ b σ (upd H p u') p u' := by
  obtain ⟨c, h1, h2, h3, h4, O, s, w, n⟩ := o
  refine ⟨c.write h2 h3 h4, upd_same, h2, h3, h4, O, s.mono (Same.refl _) (fun q hq v h => ?_), w, n⟩
  rw [upd_ne (fun z => n (by rw [← z]; exact hq))]
  exact h
theorem OkF.setSh {v : V} {d : D} {i : Nat} (o : OkF K C S ρ b σ H p u) (r : DR K C.ba S v d) : OkF K C S (ρ.set i (some (.sh d))) b (σ.set i (some v)) H p u := by
  obtain ⟨c, h1, h2, h3, h4, O, s, w, n⟩ := o
  obtain ⟨O', s', l⟩ := s.setSh r (i := i)
  exact ⟨c, h1, h2, h3, h4, O', s', w.sub l, fun z => n (l.subset z)⟩
end
abbrev IF := Env → Bag → List Str → List D → IO
def isMe (x : Addr) (ρ : Env) : Bool := match (ρ[0]? : Option (Option SD)) with
  | some (some (.sh (.obj (.ref y)))) => y == x
  | _ => false
/-- the rows of an __init__ -/
def tI (K : PySem.W.Frag) (C : Cq) (W : WX) (A x : Addr) (F : IF) : TS := fun E σ H => ∃ S ρ b dx fs ns ds, OkF K C S ρ b σ H x (.ins A dx fs) ∧ isMe x ρ = true ∧ fs.map (·.1) = ns ∧ DRs K C.ba S (fs.map (·.2)) ds ∧ IOk K C W A x S E (F ρ b ns ds)
def iNil : IF := fun _ b ns ds => .ok (ns, ds) b
def iSeq (x : Addr) (G : SF) (F : IF) : IF := fun ρ b ns ds => match G (unown ρ) b with
  | .nx ρ' b' => if isMe x ρ' = true then F ρ' b' ns ds else .stuck
  | .ex _ c es xs bx => .ex c es xs bx
  | _ => .stuck
def iSt (f : Str) (Fe : EF) (F : IF) : IF := fun ρ b ns ds => match Fe (unown ρ) b with
  | .ok d b' => if ns.contains f = true ∨ 900 < ns.length then .stuck else F ρ b' (ns ++ [f]) (ds ++ [d])
  | _ => .stuck
theorem me_slot {K : PySem.W.Frag} {C : Cq} {S H : Hp} {ρ : Env} {b : Bag} {σ : L2.St} {x : Addr} (ok : OkS K C S ρ b σ H) (h : isMe x ρ = true) : σ[0]? = some (some (.ref x)) := by
  unfold isMe at h
  split at h
  · rename_i y hr
    obtain ⟨v, hv, r⟩ := ok.get hr
    have hy : y = x := by simpa using h
    subst hy
    cases r
    exact hv
  · cases h
theorem putF_new {f : Str} {v : V} : ∀ {fs : List (Str × V)}, (fs.map (·.1)).contains f = false → putF f v fs = fs ++ [(f, v)]
  | [], _ => rfl
  | (n, w) :: fs, h => by
    simp only [List.map_cons, List.contains_cons, Bool.or_eq_false_iff] at h
    unfold putF
    rw [putF_new h.2]
    have hne : n ≠ f := fun z => by
      subst z
      have := h.1
      simp at this
    simp [hne]
section
variable {X : Cx} {C : Cq} {W : WX} {st : Stmt} {sts : List Stmt} {e : Expr} {pos : Pos} {A x : Addr} {G : SF} {F : IF} {Fe : EF}
theorem i_nil : PSs X [] (tI X.K C W A x iNil) := pss_imp pss_nil fun E σ H ⟨S, ρ, b, dx, fs, ns, ds, o, hme, hn, hd, q⟩ => q S σ H dx fs (Same.refl _) o.core o.at_ o.sn hn hd
theorem i_cons (h1 : ∀ C, PS X st (tDS X.K C W G)) (h2 : PSs X sts (tI X.K C W A x F)) : PSs X (st :: sts) (tI X.K C W A x (iSeq x G F)) :=
  pss_imp (pss_cons (t := fun E σ H => ∃ C, tDS X.K C W G E σ H) ⟨fun pins s σ H D I ⟨C, h⟩ => (h1 C).run pins s σ H D I h⟩ h2) fun E σ H ⟨S, ρ, b, dx, fs, ns, ds, o, hme, hn, hd, q⟩ => by
  have s0 : OkS X.K (inner C S H) S (unown ρ) b σ H := o.ok.inner
  refine ⟨inner C S H, S, unown ρ, b, s0, ?_⟩
  unfold iSeq at q
  split at q
  · rename_i ρ' b' hG
    rw [hG]
    intro S' σ' H' e ok
    split at q
    · rename_i hme'
      exact ⟨S', ρ', b', dx, fs, ns, ds, o.again ok, hme', hn, hd.up e, q.up e⟩
    · exact q.elim
  · rename_i ρ' c es xs hG
    rw [hG]
    exact fun dx S' σ' H' b' e ok xr => q dx S' σ' H' b' e (o.core.outer ok.core) xr
  · exact q.elim
theorem i_store {f : Str} {pos' p0 : Pos} {sx : Str} (h0 : PE X (.Name sx p0) (tVar 0)) (he : ∀ C, PE X e (tD X.K C W0 Fe)) (c : Cls X.K A) (n : NoAttr X.K A f) (h2 : PSs X sts (tI X.K C W A x F)) (hs : swapsWith e (some (.Attribute (.Name sx p0) f pos')) pos.line X.env = pure false := by rfl) :
    PSs X (.Assign [.Attribute (.Name sx p0) f pos'] e pos :: sts) (tI X.K C W A x (iSt f Fe F)) :=
  pss_imp (pss_cons (ps_fld (tv := fun σ H Q => ∃ C, tD X.K C W0 Fe σ H Q) h0 ⟨fun pins s σ H Q I ⟨C, h⟩ => (he C).run pins s σ H Q I h⟩ hs) h2) fun E σ H ⟨S, ρ, b, dx, fs, ns, ds, o, hme, hn, hd, q⟩ => by
  refine ⟨inner C S H, S, unown ρ, b, o.ok.inner, ?_⟩
  unfold iSt at q
  split at q
  · rename_i d b' hF
    rw [hF]
    intro S' H' e' ok v r
    have o' : OkF X.K C S' ρ b' σ H' x (.ins A dx fs) := o.frame ok.core e'
    split at q
    · exact q.elim
    · rename_i hc
      have hc1 : ns.contains f = false := by
        cases hh : ns.contains f with
        | false => rfl
        | true => exact absurd (Or.inl hh) hc
      have hc2 : ns.length ≤ 900 := by
        by_cases hh : 900 < ns.length
        · exact absurd (Or.inr hh) hc
        · omega
      refine ⟨_, me_slot o'.ok hme, x, A, dx, fs, rfl, o'.at_, c, n, ?_, ?_⟩
      · have := congrArg List.length hn
        rw [List.length_map] at this
        omega
      · refine ⟨S', ρ, b', dx, fs ++ [(f, v)], ns ++ [f], ds ++ [d], ?_, hme, ?_, ?_, q.up e'⟩
        · rw [putF_new (by rw [hn]; exact hc1)]
          exact o'.setU
        · rw [List.map_append, hn]
          rfl
        · rw [List.map_append]
          exact (hd.up e').app (.cons r .nil)
  · exact q.elim
end
def OutI (K : PySem.W.Frag) (C : Cq) (A x : Addr) (S : Hp) (Q : VK) (E : XK) : IO → Prop
  | .ok z b => ∀ S' H dx fs, Same S S' → Core C S' b H → H x = some (.ins A dx fs) → S' x = none → fs.map (·.1) = z.1 → DRs K C.ba S' (fs.map (·.2)) z.2 → Q .non H
  | .ex c ns ds bx => ∀ (dx : Option Addr) S' H b, Same S S' → Core C S' b H → XR K C.ba S' dx ns ds → b = bx → E (.ref (He.ga K c)) dx H
  | .stuck => False
def spI (K : PySem.W.Frag) (A : Addr) (Fn : Addr → List D → Bag → IO) : Sp := fun vs H Q E => ∃ (H1 S : Hp) (ba : Option Addr) (b : Bag) (ds : List D) (x dx : Addr) (ws : List V), vs = .ref x :: ws ∧ H = upd (upd H1 dx (.own x)) x (.ins A dx []) ∧ H1 x = none ∧ H1 dx = none ∧ dx ≠ x ∧
  Core ⟨H1, S, ba⟩ S b H1 ∧ DRs K ba S ws ds ∧ OutI K ⟨H1, S, ba⟩ A x S Q E (Fn x ds b)
def initF (n m : Nat) (F : Addr → IF) : Addr → List D → Bag → IO := fun x ds b => if ds.length + 1 = m then F x (some (.sh (.obj (.ref x))) :: (ds.map (fun d => some (.sh d)) ++ List.replicate (n - (ds.length + 1)) none)) b [] [] else .stuck
section
variable {P : Program} {w : World} {K : PySem.W.Frag} {mg : Str → Option Value} {base : Heap} {Gd : Around → Prop}
theorem d_init {x qual : Str} {st : Stmt} {f A : Addr} {fd : FuncData} {N ps : List Str} {k : Nat} {F : Addr → IF} (Fu : Fun K x qual st f fd) (Sc : FnScope N ps (defScope st))
    (body : ∀ (y : Addr) (cdv : Value) (Ar : Around) (outer : List PySem.Env) (s : Shared) (H : Hp) (E : XK) (C : Cq), Room k (Ar.deeper (envOfC qual (defScope st) s.heap.objs.size f cdv)) → Gd Ar →
      PSs (cxOf (L2.CX P w) P w K mg base N qual (defScope st) f cdv Ar outer s H E) (defBody st) (tI K C (WD E) A y (F y))) : FnG P w K mg base Gd (k + 1) f fd ps (spI K A (initF N.length ps.length F)) := by
  refine FnG.body Fu Sc (fun vs H Q E h => ?_) (fun cdv Ar outer s H vs Q E hr hg h => ?_)
  · obtain ⟨H1, S, ba, b, ds, y, dx, ws, rfl, rfl, _, _, _, _, r, o⟩ := h
    by_cases hl : ds.length + 1 = ps.length
    · rw [← hl, ← r.length]; rfl
    · unfold initF at o
      rw [if_neg hl] at o
      exact o.elim
  · obtain ⟨H1, S, ba, b, ds, y, dx, ws, rfl, hH, h1, h2, h3, c, r, o⟩ := h
    refine ⟨_, body y cdv Ar outer s H E ⟨H1, S, ba⟩ hr hg, ?_⟩
    unfold initF at o
    by_cases hl : ds.length + 1 = ps.length
    · rw [if_pos hl] at o
      have hx : (upd H1 dx (.own y)) y = none := by rw [upd_ne (fun z => h3 z.symm)]; exact h1
      have cc : Core ⟨H1, S, ba⟩ S b H := by
        rw [hH]
        exact (c.allocH h2).allocH hx
      have sl : Slots K ba S H (L2.start N (.ref y :: ws)) (some (.sh (.obj (.ref y))) :: (ds.map (fun d => some (.sh d)) ++ List.replicate (N.length - (ds.length + 1)) none)) [] := by
        unfold L2.start
        show Slots K ba S H (some (V.ref y) :: (ws.map some ++ List.replicate (N.length - (ws.length + 1)) none)) _ _
        rw [r.length]
        exact .sh (.obj _) (slots_start _ ds ws r)
      refine ⟨S, _, b, dx, [], [], [], ⟨cc, by rw [hH]; exact upd_same, c.sn h1, h1, c.nba h1, [], sl, ⟨List.nodup_nil, fun _ h => by cases h⟩, by simp⟩, by simp [isMe], rfl, .nil, ?_⟩
      cases hF : F y (some (.sh (.obj (.ref y))) :: (ds.map (fun d => some (.sh d)) ++ List.replicate (N.length - (ds.length + 1)) none)) b [] [] with
      | ok z b' => rw [hF] at o; exact fun S' σ H' dx' fs e cc g1 g2 g3 g4 => o S' H' dx' fs e cc g1 g2 g3 g4
      | ex cl ns es => rw [hF] at o; exact fun dx' S' σ H' b' e cc xr => o dx' S' H' b' e cc xr
      | stuck => rw [hF] at o; exact o
    · rw [if_neg hl] at o
      exact o.elim
end
section
variable {X : Cx} {C : Cq} {E : XK} {e : Expr} {es : List Expr} {pos p : Pos} {G : AF} {A f : Addr} {k : Nat} {fd : FuncData} {ps : List Str} {x : Str}
theorem make_of {Fx : Addr → List D → Bag → IO} {Fm : List D → Bag → IO} (hF : ∀ y ds b, Fm ds b = .stuck ∨ Fx y ds b = Fm ds b) {S1 : Hp} {ρ : Env} {b1 : Bag} {σ : L2.St} {H1 : Hp} {vs : List V} {ds : List D} {Q : VK} {y dx : Addr} (ok1 : OkS X.K C S1 ρ b1 σ H1) (r : DRs X.K C.ba S1 vs ds)
    (hy : H1 y = none) (hdx : H1 dx = none) (hne : dx ≠ y) (q : OutG X.K C (WD E) S1 ρ σ (fun d _ S' H' => ∀ v, DR X.K C.ba S' v d → Q v H') ((Fm ds b1).bind fun z b2 => .ok (.ins A z.1 z.2) b2)) :
    spI X.K A Fx (.ref y :: vs) (upd (upd H1 dx (.own y)) y (.ins A dx [])) (fun v H2 => v = .non ∧ Q (.ref y) H2) E := by
  refine ⟨H1, S1, C.ba, b1, ds, y, dx, vs, rfl, rfl, hy, hdx, hne, ok1.core.inner, r, ?_⟩
  rcases hF y ds b1 with h | h
  · rw [h] at q; exact q.elim
  · rw [h]
    cases hm : Fm ds b1 with
    | stuck => rw [hm] at q; exact q.elim
    | ex c ns es bx => rw [hm] at q; exact fun dx' S' H' b' e cc xr => q dx' S' H' b' e (ok1.frame cc e) xr
    | ok z b2 =>
      rw [hm] at q
      intro S' H' dx' fs e cc g1 g2 g3 g4
      have sh := same_upd (u := .ins A dx' fs) g2
      refine ⟨rfl, q (upd S' y (.ins A dx' fs)) H' (e.trans sh) (ok1.frame (cc.share g1 g2 hy (ok1.core.nba hy)) (e.trans sh)) _ (.ins upd_same g3 (g4.up sh))⟩
theorem d_make {Fx : Addr → List D → Bag → IO} {Fm : List D → Bag → IO} (M : Mk X.K A f) (FO : FnOk X.prog X.w X.K X.mg X.base (L2.CX X.prog X.w) k f fd ps (spI X.K A Fx)) (hF : ∀ y ds b, Fm ds b = .stuck ∨ Fx y ds b = Fm ds b) (hr : Room (k + 1) X.A) (hg : Gl X x) (hm : X.mg x = some (.ref A)) (hb : Binds X.K fd ps []) (hx : Passes (L2.CX X.prog X.w) X E)
    (ha : PA X (e :: es) (tDA X.K C (WD E) G)) (hdb : (x == ("__debug__" : Str)) = false := by decide) (he : starEach (e :: es) X.env = (false, eval e X.env) :: starEach es X.env := by rfl) (hpl : (backTo pos (starEach es X.env)).any (·.1) = false := by rfl) :
    PE X (.Call (.Name x p) (e :: es) [] pos) (tD X.K C (WD E) (eMake A Fm G)) := pe_imp (pe_make (dvs := []) M FO hr hg hm hb .nil hx ha hdb he hpl) fun σ H Q ⟨S, ρ, b, ok, q⟩ => by
  refine ⟨S, ρ, b, ok, q.bind.imp fun ds b1 S1 H1 s1 ok1 q1 vs r y dx hy hdx hne => ?_⟩
  rw [List.append_nil]
  exact make_of hF ok1 r hy hdx hne q1
end
section
variable {X : Cx} {C : Cq} {W : WX} {pos : Pos} {body : List Stmt} {h₀ : ExceptHandler} {hs : List ExceptHandler} {G : SF}
theorem d_in3 {e : Expr} {F : EF} (h : ∀ C, PE X e (tD X.K C W0 F)) : PE X e (tDin X.K F) := ⟨fun pins s σ H Q I ⟨C, z⟩ => (h C).run pins s σ H Q I z⟩
end
end DL

set_option maxHeartbeats 1000000
namespace DL
open PySem PySem.Spec PyProof.Rows L2
section
variable {X : Cx} {C : Cq} {W : WX} {st : Stmt} {e a b c o tg l : Expr} {es : List Expr} {pos apos cpos : Pos} {F Fa Fb Fc : EF} {G : AF}
theorem aAny_cases (F : EF) (ρ : Env) (b : Bag) : aAny F ρ b = aSeq F ρ b ∨ aAny F ρ b = aTup F ρ b ∨ aAny F ρ b = aSigns F ρ b := by
  unfold aAny aSeq aTup aSigns
  cases F ρ b with
  | ok d b' => cases d <;> first | exact .inl rfl | exact .inr (.inl rfl) | exact .inr (.inr rfl)
  | ex c ns ds bx => exact .inl rfl
  | stuck => exact .inl rfl
theorem d_iany (h : PE X l (tD X.K C W F)) : PI X tg l (tDI X.K C W (aAny F)) := ⟨fun pins s σ H R I ⟨S, ρ, b, ok, q⟩ => by
  rcases aAny_cases F ρ b with e | e | e
  · rw [e] at q; exact (d_ilist h).run pins s σ H R I ⟨S, ρ, b, ok, q⟩
  · rw [e] at q; exact (d_ituple h).run pins s σ H R I ⟨S, ρ, b, ok, q⟩
  · rw [e] at q; exact (d_istr h).run pins s σ H R I ⟨S, ρ, b, ok, q⟩⟩
theorem d_tsnil : PTs X [] (tDt X.K C W bYes) := ⟨fun pins s σ H Q I ⟨S, ρ, b, ok, q⟩ => pts_nil.run pins s σ H Q I (q S H (Same.refl _) ok)⟩
theorem d_tsone {T : BF} (h : PT X e (tDt X.K C W T)) : PTs X [e] (tDt X.K C W T) := pts_one h
theorem d_inte {x : Str} {i : Int} (hg : Gl X x) (hm : ∃ t, X.mg x = some (.int i t)) (hd : (x == ("__debug__" : Str)) = false := by decide) : PE X (.Name x pos) (tD X.K C W (eC (.int i))) := by
  obtain ⟨t, hm⟩ := hm
  exact d_intn hg hm hd
theorem d_stre {x y : Str} (hg : Gl X x) (hm : ∃ t, X.mg x = some (.str y t)) (hd : (x == ("__debug__" : Str)) = false := by decide) : PE X (.Name x pos) (tD X.K C W (eC (.str y))) := by
  obtain ⟨t, hm⟩ := hm
  exact d_strn hg hm hd
def Has (P : Program) (w : World) (K : PySem.W.Frag) (mg : Str → Option Value) (base : Heap) (Gd : Around → Prop) (k : Nat) (x : Str) (ps : List Str) (sp : Sp) : Prop :=
  ∃ f fd, FnG P w K mg base Gd k f fd ps sp ∧ mg x = some (.ref f) ∧ PySem.W.keepIn K (.ref f) = true ∧ Binds K fd ps []
theorem d_callH {Gd : Around → Prop} {j k : Nat} {ps : List Str} {Fn : DFn} {x : Str} {p : Pos} (h : Has X.prog X.w X.K X.mg X.base Gd j x ps (spD X.K Fn)) (hr : Room k X.A) (hj : j ≤ k) (hgd : Gd X.A) (hg : Gl X x)
    (tk : Takes X W) (ha : PA X (e :: es) (tDA X.K C W G)) (hdb : (x == ("__debug__" : Str)) = false := by decide) (he : starEach (e :: es) X.env = (false, eval e X.env) :: starEach es X.env := by rfl)
    (hpl : (backTo pos (starEach es X.env)).any (·.1) = false := by rfl) : PE X (.Call (.Name x p) (e :: es) [] pos) (tD X.K C W (eCall Fn G)) := by
  obtain ⟨f, fd, FO, hm, hk, hb⟩ := h
  exact d_call FO (hr.mono hj) hgd hg hm hk hb tk ha hdb he hpl
theorem d_callHB {Gd Gd' : Around → Prop} {j jb k : Nat} {ps psb : List Str} {Fn Bn : DFn} {x xb : Str} {p pb posb : Pos} {e2 : Expr} (h : Has X.prog X.w X.K X.mg X.base Gd j x ps (spD X.K Fn)) (h' : Has X.prog X.w X.K X.mg X.base Gd' jb xb psb (spDF X.K Bn)) (hr : Room k X.A) (hj : j ≤ k) (hjb : jb ≤ k) (hgd : Gd X.A) (hgd' : Gd' X.A) (hg : Gl X x) (hgb : Gl X xb)
    (tk : Takes X W) (ha : PA X (e2 :: es) (tDA X.K C W G)) (hdb : (x == ("__debug__" : Str)) = false := by decide) (hdb2 : (xb == ("__debug__" : Str)) = false := by decide)
    (he2 : starEach (e2 :: es) X.env = (false, eval e2 X.env) :: starEach es X.env := by rfl) (hpl2 : (backTo posb (starEach es X.env)).any (·.1) = false := by rfl)
    (he : starEach [.Call (.Name xb pb) (e2 :: es) [] posb] X.env = (false, eval (.Call (.Name xb pb) (e2 :: es) [] posb) X.env) :: starEach [] X.env := by rfl) (hpl : (backTo pos (starEach [] X.env)).any (·.1) = false := by rfl) :
    PE X (.Call (.Name x p) [.Call (.Name xb pb) (e2 :: es) [] posb] [] pos) (tD X.K C W (eBag Fn Bn G)) := by
  obtain ⟨f, fd, FO, hm, hk, hb⟩ := h
  obtain ⟨f', fd', FO', hm', hk', hb'⟩ := h'
  exact d_callBag FO (hr.mono hj) hgd hg hm hk hb tk FO' (hr.mono hjb) hgd' hgb hm' hk' hb' ha hdb hdb2 he2 hpl2 he hpl
end
end DL

set_option maxHeartbeats 1000000
namespace DL
open PySem PySem.Spec PyProof.Rows L2
section
variable {fn : List QD} {ex : PySem.W.Frag → Bool} {K : PySem.W.Frag}
theorem ex_of (c : obK fn ex K = vaK fn) : ex K = true := by
  have := congrArg (fun z : QA => z.1) c
  have h : (ex K && fn.all fun d => d.ok K) = true := this
  rw [Bool.and_eq_true] at h
  exact h.1
theorem fun_of (c : obK fn ex K = vaK fn) (i : Nat) {d : QD} (h : fn[i]? = some d := by rfl) : ∃ fd, Fun K d.name d.qual d.st (d.at_ K) fd := by
  have h1 : (ex K && fn.all fun d => d.ok K) = true := congrArg (fun z : QA => z.1) c
  have h2 : (fn.map fun d => fnV K (d.at_ K)) = fn.map QD.val := congrArg (fun z : QA => z.2) c
  rw [Bool.and_eq_true] at h1
  have h3 : (fn.map fun d => fnV K (d.at_ K))[i]? = (fn.map QD.val)[i]? := by rw [h2]
  rw [List.getElem?_map, List.getElem?_map, h] at h3
  exact QD.get (Option.some.inj h3) (List.all_eq_true.mp h1.2 d (List.mem_of_getElem? h))
end
abbrev GK : Around → Prop := fun A => A.guards = some []
abbrev GT : Around → Prop := fun _ => True
abbrev Fine (s₁ : Shared) (r : Result) (t : Shared) : Prop := r = .ok (.ret (.bool true)) ∧ OldK s₁.heap t.heap ∧ t.os = s₁.os ∧ AllBare t.gens
section
variable {P : Program} {w : World} {K : PySem.W.Frag} {mg mb : Str → Option Value} {k : Nat} {fa a : Addr} {fd : FuncData} {x : Str} {sp : Sp} {s₁ : Shared} {vs : List Value} {ns : List Int}
/-- seen from an abstract heap T that holds at most the script, as a known object -/
theorem call_from (T : Hp) (kin : K.In s₁.heap) (gl : s₁.heap.Ns mainGlobals mg) (bl : s₁.heap.Ns builtinsNs mb) (bb : ∀ x : Str, x ≠ "__name__" → mb x = bootBuiltins x) (nl : s₁.heap.NoLimit) (gn : s₁.gens = #[])
    (at_ : s₁.heap.get? a = some { cls := .type "list", data := .seq vs.toArray }) (room : Room k callerA) (F : ∀ base : Heap, K.In base → base.Ns mainGlobals mg → FnG P w K mg base GK k fa fd [x] sp) (bt : ∀ (s : Shared) (u : Value), BindsTo s fd ⟨[u], []⟩ [(x, u)])
    (on : Only T) (go : sp [.ref a] T (fun v _ => v = .bl true) fun _ _ _ => False) (fine : HOk P w T s₁.heap) (one : ∀ b, T b ≠ none → b = a) (out : T a ≠ none → K.lookup a = none) : codeAny (model P w) callerA (.call (.ref fa) ⟨[.ref a], []⟩) (Fine s₁) s₁ := by
  have keep : ∀ {b : Addr} {o : Obj}, s₁.heap.get? b = some o → T b = none → (hidT s₁.heap T).get? b = some o := fun g n => hidT_get g n
  have free : ∀ {b : Addr} {o : Obj} {es : Array DictEntry} {n : Nat}, s₁.heap.get? b = some o → o.data = .dict es n → T b = none := by
    intro b o es n g dd
    by_cases hz : T b = none
    · exact hz
    · have hb := one b hz
      rw [hb, at_] at g
      injection g with g
      rw [← g] at dd
      nomatch (show Data.seq vs.toArray _ = Data.dict es n from dd)
  have spaces : ∀ {b : Addr} {m : Str → Option Value}, s₁.heap.Ns b m → (hidT s₁.heap T).Ns b m := by
    rintro b m ⟨o, es, n, g, dd, rest⟩
    exact ⟨o, es, n, keep g (free g dd), dd, rest⟩
  have kin' : K.In (hidT s₁.heap T) := by
    intro b o g
    refine keep (kin b o g) ?_
    by_cases hz : T b = none
    · exact hz
    · have hb := one b hz
      rw [hb] at g hz
      rw [out hz] at g
      cases g
  have md : Mod K mg (hidT s₁.heap T) := by
    refine ⟨kin', spaces gl, ⟨mb, spaces bl, bb⟩, ?_⟩
    obtain ⟨mc, g1, g2⟩ := nl
    exact ⟨mc, spaces g1, g2⟩
  have env : Env0 P w K mg (hidT s₁.heap T) callerA [] s₁ T := by
    refine ⟨rfl, md, fun b o g => of_hidT g, Nat.le_of_eq (hidT_size _ _), trivial, fun b hb => ?_, fine, .of_eq gn⟩
    cases hb
  refine codeAny_mono ((F _ kin' (spaces gl)).go callerA [] s₁ T ⟨[.ref a], []⟩ [.ref a] [.ref a] _ _ room rfl env (bt s₁ (.ref a)) (.cons rfl .nil) go) fun r t h => ?_
  match r, h with
  | .error e, h =>
    obtain ⟨_, _, _, _, _, _, _, _, _, _, _, _, z⟩ := h
    exact z.elim
  | .ok (.ret u), h =>
    obtain ⟨v, T', h1, h2, un, fine', rv, hv⟩ := h
    have hv : v = .bl true := hv
    rw [hv] at rv
    have hu : u = Value.bool true := rv
    refine ⟨by rw [hu], OldK.of_keep fun b o g => ?_, h1, h2⟩
    by_cases hz : T b = none
    · exact un.keep b o g hz (fun z => by cases z) (by simp)
    · rcases on b with z | ⟨ob, xs, z⟩
      · exact absurd z hz
      · have z' := un.frzs b ob _ z
        obtain ⟨g1, _⟩ := fine b _ z
        obtain ⟨g2, _⟩ := fine' b _ z'
        rw [g] at g1
        rw [Option.some.inj g1]
        exact g2
  | .ok .next, h => exact False.elim h
  | .ok .brk, h => exact False.elim h
  | .ok .cont, h => exact False.elim h
theorem law_go (kin : K.In s₁.heap) (gl : s₁.heap.Ns mainGlobals mg) (bl : s₁.heap.Ns builtinsNs mb) (bb : ∀ x : Str, x ≠ "__name__" → mb x = bootBuiltins x) (nl : s₁.heap.NoLimit) (gn : s₁.gens = #[])
    (at_ : s₁.heap.get? a = some { cls := .type "list", data := .seq vs.toArray }) (iar : IntsAre vs ns) (size : ns.length ≤ sizeLine) (room : Room k callerA) (F : ∀ base : Heap, K.In base → base.Ns mainGlobals mg → FnG P w K mg base GK k fa fd [x] sp) (bt : ∀ (s : Shared) (u : Value), BindsTo s fd ⟨[u], []⟩ [(x, u)])
    (go : ∀ T : Hp, Only T → SqL K T a (ns.map V.int) → sp [.ref a] T (fun v _ => v = .bl true) fun _ _ _ => False) : codeAny (model P w) callerA (.call (.ref fa) ⟨[.ref a], []⟩) (Fine s₁) s₁ := by
  have rv := vals_ints iar
  have sz : vs.toArray.size ≤ sizeLine := by rw [List.size_toArray, iar.length]; exact size
  by_cases hk : K.lookup a = none
  · have on : Only (fun b => if b = a then some (.frz { cls := .type "list", data := .seq vs.toArray } (.lst (ns.map V.int))) else none) := fun b => by
      by_cases hb : b = a
      · right; exact ⟨_, _, if_pos hb⟩
      · left; exact if_neg hb
    refine call_from _ kin gl bl bb nl gn at_ room F bt on (go _ on (Or.inl (Or.inr ⟨_, if_pos rfl⟩))) (fun b u z => ?_) (fun b z => ?_) fun _ => hk
    · by_cases hb : b = a
      · rw [if_pos hb] at z
        injection z with z
        rw [hb, ← z]
        exact ⟨at_, by rw [List.length_map]; exact size, vs, _, rv, at_⟩
      · rw [if_neg hb] at z; cases z
    · by_cases hb : b = a
      · exact hb
      · exact absurd (if_neg hb) z
  · obtain ⟨o, ho⟩ := Option.ne_none_iff_exists'.mp hk
    have g := kin a o ho
    rw [at_] at g
    injection g with g
    rw [← g] at ho
    refine call_from (fun _ => none) kin gl bl bb nl gn at_ room F bt (fun _ => Or.inl rfl) (go _ (fun _ => Or.inl rfl) (Or.inr ⟨_, vs.toArray, _, ho, rfl, rfl, rfl, sz, rv⟩)) (fun b u z => by cases z) (fun b z => absurd rfl z) fun z => absurd rfl z
end
/-- a law, from its promise of data -/
theorem walkG {l : PySem.W.OpenLaw} {n k : Nat} {q : Program} {loose : List Str} {XP : (Str → Option Value) → Heap → Prop} {YP : World → Heap → Prop} {d : DefRec} {x : Str} (hn : l.most = some n) (hs : n ≤ sizeLine) (hd : d.params.defaults = []) (room : Room k callerA)
    (F : ∀ (w : World) (mg : Str → Option Value) (fa : Addr) (h : Heap), YP w h → h.Ns mainGlobals mg → mg d.name = some (.ref fa) → ∃ (K : PySem.W.Frag) (fd : FuncData) (Fn : DFn), K.In h ∧ (∀ (s : Shared) (u : Value), BindsTo s fd ⟨[u], []⟩ [(x, u)]) ∧
      (∀ ns : List Int, ns.length ≤ n → ∃ b', Fn [.fl (ns.map D.int)] ⟨0, 0, 0⟩ = .ok (.bl true) b') ∧ ∀ base : Heap, K.In base → base.Ns mainGlobals mg → FnG l.prog w K mg base GK k fa fd [x] (spD K Fn)) :
    PySem.W.WalkO q loose XP YP l.row.toRowW d [] (fun f vs => PySem.call f vs) := by
  refine Att.attach_call hn hd fun w s0 s1 mg mb fa o pm cd doc a vs ns G Y ho hdict hcode hname hobj iar len gens => ?_
  obtain ⟨K, fd, Fn, kin, bt, val, go⟩ := F w mg fa _ Y G.T.g hname
  refine law_go kin G.T.g G.T.b G.T.builtins G.T.nolimit gens hobj iar (Nat.le_trans len hs) room go bt fun T on sq => ?_
  obtain ⟨b', hv⟩ := val ns len
  -- what is shared: the script alone
  refine ⟨T, none, ⟨0, 0, 0⟩, [.fl (ns.map D.int)], ⟨Same.refl _, fun _ _ e _ => e, fun _ e => (by cases e), fun _ _ e => .inl e⟩, .cons (.fl sq ?_) .nil, ?_⟩
  · have : ∀ ms : List Int, DRs K none T (ms.map V.int) (ms.map D.int) := fun ms => by
      induction ms with
      | nil => exact .nil
      | cons m ms ih => exact .cons (.int m) ih
    exact this ns
  · rw [hv]
    intro S' H v _ _ r
    cases r
    rfl
end DL

set_option maxHeartbeats 1000000
namespace DL
open PySem PySem.Spec PyProof.Rows L2
section
variable {α β : Type} {a : α} {b : Bag} {k : α → Bag → Out β} {c : Str} {ns : List Str} {ds : List D} {ρ : Env} {ks : α → Bag → SO} {kr : Env → Bag → SO} {d : D}
@[simp] theorem bind_ok_ : (Out.ok a b).bind k = k a b := rfl
@[simp] theorem bind_ex_ : (Out.ex c ns ds bx : Out α).bind k = .ex c ns ds bx := rfl
@[simp] theorem bind_st_ : (Out.stuck : Out α).bind k = .stuck := rfl
@[simp] theorem pureO_some_ : Out.pureO (some a) b = .ok a b := rfl
@[simp] theorem pureO_none_ : Out.pureO (none : Option α) b = .stuck := rfl
@[simp] theorem st_ok_ : (Out.ok a b).st ρ ks = ks a b := rfl
@[simp] theorem st_ex_ : (Out.ex c ns ds bx : Out α).st ρ ks = .ex ρ c ns ds bx := rfl
@[simp] theorem st_st_ : (Out.stuck : Out α).st ρ ks = .stuck := rfl
@[simp] theorem seq_nx_ : (SO.nx ρ b).seq kr = kr ρ b := rfl
@[simp] theorem seq_rt_ : (SO.rt d b).seq kr = .rt d b := rfl
@[simp] theorem seq_ro_ : (SO.ro d b).seq kr = .ro d b := rfl
@[simp] theorem out_rt_ : (SO.rt d b).out = .ok d b := rfl
@[simp] theorem out_nx_ : (SO.nx ρ b).out = .ok .non b := rfl
@[simp] theorem outF_ro_ : (SO.ro d b).outF = .ok d b := rfl
@[simp] theorem noex_ok_ : (Out.ok a b).noex = .ok a b := rfl
@[simp] theorem atI_0 {x : α} {xs : List α} : atI (x :: xs) 0 = some x := by
  simp [atI, ixN]
@[simp] theorem atI_1 {x y : α} {xs : List α} : atI (x :: y :: xs) 1 = some y := by
  have : (1 : Int) < (xs.length : Int) + 1 + 1 := by omega
  simp [atI, ixN, this]
@[simp] theorem atI_2 {x y z : α} {xs : List α} : atI (x :: y :: z :: xs) 2 = some z := by
  have : (2 : Int) < (xs.length : Int) + 1 + 1 + 1 := by omega
  simp [atI, ixN, this]
@[simp] theorem atI_3 {x0 x1 x2 x3 : α} {xs : List α} : atI (x0 :: x1 :: x2 :: x3 :: xs) 3 = some x3 := by
  have : (3 : Int) < (xs.length : Int) + 1 + 1 + 1 + 1 := by omega
  simp [atI, ixN, this]
@[simp] theorem atI_4 {x0 x1 x2 x3 x4 : α} {xs : List α} : atI (x0 :: x1 :: x2 :: x3 :: x4 :: xs) 4 = some x4 := by
  have : (4 : Int) < (xs.length : Int) + 1 + 1 + 1 + 1 + 1 := by omega
  simp [atI, ixN, this]
@[simp] theorem atI_5 {x0 x1 x2 x3 x4 x5 : α} {xs : List α} : atI (x0 :: x1 :: x2 :: x3 :: x4 :: x5 :: xs) 5 = some x5 := by
  have : (5 : Int) < (xs.length : Int) + 1 + 1 + 1 + 1 + 1 + 1 := by omega
  simp [atI, ixN, this]
@[simp] theorem atI_6 {x0 x1 x2 x3 x4 x5 x6 : α} {xs : List α} : atI (x0 :: x1 :: x2 :: x3 :: x4 :: x5 :: x6 :: xs) 6 = some x6 := by
  have : (6 : Int) < (xs.length : Int) + 1 + 1 + 1 + 1 + 1 + 1 + 1 := by omega
  simp [atI, ixN, this]
@[simp] theorem atI_7 {x0 x1 x2 x3 x4 x5 x6 x7 : α} {xs : List α} : atI (x0 :: x1 :: x2 :: x3 :: x4 :: x5 :: x6 :: x7 :: xs) 7 = some x7 := by
  have : (7 : Int) < (xs.length : Int) + 1 + 1 + 1 + 1 + 1 + 1 + 1 + 1 := by omega
  simp [atI, ixN, this]
theorem sh_int (i : Int) : SeqAt.shaped (.int i) = true := by simp [SeqAt.shaped, PyData.canLay0, PyData.depth]
theorem int_eqv (i j : Int) : PyData.eqv (.int i) (.int j) = decide (i = j) := by simp [PyData.eqv]; rfl
@[simp] theorem eqF_int {i j : Int} : eqF (.int i) (.int j) = some (.bl (decide (i = j))) := by
  simp only [eqF, D.pd, sh_int, int_eqv, and_self, if_true]
@[simp] theorem neF_int {i j : Int} : neF (.int i) (.int j) = some (.bl (!decide (i = j))) := by
  simp only [neF, D.pd, sh_int, int_eqv, and_self, if_true]
end
end DL

set_option maxHeartbeats 1000000
namespace DL
open PySem PySem.Spec PyProof.Rows L2
section
variable {X : Cx} {CX : CXT} {k : Nat} {A f : Addr} {fd : FuncData} {ps : List Str} {sp : Sp}
def rLenO (A : Addr) (sp : Sp) : List V → Hp → VK → Prop := fun xs H Q => ∃ a dx fs, xs = [.ref a] ∧ H a = some (.ins A dx fs) ∧ sp [.ref a] H (fun v H' => ∃ n : Int, v = .int n ∧ (0 ≤ n ∧ n < 2 ^ 63) ∧ Q (.int n) H') E0
theorem call_lenO (hs : PySem.W.findIn X.K (.ref A) "__len__" = some (some (.ref f))) (hf : PySem.W.isFn X.K (.ref f) = true) (F : FnOk X.prog X.w X.K X.mg X.base CX k f fd ps sp) (hr : Room (k + 1) X.A) (hb : Binds X.K fd ps []) (hx : Passes CX X E0) : CallR X (.builtin "len") (rLenO A sp) := by
  intro pins s σ H xs us Q I r h
  obtain ⟨a, dx, fs, rfl, ea, q⟩ := h
  have hu : us = [Value.ref a] := by
    cases r with
    | cons r1 r2 => cases r2; cases r1; rfl
  subst hu
  obtain ⟨mA, O, _⟩ := ins_get I.hok ea
  obtain ⟨od, J, _⟩ := O.look
  have hl : ([Value.ref a] ++ []).length = ps.length := by rw [← F.len _ _ _ _ q]; rfl
  refine PySem.Calls.call_function_entry kind_len plain_len entry_len (args_len1 _) ?_
  unfold PySem.Builtin.«len»
  refine wpAny_bind (m := oneArg "len" _) (wpAny_pure ?_)
  refine wpAny_bind (m := callSpecial? (.ref a) (Str.ofString "__len__")) (PySem.W.special_fn I.kIn J hs (beq_iff_eq.mp hf) (wpAny_call (codeAny_mono (F.run X.A.in1 X.stack s H ⟨[.ref a], []⟩ ([Value.ref a] ++ []) [.ref a] _ E0 hr.in1 I.env0.in1 (hb s [.ref a] I.kIn hl) (.cons rfl .nil) q) fun r s' hq => ?_)))
  cases r with
  | error er => exact hx pins σ H s er s' I hq
  | ok fl =>
    cases fl with
    | ret u =>
      obtain ⟨v, H', I3, rv, n, e, ⟨h0, h1⟩, q3⟩ := I.after hq
      subst e
      obtain ⟨t, rfl⟩ := rv
      refine wpAny_bind (wpAny_holding (wpAny_pure ?_))
      refine wpAny_bind (wpAny_letGo ?_)
      have n1 : ¬ n < 0 := Int.not_lt.mpr h0
      have n2 : ¬ n ≥ 2 ^ 63 := Int.not_le.mpr h1
      simp only [n1, n2, if_false]
      exact wpAny_bind (wpAny_mkInt (wpAny_pure ⟨_, rfl, .int n, H', I3.tok _, ⟨_, rfl⟩, q3⟩))
    | next => exact False.elim hq
    | brk => exact False.elim hq
    | cont => exact False.elim hq
end
section
variable {X : Cx} {C : Cq} {W : WX} {k : Nat} {A f : Addr} {fd : FuncData} {ps : List Str} {a : Expr} {pos p : Pos} {G : AF} {Fn : DFn}
theorem d_lenO (hs : PySem.W.findIn X.K (.ref A) "__len__" = some (some (.ref f))) (hf : PySem.W.isFn X.K (.ref f) = true) (F : FnOk X.prog X.w X.K X.mg X.base (L2.CX X.prog X.w) k f fd ps (spD X.K Fn)) (hr : Room (k + 1) X.A) (hb : Binds X.K fd ps [])
    (hg : Gl X "len") (hm : X.mg "len" = none) (ha : PA X [a] (tDA X.K C W G)) (he : starEach [a] X.env = (false, eval a X.env) :: starEach [] X.env := by rfl) (hpl : (backTo pos (starEach [] X.env)).any (·.1) = false := by rfl) :
    PE X (.Call (.Name "len" p) [a] [] pos) (tD X.K C W (eLenO A Fn G)) := pe_imp (pe_callB (call_lenO hs hf F hr hb passL) hg hm PySem.boot_len ha (by decide) (by decide) he hpl) fun σ H Q ⟨S, ρ, b, ok, q⟩ => by
  refine ⟨S, ρ, b, ok, q.bind.imp fun ds b1 S1 H1 s1 ok1 q1 vs r => ?_⟩
  split at q1
  · rename_i A' ns es
    split at q1
    · rename_i hA
      subst hA
      split at q1
      · rename_i n b2 hF
        split at q1
        · rename_i hn
          cases r with
          | cons r1 r2 =>
            cases r2
            cases r1 with
            | ins h1 h2 h3 =>
              refine ⟨_, _, _, rfl, ok1.core.sub _ _ h1, spD_of (W := W0) ok1 (.cons (.ins h1 h2 h3) .nil) ?_⟩
              rw [hF]
              intro S2 H2 e2 ok2 v r
              cases r
              exact ⟨n, rfl, hn, q1 S2 H2 e2 ok2 _ (.int n)⟩
        · exact q1.elim
      · exact q1.elim
    · exact q1.elim
  · exact q1.elim
end
theorem intsD_dr {K : PySem.W.Frag} {ba : Option Addr} {S : Hp} : ∀ {ds : List D} {vs : List V} {is : List Int}, DRs K ba S vs ds → intsD ds = some is → vs = is.map V.int
  | [], _, _, r, h => by cases r; cases h; rfl
  | .int x :: ds, _, _, r, h => by
    simp only [intsD, Option.map_eq_some_iff] at h
    obtain ⟨ks, h1, rfl⟩ := h
    cases r with
    | cons r1 r2 => cases r1; rw [intsD_dr r2 h1]; rfl
  | .non :: _, _, _, _, h => by cases h
  | .str _ :: _, _, _, _, h => by cases h
  | .bl _ :: _, _, _, _, h => by cases h
  | .tup _ :: _, _, _, _, h => by cases h
  | .lst _ :: _, _, _, _, h => by cases h
  | .fl _ :: _, _, _, _, h => by cases h
  | .ins _ _ _ :: _, _, _, _, h => by cases h
  | .obj _ :: _, _, _, _, h => by cases h
  | .bag :: _, _, _, _, h => by cases h
  | .dct _ _ :: _, _, _, _, h => by cases h
  | .dtp _ _ :: _, _, _, _, h => by cases h
theorem c_maxL {K : PySem.W.Frag} {C : Cq} : CallD K C (rMax K) maxLF := by
  intro S ρ b σ H vs ds z Q ok rs hz q
  unfold maxLF at hz
  split at hz
  · simp only [Option.bind_eq_some_iff] at hz
    obtain ⟨is, h1, hz⟩ := hz
    split at hz
    · rename_i i is
      cases hz
      cases rs with
      | cons r1 r2 =>
        cases r2
        cases r1 with
        | lst g1 g2 =>
          have e := intsD_dr g2 h1
          subst e
          refine ⟨_, i :: is, rfl, SqL.of (ok.core.sub _ _ g1), by simp, fun m hm hall => ?_⟩
          obtain ⟨t1, t2, t3⟩ := topI_ge is i
          have e : m = topI i is := by
            have a1 : topI i is ≤ m := t3.elim (fun e => by rw [e]; exact hall i List.mem_cons_self) fun z => hall _ (List.mem_cons_of_mem _ z)
            have a2 : m ≤ topI i is := (List.mem_cons.mp hm).elim (fun e => by rw [e]; exact t1) (t2 m)
            omega
          rw [e]
          exact q _ S H (Same.refl _) ok (.int _)
    · cases hz
  · cases hz
theorem d_maxL {X : Cx} {C : Cq} {W : WX} {a : Expr} {pos p : Pos} {G : AF} (hc : X.calm = true) (hg : Gl X "max") (hm : X.mg "max" = none) (ha : PA X [a] (tDA X.K C W G)) (he : starEach [a] X.env = (false, eval a X.env) :: starEach [] X.env := by rfl) (hpl : (backTo pos (starEach [] X.env)).any (·.1) = false := by rfl) :
    PE X (.Call (.Name "max" p) [a] [] pos) (tD X.K C W (eB maxLF G)) := d_callB (cr_max hc) c_maxL hg hm (by decide +kernel) ha (by decide) (by decide) he hpl
end DL

set_option maxHeartbeats 1000000
namespace DL
open PySem PySem.Spec PyProof.Rows L2
section
variable {K : PySem.W.Frag} {ba : Option Addr} {S S' H : Hp}
theorem flat_dr {v u : V} {d : D} (r : DR K ba S v d) (h : flatD d = some u) : v = u ∧ flatV u = true := by
  cases d <;> simp only [flatD, Option.some.injEq, reduceCtorEq] at h <;> subst h <;> cases r <;> exact ⟨rfl, rfl⟩
theorem flats_dr : ∀ {ds : List D} {vs us : List V}, DRs K ba S vs ds → flatsD ds = some us → vs = us ∧ us.all flatV = true
  | [], _, _, r, h => by cases r; cases h; exact ⟨rfl, rfl⟩
  | d :: ds, _, _, r, h => by
    cases r with
    | cons r1 r2 =>
      simp only [flatsD, Option.bind_eq_some_iff, Option.map_eq_some_iff] at h
      obtain ⟨v, h1, us, h2, rfl⟩ := h
      obtain ⟨rfl, f1⟩ := flat_dr r1 h1
      obtain ⟨rfl, f2⟩ := flats_dr r2 h2
      exact ⟨rfl, by rw [List.all_cons, f1, f2]; rfl⟩
end
section
variable {X : Cx} {C : Cq} {W : WX} {o e a b : Expr} {es : List Expr} {pos apos cpos : Pos} {F Fa Fb : EF} {G : AF}
@[simp] def eML (f : List D → List D → Option D) (Fo : EF) (G : AF) : EF := fun ρ b => (Fo ρ b).bind fun d b1 => match seqOf d with
  | some xs => (G ρ b1).bind fun ds b2 => Out.pureO (f xs ds) b2
  | none => .stuck
theorem inq2 {K : PySem.W.Frag} : Op2 K C (rIn K false) inQ := by
  intro S ρ b σ H v w d e z Q ok r1 r2 hz q
  cases e with
  | lst es =>
    simp only [inQ, Option.bind_eq_some_iff, Option.map_eq_some_iff] at hz
    obtain ⟨y, hy, ys, hys, rfl⟩ := hz
    cases r2 with
    | lst h1 h2 =>
      obtain ⟨rfl, f1⟩ := flat_dr r1 hy
      obtain ⟨rfl, f2⟩ := flats_dr h2 hys
      exact ⟨_, _, rfl, .inl (SqL.of (ok.core.sub _ _ h1)), f1, f2, q _ S H (Same.refl _) ok (.bl _)⟩
  | fl es =>
    simp only [inQ, Option.bind_eq_some_iff, Option.map_eq_some_iff] at hz
    obtain ⟨y, hy, ys, hys, rfl⟩ := hz
    cases r2 with
    | fl h1 h2 =>
      obtain ⟨rfl, f1⟩ := flat_dr r1 hy
      obtain ⟨rfl, f2⟩ := flats_dr h2 hys
      exact ⟨_, _, rfl, .inl (ok.core.sub.seq h1), f1, f2, q _ S H (Same.refl _) ok (.bl _)⟩
  | tup es =>
    simp only [inQ, Option.bind_eq_some_iff, Option.map_eq_some_iff] at hz
    obtain ⟨y, hy, ys, hys, rfl⟩ := hz
    cases r2 with
    | tup h1 h2 =>
      obtain ⟨rfl, f1⟩ := flat_dr r1 hy
      obtain ⟨rfl, f2⟩ := flats_dr h2 hys
      exact ⟨_, _, rfl, .inr (seqT ok.core.sub h1), f1, f2, q _ S H (Same.refl _) ok (.bl _)⟩
  | _ => simp only [inQ, reduceCtorEq] at hz
theorem ninq2 {K : PySem.W.Frag} : Op2 K C (rIn K true) ninQ := by
  intro S ρ b σ H v w d e z Q ok r1 r2 hz q
  cases e with
  | lst es =>
    simp only [ninQ, Option.bind_eq_some_iff, Option.map_eq_some_iff] at hz
    obtain ⟨y, hy, ys, hys, rfl⟩ := hz
    cases r2 with
    | lst h1 h2 =>
      obtain ⟨rfl, f1⟩ := flat_dr r1 hy
      obtain ⟨rfl, f2⟩ := flats_dr h2 hys
      exact ⟨_, _, rfl, .inl (SqL.of (ok.core.sub _ _ h1)), f1, f2, q _ S H (Same.refl _) ok (.bl _)⟩
  | fl es =>
    simp only [ninQ, Option.bind_eq_some_iff, Option.map_eq_some_iff] at hz
    obtain ⟨y, hy, ys, hys, rfl⟩ := hz
    cases r2 with
    | fl h1 h2 =>
      obtain ⟨rfl, f1⟩ := flat_dr r1 hy
      obtain ⟨rfl, f2⟩ := flats_dr h2 hys
      exact ⟨_, _, rfl, .inl (ok.core.sub.seq h1), f1, f2, q _ S H (Same.refl _) ok (.bl _)⟩
  | tup es =>
    simp only [ninQ, Option.bind_eq_some_iff, Option.map_eq_some_iff] at hz
    obtain ⟨y, hy, ys, hys, rfl⟩ := hz
    cases r2 with
    | tup h1 h2 =>
      obtain ⟨rfl, f1⟩ := flat_dr r1 hy
      obtain ⟨rfl, f2⟩ := flats_dr h2 hys
      exact ⟨_, _, rfl, .inr (seqT ok.core.sub h1), f1, f2, q _ S H (Same.refl _) ok (.bl _)⟩
  | _ => simp only [ninQ, reduceCtorEq] at hz
theorem d_inq (ha : PE X a (tD X.K C W Fa)) (hb : PE X b (tD X.K C W Fb)) (hm : behindInMarks .In b = false := by with_unfolding_all rfl) : PE X (.Compare a [.In] [b] pos) (tD X.K C W (e2 inQ Fa Fb)) := d_cmp op_in_seq inq2 ha hb hm
theorem t_inq (ha : PE X a (tD X.K C W Fa)) (hb : PE X b (tD X.K C W Fb)) (hm : behindInMarks .In b = false := by with_unfolding_all rfl) : PT X (.Compare a [.In] [b] pos) (tDt X.K C W (bB (e2 inQ Fa Fb))) := d_tcmp op_in_seq inq2 ha hb hm
theorem t_ninq (ha : PE X a (tD X.K C W Fa)) (hb : PE X b (tD X.K C W Fb)) (hm : behindInMarks .NotIn b = false := by with_unfolding_all rfl) : PT X (.Compare a [.NotIn] [b] pos) (tDt X.K C W (bB (e2 ninQ Fa Fb))) := d_tcmp op_notIn_seq ninq2 ha hb hm
end
end DL

set_option maxHeartbeats 1000000
namespace DL
open PySem PySem.Spec PyProof.Rows L2
section
variable {X : Cx} {C : Cq} {W : WX} {o e a b : Expr} {es : List Expr} {pos apos cpos p : Pos} {F Fa Fb : EF} {G : AF} {st : Stmt}
theorem d_shl (ha : PE X a (tD X.K C W Fa)) (hb : PE X b (tD X.K C W Fb)) : PE X (.BinOp a .LShift b pos) (tD X.K C W (e2 shlF Fa Fb)) :=
  d_op op_shl (i2 (g' := fun i j => .int (i * 2 ^ j.toNat)) (fun d e z h => by
    unfold shlF at h
    split at h
    · split at h
      · rename_i hh; cases h; exact ⟨_, _, rfl, rfl, ⟨hh.1, by omega, hh.2.2⟩, rfl⟩
      · cases h
    · cases h) fun _ _ _ => .int _) ha hb
theorem d_shr (ha : PE X a (tD X.K C W Fa)) (hb : PE X b (tD X.K C W Fb)) : PE X (.BinOp a .RShift b pos) (tD X.K C W (e2 shrF Fa Fb)) :=
  d_op op_shr (i2 (g' := fun i j => .int (i / 2 ^ j.toNat)) (fun d e z h => by
    unfold shrF at h
    split at h
    · split at h
      · cases h; exact ⟨_, _, rfl, rfl, by assumption, rfl⟩
      · cases h
    · cases h) fun _ _ _ => .int _) ha hb
theorem d_band (ha : PE X a (tD X.K C W Fa)) (hb : PE X b (tD X.K C W Fb)) : PE X (.BinOp a .BitAnd b pos) (tD X.K C W (e2 bandF Fa Fb)) :=
  d_op (rI_of0 op_and) (i2 (g' := fun i j => .int (Builtin.bitAnd i j)) (fun d e z h => by
    unfold bandF at h
    split at h
    · cases h; exact ⟨_, _, rfl, rfl, trivial, rfl⟩
    · cases h) fun _ _ _ => .int _) ha hb
theorem d_bor (ha : PE X a (tD X.K C W Fa)) (hb : PE X b (tD X.K C W Fb)) : PE X (.BinOp a .BitOr b pos) (tD X.K C W (e2 borF Fa Fb)) :=
  d_op (rI_of0 op_or) (i2 (g' := fun i j => .int (Builtin.bitOr i j)) (fun d e z h => by
    unfold borF at h
    split at h
    · cases h; exact ⟨_, _, rfl, rfl, trivial, rfl⟩
    · cases h) fun _ _ _ => .int _) ha hb
theorem isN_dr {K : PySem.W.Frag} {ba : Option Addr} {S : Hp} {v : V} {d z : D} (r : DR K ba S v d) (h : isNF d = some z) : z = .bl (decide (v = .non)) := by
  cases d <;> simp only [isNF, Option.some.injEq, reduceCtorEq] at h <;> subst h <;> cases r <;> rfl
theorem empty_dr {K : PySem.W.Frag} {ba : Option Addr} {S : Hp} {vs : List V} {ds : List D} (r : DRs K ba S vs ds) : vs.isEmpty = ds.isEmpty := by
  cases r <;> rfl
theorem tru_dr {K : PySem.W.Frag} {ba : Option Addr} {S H : Hp} {v : V} {d : D} {k : Bool} (r : DR K ba S v d) (sub : Same S H) (h : truD d = some k) : TruV K v H k := by
  cases r with
  | non => cases h; rfl
  | bl b => cases h; rfl
  | int i => cases h; rfl
  | str x =>
    simp only [truD] at h
    split at h
    · rename_i hl; cases h; exact ⟨big_le hl, rfl⟩
    · cases h
  | tup h1 h2 => cases h; exact .inr (.inl ⟨_, seqT sub h1, by rw [empty_dr h2]⟩)
  | lst h1 h2 => cases h; exact .inl ⟨_, SqL.of (sub _ _ h1), by rw [empty_dr h2]⟩
  | fl h1 h2 => cases h; exact .inl ⟨_, sub.seq h1, by rw [empty_dr h2]⟩
  | ins => cases h
  | obj => cases h
  | bag => cases h
  | dct h1 h2 h3 => cases h
  | dtp h1 h2 h3 => cases h
theorem d_truth (h : PE X e (tD X.K C W F)) (he : ∀ whole, isTrue e X.env whole = (do let v ← whole; standAt e.pos; holding [v] (truthy v)) := by intro _; rfl) : PT X e (tDt X.K C W (bT F)) := pt_imp (pt_truth h he) fun σ H Q ⟨S, ρ, b, ok, q⟩ => by
  refine ⟨S, ρ, b, ok, q.bind.imp fun d b1 S1 H1 s1 ok1 q1 v r => ?_⟩
  split at q1
  · rename_i k hk
    exact ⟨k, tru_dr r ok1.core.sub hk, q1 S1 H1 (Same.refl _) ok1⟩
  · exact q1.elim
theorem c_sum {K : PySem.W.Frag} : CallD K C (rSum K) sumF := by
  intro S ρ b σ H vs ds z Q ok rs hz q
  unfold sumF at hz
  split at hz
  · simp only [Option.map_eq_some_iff] at hz
    obtain ⟨is, h1, rfl⟩ := hz
    cases rs with
    | cons r1 r2 =>
      cases r2
      cases r1 with
      | lst g1 g2 =>
        have e := intsD_dr g2 h1
        subst e
        exact ⟨_, is, rfl, SqL.of (ok.core.sub _ _ g1), q _ S H (Same.refl _) ok (.int _)⟩
  · cases hz
theorem d_sum (hc : X.calm = true) (hg : Gl X "sum") (hm : X.mg "sum" = none) (ha : PA X [a] (tDA X.K C W G)) (he : starEach [a] X.env = (false, eval a X.env) :: starEach [] X.env := by rfl) (hpl : (backTo pos (starEach [] X.env)).any (·.1) = false := by rfl) :
    PE X (.Call (.Name "sum" p) [a] [] pos) (tD X.K C W (eB sumF G)) := d_callB (cr_sum hc) c_sum hg hm (by decide +kernel) ha (by decide) (by decide) he hpl
theorem c_any {K : PySem.W.Frag} : CallD K C (rAny K) anyF := by
  intro S ρ b σ H vs ds z Q ok rs hz q
  unfold anyF at hz
  split at hz
  · simp only [Option.map_eq_some_iff] at hz
    obtain ⟨ks, hk, rfl⟩ := hz
    cases rs with
    | cons r1 r2 =>
      cases r2
      cases r1 with
      | lst g1 g2 =>
        have e := truths_dr g2 hk
        subst e
        exact ⟨_, ks, rfl, SqL.of (ok.core.sub _ _ g1), q _ S H (Same.refl _) ok (.bl _)⟩
  · cases hz
theorem d_any' (hc : X.calm = true) (hg : Gl X "any") (hm : X.mg "any" = none) (ha : PA X [a] (tDA X.K C W G)) (he : starEach [a] X.env = (false, eval a X.env) :: starEach [] X.env := by rfl) (hpl : (backTo pos (starEach [] X.env)).any (·.1) = false := by rfl) :
    PE X (.Call (.Name "any" p) [a] [] pos) (tD X.K C W (eB anyF G)) := d_callB (cr_any hc) c_any hg hm (by decide +kernel) ha (by decide) (by decide) he hpl
theorem while_ok {K : PySem.W.Frag} {c : BF} {B : SF} {S1 : Hp} {E : Ends} {σ : L2.St} {H : Hp} {ρ : Env} {b : Bag} {n : Nat} (ok : OkS K C S1 ρ b σ H) (h : SOk K C W S1 E (whileD c B n ρ b)) : tWhile (tDt K C W c) (tDS K C W B) E σ H := by
  refine ⟨fun m σ H => ∃ S' ρ b, Same S1 S' ∧ OkS K C S' ρ b σ H ∧ SOk K C W S' E (whileD c B m ρ b), ⟨n, S1, ρ, b, Same.refl _, ok, h⟩, ?_⟩
  rintro m σ H ⟨S', ρ, b, e, ok, q⟩
  cases m with
  | zero => exact q.elim
  | succ m =>
    unfold whileD at q
    refine ⟨S', ρ, b, ok, q.st.imp fun k b1 S2 H2 e2 ok2 q2 => ?_⟩
    cases k with
    | false => exact q2 S2 σ H2 (Same.refl _) ok2
    | true =>
      rw [if_pos rfl]
      rw [if_pos rfl] at q2
      refine ⟨fun σ' H' => ∃ S' ρ b, Same S1 S' ∧ OkS K C S' ρ b σ' H' ∧ SOk K C W S' E (whileD c B m ρ b), fun σ' H' z => ⟨m, Nat.lt_succ_self _, z⟩, S2, ρ, b1, ok2, ?_⟩
      cases hB : B ρ b1 with
      | nx ρ2 b2 => rw [hB] at q2; exact fun S4 σ4 H4 e4 ok4 => ⟨S4, ρ2, b2, (e.trans e2).trans e4, ok4, SOk.up q2 e4⟩
      | ct ρ2 b2 => rw [hB] at q2; exact fun S4 σ4 H4 e4 ok4 => ⟨S4, ρ2, b2, (e.trans e2).trans e4, ok4, SOk.up q2 e4⟩
      | bk ρ2 b2 => rw [hB] at q2; exact q2
      | rt d b2 => rw [hB] at q2; exact q2
      | ro d b2 => rw [hB] at q2; exact q2
      | ex ρ2 c ns es bx => rw [hB] at q2; exact q2
      | stuck => rw [hB] at q2; exact q2.elim
theorem d_while {n : Nat} {c : BF} {B : SF} {test : Expr} {body : List Stmt} (hp : PassesOwn (model X.prog X.w) X.A X.env X.xe) (hc : PT X test (tDt X.K C W c)) (hb : PSs X body (tDS X.K C W B)) : PS X (.While test body [] pos) (tDS X.K C W (sWhile n c B)) :=
  ps_imp (ps_while hp hc hb) fun E σ H ⟨S, ρ, b, ok, q⟩ => while_ok ok q
theorem d_lenOw {i : Nat} {x : Str} {px : Pos} (hg : Gl X "len") (hm : X.mg "len" = none) (hx : PE X (.Name x px) (tVar i)) (he : starEach [.Name x px] X.env = (false, eval (.Name x px) X.env) :: starEach [] X.env := by rfl) (hpl : (backTo pos (starEach [] X.env)).any (·.1) = false := by rfl) :
    PE X (.Call (.Name "len" p) [.Name x px] [] pos) (tD X.K C W (eLenOw i)) := pe_imp (pe_callB call_len hg hm PySem.boot_len (pa_cons hx pa_nil he) (by decide) (by decide) he hpl) fun σ H Q ⟨S, ρ, b, ok, q⟩ => by
  unfold eLenOw at q
  split at q
  · rename_i ds hr
    obtain ⟨pp, u, e1, hp, r, _⟩ := ok.getOw hr
    cases r with
    | lst r => exact ⟨_, e1, _, _, rfl, .inl ⟨_, SqL.of hp, r.length.symm⟩, q S H (Same.refl _) ok _ (.int _)⟩
  · rename_i ds hr
    obtain ⟨v, e1, r⟩ := ok.get hr
    cases r with
    | lst h1 h2 => exact ⟨_, e1, _, _, rfl, .inl ⟨_, SqL.of (ok.core.sub _ _ h1), h2.length.symm⟩, q S H (Same.refl _) ok _ (.int _)⟩
  · exact q.elim
theorem d_ixOw {i : Nat} {x : Str} {px : Pos} (hx : PE X (.Name x px) (tVar i)) (hb : PE X b (tD X.K C W F)) (hs : PlainIx b) : PE X (.Subscript (.Name x px) b pos) (tD X.K C W (eIxOw i F)) := pe_imp (pe_ix ix_seq hx hb hs) fun σ H Q ⟨S, ρ, b0, ok, q⟩ => by
  unfold eIxOw at q
  split at q
  · rename_i ds hr
    obtain ⟨pp, u, e1, _⟩ := ok.getOw hr
    refine ⟨_, e1, S, ρ, b0, ok, q.bind.imp fun d b1 S1 H1 s1 ok1 q1 v rv => ?_⟩
    split at q1
    · rename_i k
      cases rv
      obtain ⟨z, hz, q2⟩ := q1.pureO
      obtain ⟨pp', u', e1', hp', r', _⟩ := ok1.getOw hr
      rw [e1] at e1'
      cases e1'
      cases r' with
      | lst r' =>
        obtain ⟨w, hw, rw'⟩ := r'.atI hz
        exact .inl ⟨_, _, k, w, rfl, rfl, SqL.of hp', hw, q2 S1 H1 (Same.refl _) ok1 w rw'⟩
    · exact q1.elim
  · rename_i ds hr
    obtain ⟨v, e1, r⟩ := ok.get hr
    refine ⟨_, e1, S, ρ, b0, ok, q.bind.imp fun d b1 S1 H1 s1 ok1 q1 v rv => ?_⟩
    split at q1
    · rename_i k
      cases rv
      obtain ⟨z, hz, q2⟩ := q1.pureO
      cases r with
      | lst h1 h2 =>
        obtain ⟨w, hw, rw'⟩ := h2.atI hz
        exact .inl ⟨_, _, k, w, rfl, rfl, SqL.of (ok1.core.sub _ _ (s1 _ _ h1)), hw, q2 S1 H1 (Same.refl _) ok1 w (rw'.up s1)⟩
    · exact q1.elim
  · exact q.elim
/-- e in x, e not in x -/
@[simp] def eInOw (neg : Bool) (i : Nat) (F : EF) : EF := fun ρ b => match ρ[i]? with
  | some (some (.ow (.lst ds))) => (F ρ b).bind fun d b1 => match flatD d, flatsD ds with
    | some y, some ys => .ok (.bl (if neg then !inV y ys else inV y ys)) b1
    | _, _ => .stuck
  | _ => .stuck
theorem t_ow {i : Nat} {x : Str} {px : Pos} (hx : PE X (.Name x px) (tVar i)) (he : ∀ whole, isTrue (.Name x px) X.env whole = (do let v ← whole; standAt (Expr.Name x px).pos; holding [v] (truthy v)) := by intro _; rfl) : PT X (.Name x px) (tDt X.K C W (bOw i)) := pt_imp (pt_truth hx he) fun σ H Q ⟨S, ρ, b, ok, q⟩ => by
  unfold bOw at q
  split at q
  · rename_i ds hr
    obtain ⟨pp, u, e1, hp, r, _⟩ := ok.getOw hr
    cases r with
    | lst r => exact ⟨_, e1, _, .inl ⟨_, SqL.of hp, rfl⟩, by rw [empty_dr r]; exact q S H (Same.refl _) ok⟩
  · exact q.elim
theorem dropLast_dr {K : PySem.W.Frag} {ba : Option Addr} {S : Hp} {vs : List V} {ds : List D} (h : DRs K ba S vs ds) : DRs K ba S vs.dropLast ds.dropLast := by
  rw [List.dropLast_eq_take, List.dropLast_eq_take, h.length]
  exact h.take _
theorem d_pop {i j : Nat} (h : PS X st (tAsg (tBM0 X.K "list" rPop (tVar i)) (gName j))) : PS X st (tDS X.K C W (sPop i j)) := ps_imp h fun E σ H ⟨S, ρ, b, ok, q⟩ => by
  unfold sPop at q
  split at q
  · rename_i ds hr
    split at q
    · rename_i d hd
      obtain ⟨pp, u, e1, hp, r, _, _, _, wr, _⟩ := ok.getOw hr
      cases r with
      | @lst xs _ r =>
        obtain ⟨v, hv, rv⟩ := r.get hd
        refine ⟨_, e1, .inl ⟨rfl, _, SqL.of hp⟩, pp, xs, v, rfl, rfl, hp, by rw [r.length]; exact hv, ?_⟩
        exact q S _ _ (Same.refl _) ((wr _ _ (.lst (dropLast_dr r))).setSh rv)
    · exact q.elim
  · exact q.elim
end
end DL

set_option maxHeartbeats 1000000
namespace DL
open PySem PySem.Spec PyProof.Rows L2
section
variable {K : PySem.W.Frag} {ba : Option Addr} {S S' H : Hp}
theorem key_dr {v : V} {d : D} {k : Key} (r : DR K ba S v d) (h : keyD d = some k) : v = kV k := by
  cases d <;> simp only [keyD, Option.some.injEq, reduceCtorEq] at h <;> subst h <;> cases r <;> rfl
theorem look_dr : ∀ {kvs : List (Key × V)} {ds : List D} {j : Key} {d : D}, DRs K ba S (kvs.map (·.2)) ds → lookK (kvs.map (·.1)) ds j = some d → ∃ v, valV kvs j = some v ∧ DR K ba S v d
  | [], _, _, _, _, h => by simp [lookK] at h
  | p :: kvs, [], _, _, r, h => by cases r
  | p :: kvs, e :: ds, j, d, r, h => by
    cases r with
    | cons r1 r2 =>
      unfold lookK at h
      rw [List.map_cons] at h
      by_cases hk : p.1 = j
      · simp only [hk, if_true] at h
        cases h
        exact ⟨p.2, valV_pos hk, r1⟩
      · simp only [hk, if_false] at h
        obtain ⟨v, h1, h2⟩ := look_dr r2 h
        exact ⟨v, by rw [valV_neg hk]; exact h1, h2⟩
theorem look_none : ∀ {kvs : List (Key × V)} {ds : List D} {j : Key}, DRs K ba S (kvs.map (·.2)) ds → ((valV kvs j).isSome = (kvs.map (·.1)).any (fun k => decide (k = j)))
  | [], _, _, _ => by simp [valV]
  | p :: kvs, [], _, r => by cases r
  | p :: kvs, e :: ds, j, r => by
    cases r with
    | cons r1 r2 =>
      by_cases hk : p.1 = j
      · rw [valV_pos hk]
        simp [hk]
      · rw [valV_neg hk, look_none r2]
        simp [hk]
theorem set_dr {j : Key} {v : V} {d : D} (rv : DR K ba S v d) : ∀ {kvs : List (Key × V)} {ds : List D}, DRs K ba S (kvs.map (·.2)) ds → DRs K ba S ((kvs.map (fun kv => if kv.1 = j then (kv.1, v) else kv)).map (·.2)) (setK (kvs.map (·.1)) ds j d)
  | [], _, r => by cases r; exact .nil
  | p :: kvs, [], r => by cases r
  | p :: kvs, e :: ds, r => by
    cases r with
    | cons r1 r2 =>
      simp only [List.map_cons, setK]
      by_cases hk : p.1 = j
      · simp only [hk, if_true]
        exact .cons rv (set_dr rv r2)
      · simp only [hk, if_false]
        exact .cons r1 (set_dr rv r2)
theorem put_dr {kvs : List (Key × V)} {ds : List D} {j : Key} {v : V} {d : D} (r : DRs K ba S (kvs.map (·.2)) ds) (rv : DR K ba S v d) : ODR K ba S (.dK (putK kvs j v)) (putD (kvs.map (·.1)) ds j d) := by
  unfold putK putD
  have e : (kvs.any fun kv => decide (kv.1 = j)) = (kvs.map (·.1)).any (fun k => decide (k = j)) := by rw [valV_any]; exact look_none r
  rw [e]
  by_cases h : (kvs.map (·.1)).any (fun k => decide (k = j)) = true
  · rw [if_pos h, if_pos h]
    refine .dct ?_ (set_dr rv r)
    rw [List.map_map]
    apply List.map_congr_left
    intro p _
    show (if p.1 = j then (p.1, v) else p).1 = p.1
    split <;> rfl
  · rw [if_neg h, if_neg h]
    refine .dct (by simp) ?_
    rw [List.map_append]
    exact r.app (.cons rv .nil)
end
section
variable {X : Cx} {C : Cq} {W : WX} {o e a b : Expr} {es : List Expr} {pos pos' apos cpos p : Pos} {F Fa Fb Fk Fv : EF} {G : AF} {st : Stmt}
theorem d_dnew : PE X (.Dict [] [] pos) (tDF X.K C W eDnew) := pe_imp pe_dnewK fun σ H Q ⟨S, ρ, b, ok, q⟩ => fun p hp => q S _ p _ (Same.refl _) (ok.fresh hp) (.dct rfl .nil)
theorem d_dput {i : Nat} {x : Str} {px : Pos} (hu : X.A.units + 1 < cLine) (hx : PE X (.Name x px) (tVar i)) (hk : PE X a (tD X.K C W Fk)) (hv : PE X e (tD X.K C W Fv)) (hs : swapsWith e (some (.Subscript (.Name x px) a pos')) pos.line X.env = pure false := by rfl) :
    PS X (.Assign [.Subscript (.Name x px) a pos'] e pos) (tDS X.K C W (sDput i Fk Fv)) := ps_imp (ps_dput hu hx hk hv hs) fun E σ H ⟨S, ρ, b, ok, q⟩ => by
  unfold sDput at q
  split at q
  · rename_i ks ds hr
    refine ⟨S, ρ, b, ok, q.st.imp fun d b1 S1 H1 s1 ok1 q1 v rv => ?_⟩
    obtain ⟨p1, u1, e1, hp1, r1, _⟩ := ok1.getOw hr
    refine ⟨_, e1, S1, ρ, b1, ok1, q1.st.imp fun k b2 S2 H2 s2 ok2 q2 w rw' => ?_⟩
    split at q2
    · rename_i j hj
      obtain ⟨p2, u2, e2, hp2, r2, _, _, _, wr, _⟩ := ok2.getOw hr
      rw [e1] at e2
      cases e2
      cases r2 with
      | @dct kvs _ _ g1 g2 =>
        split at q2
        · rename_i hl
          refine ⟨_, upd H2 p1 (.dK (putK kvs j v)), rfl, ?_, ?_⟩
          · rw [key_dr rw' hj]
            refine DPut.k hp2 (small_lt ?_)
            have := congrArg List.length g1
            rw [List.length_map] at this
            omega
          · subst g1
            exact q2 S2 σ _ (Same.refl _) (wr _ _ (put_dr g2 (rv.up s2)))
        · exact q2.elim
    · exact q2.elim
  · exact q.elim
theorem d_dgOw {i : Nat} {x : Str} {px : Pos} (hu : X.A.units + 1 < cLine) (hx : PE X (.Name x px) (tVar i)) (hb : PE X b (tD X.K C W F)) (hs : NoSl b) : PE X (.Subscript (.Name x px) b pos) (tD X.K C W (eDgOw i F)) := pe_imp (pe_dget hu hx hb hs) fun σ H Q ⟨S, ρ, b0, ok, q⟩ => by
  unfold eDgOw at q
  split at q
  · rename_i ks ds hr
    obtain ⟨pp, u, e1, _⟩ := ok.getOw hr
    refine ⟨_, e1, S, ρ, b0, ok, q.bind.imp fun d b1 S1 H1 s1 ok1 q1 v rv => ?_⟩
    split at q1
    · rename_i j hj
      obtain ⟨z, hz, q2⟩ := q1.pureO
      obtain ⟨pp', u', e1', hp', r', _⟩ := ok1.getOw hr
      rw [e1] at e1'
      cases e1'
      cases r' with
      | @dct kvs _ _ g1 g2 =>
        subst g1
        obtain ⟨w, hw, rw'⟩ := look_dr g2 hz
        refine ⟨_, w, rfl, ?_, q2 S1 H1 (Same.refl _) ok1 w rw'⟩
        rw [key_dr rv hj, ← hw]
        exact DGet.k hp'
    · exact q1.elim
  · exact q.elim
theorem d_dg (hu : X.A.units + 1 < cLine) (ho : PE X o (tD X.K C W Fa)) (hb : PE X b (tD X.K C W F)) (hs : NoSl b) : PE X (.Subscript o b pos) (tD X.K C W (eDg Fa F)) := pe_imp (pe_dget hu ho hb hs) fun σ H Q ⟨S, ρ, b0, ok, q⟩ => by
  refine ⟨S, ρ, b0, ok, q.bind.imp fun d b1 S1 H1 s1 ok1 q1 v rv => ?_⟩
  split at q1
  · rename_i ks ds
    refine ⟨S1, ρ, b1, ok1, q1.bind.imp fun k b2 S2 H2 s2 ok2 q2 w rw' => ?_⟩
    split at q2
    · rename_i j hj
      obtain ⟨z, hz, q3⟩ := q2.pureO
      cases rv with
      | @dct a od kvs _ _ h1 g1 g2 =>
        subst g1
        obtain ⟨y, hy, ry⟩ := look_dr g2 hz
        refine ⟨_, y, rfl, ?_, q3 S2 H2 (Same.refl _) ok2 y (ry.up s2)⟩
        rw [key_dr rw' hj, ← hy]
        exact .inl ⟨_, _, .inr ⟨od, (s2.trans ok2.core.sub) _ _ h1⟩, rfl, rfl⟩
    · exact q2.elim
  · exact q1.elim
end
end DL

set_option maxHeartbeats 2000000
namespace DL
open PySem PySem.Spec PyProof.Rows L2
def tDIany (K : PySem.W.Frag) (F : AF) : TI := fun σ H R => ∃ C, tDI K C W0 F σ H R
theorem d_iany2 {X : Cx} {tg it : Expr} {F : AF} (h : ∀ C, PI X tg it (tDI X.K C W0 F)) : PI X tg it (tDIany X.K F) := ⟨fun pins s σ H Q I ⟨C, q⟩ => (h C).run pins s σ H Q I q⟩
section
variable {X : Cx} {C : Cq} {W : WX} {e : Expr} {Fi Fi1 : AF} {g g1 : TG} {f f1 : GF} {F : EF} {vs vs1 : List Nat}
theorem lc2D_noex : ∀ {ds : List D} {ρ : Env} {b : Bag} {c : Str} {ns : List Str} {es : List D} {bx : Bag}, lc2D f Fi1 vs1 f1 F ds ρ b ≠ .ex c ns es bx
  | [], _, _, _, _, _, _, h => by cases h
  | d :: ds, ρ, b, c, ns, es, bx, h => by
    unfold lc2D at h
    split at h
    · cases h
    · rename_i z _
      cases hT : Fi1 (unown z.1) z.2 with
      | ex _ _ _ => rw [hT] at h; cases h
      | stuck => rw [hT] at h; cases h
      | ok k b1 =>
        rw [hT] at h
        have h : ((lcD f1 bYes F k (wipeE (unown z.1) vs1) b1).bind fun ys b2 => (lc2D f Fi1 vs1 f1 F ds ρ b2).bind fun zs b3 => .ok (ys ++ zs) b3) = Out.ex c ns es bx := h
        cases hL : lcD f1 bYes F k (wipeE (unown z.1) vs1) b1 with
        | ex _ _ _ => exact lcD_noex hL
        | stuck => rw [hL] at h; cases h
        | ok ys b2 =>
          rw [hL] at h
          have h : ((lc2D f Fi1 vs1 f1 F ds ρ b2).bind fun zs b3 => .ok (ys ++ zs) b3) = Out.ex c ns es bx := h
          cases hM : lc2D f Fi1 vs1 f1 F ds ρ b2 with
          | ex _ _ _ => exact lc2D_noex hM
          | stuck => rw [hM] at h; cases h
          | ok _ _ => rw [hM] at h; cases h
theorem Slots.flat {K : PySem.W.Frag} {ba : Option Addr} {S S' H H' : Hp} {σ : L2.St} {ρ : Env} (s : Slots K ba S H σ ρ []) (e : Same S S') : Slots K ba S' H' σ ρ [] := s.mono e fun p hp => by cases hp
theorem okS_in {K : PySem.W.Frag} {C : Cq} {S H : Hp} {b : Bag} {σ : L2.St} {ρ : Env} (c : Core C S b H) (s : Slots K C.ba S H σ ρ []) : OkS K (inner C S H) S ρ b σ H := ⟨c.inner, [], s, List.nodup_nil, fun _ h => by cases h⟩
theorem lc2_of (hT : CTg X.K g f vs) (hT1 : CTg X.K g1 f1 vs1) {σ : L2.St} {H : Hp} {Q : VK} (hh : tDF X.K C W (eLc2 Fi vs f Fi1 vs1 f1 F) σ H Q) :
    tLc2 (tDI X.K C W Fi) g (tDtany X.K bYes) (tDIany X.K Fi1) g1 (tDtany X.K bYes) (tDany X.K F) vs vs1 σ H Q := by
  obtain ⟨S, ρ, b, ok, q⟩ := hh
  refine ⟨S, ρ, b, ok, ?_⟩
  unfold eLc2 at q
  cases hF : Fi ρ b with
  | stuck => rw [hF] at q; exact q.elim
  | ex c ns ds bx => rw [hF] at q; exact q
  | ok ds b1 =>
    rw [hF] at q
    have q : OutF X.K C W S ρ σ Q ((lc2D f Fi1 vs1 f1 F ds (wipeE (unown ρ) vs) b1).bind fun ys b2 => if ys.length ≤ 100000 then .ok (.lst ys) b2 else .stuck) := q
    intro S1 H1 e1 ok1 J hJ Dd hD
    cases hL : lc2D f Fi1 vs1 f1 F ds (wipeE (unown ρ) vs) b1 with
    | stuck => rw [hL] at q; exact q.elim
    | ex c ns es bx => exact absurd hL lc2D_noex
    | ok ys b2 =>
      rw [hL] at q
      have q : OutF X.K C W S ρ σ Q (if ys.length ≤ 100000 then .ok (.lst ys) b2 else .stuck) := q
      by_cases hl : ys.length ≤ 100000
      · rw [if_pos hl] at q
        have q : ∀ S' H' p u, Same S S' → OkF X.K C S' ρ b2 σ H' p u → ODR X.K C.ba S' u (.lst ys) → Q (.ref p) H' := q
        refine ⟨fun i m H => m = ds.length - i ∧ i ≤ ds.length ∧ ∃ S' b xs pre rest, Same S1 S' ∧ OkF X.K C S' ρ b σ H Dd (.lst xs) ∧ DRs X.K C.ba S' xs pre ∧ lc2D f Fi1 vs1 f1 F (ds.drop i) (wipeE (unown ρ) vs) b = .ok rest b2 ∧ pre ++ rest = ys,
          ⟨ds.length, by simp, Nat.zero_le _, S1, b1, [], [], ys, Same.refl _, ok1.fresh hD, .nil, by simpa using hL, rfl⟩, ?_⟩
        rintro i m H ⟨rfl, hi, S', b', xs, pre, rest, e', of, rx, hr, hys⟩
        by_cases hlt : i < ds.length
        · have hd : ds[i]? = some ds[i] := List.getElem?_eq_getElem hlt
          have oks := of.ok
          obtain ⟨go, yl⟩ := (hJ C rfl i S' ρ b' σ H e' oks).1 _ hd
          rw [List.drop_eq_getElem_cons hlt] at hr
          unfold lc2D at hr
          refine .inr ⟨go, fun H => i + 1 ≤ ds.length ∧ ∃ S' b xs pre rest, Same S1 S' ∧ OkF X.K C S' ρ b σ H Dd (.lst xs) ∧ DRs X.K C.ba S' xs pre ∧ lc2D f Fi1 vs1 f1 F (ds.drop (i + 1)) (wipeE (unown ρ) vs) b = .ok rest b2 ∧ pre ++ rest = ys,
            fun H' n => ⟨ds.length - (i + 1), by omega, rfl, n.1, n.2⟩, fun x H' y => ?_⟩
          have okw : OkS X.K (inner C S' H) S' (wipeE (unown ρ) vs) b' (wipe σ vs) H := (oks.inner).wipe vs
          obtain ⟨_, yl2⟩ := (hJ (inner C S' H) rfl i S' _ b' _ H e' okw).1 _ hd
          obtain ⟨S2, e2, ok2, r2, k2⟩ := yl2 x H' y
          split at hr
          · cases hr
          · rename_i z hg
            refine hT (inner C S' H) S2 _ b' _ H' x _ z.1 z.2 _ ok2 r2 hg fun σ2 hw ok3 => ⟨by rw [hw]; exact wipe_idem, ?_⟩
            obtain ⟨es, b3, hk, hr⟩ := bind_ok hr
            obtain ⟨ys1, b4, hm, hr⟩ := bind_ok hr
            obtain ⟨zs, b5, hz, hr⟩ := bind_ok hr
            cases hr
            refine ⟨inner C S' H, S2, z.1, z.2, ok3, fun S4 H4 e4 ok4 => ?_⟩
            simp only [↓reduceIte]
            -- the inner walk, seen from within
            have sl4 : Slots X.K C.ba S4 H4 σ2 (unown z.1) [] := by
              obtain ⟨c4, O4, s4, w4⟩ := ok4
              exact s4.unown
            have oki : OkS X.K (inner C S' H) S4 (unown z.1) z.2 σ2 H4 := ⟨ok4.core, [], sl4, List.nodup_nil, fun _ h => by cases h⟩
            refine ⟨inner C S' H, S4, unown z.1, z.2, oki, noex_out hk fun S5 H5 e5 ok5 J1 hJ1 => ?_⟩
            have e25 : Same S' S5 := (e2.trans e4).trans e5
            obtain ⟨_, _, of5⟩ := of.push (y := x) ok5.core e25
            refine ⟨fun j k H => k = es.length - j ∧ j ≤ es.length ∧ ∃ S6 b6 xs6 pre6 rest6, Same S5 S6 ∧ OkF X.K C S6 ρ b6 σ H Dd (.lst xs6) ∧ DRs X.K C.ba S6 xs6 pre6 ∧ Slots X.K C.ba S6 H σ2 (unown z.1) [] ∧ lcD f1 bYes F (es.drop j) (wipeE (unown z.1) vs1) b6 = .ok rest6 b4 ∧ pre6 ++ rest6 = pre ++ ys1,
              ⟨es.length, by simp, Nat.zero_le _, S5, b3, xs, pre, ys1, Same.refl _, of5, rx.up e25, sl4.flat e5, by simpa using hm, rfl⟩, ?_⟩
            rintro j k H6 ⟨rfl, hj, S6, b6, xs6, pre6, rest6, e6, of6, rx6, sl6, hr6, hys6⟩
            by_cases hjl : j < es.length
            · have hdj : es[j]? = some es[j] := List.getElem?_eq_getElem hjl
              have ok6 := okS_in of6.ok.core sl6
              have okw6 : OkS X.K (inner C S6 H6) S6 (wipeE (unown z.1) vs1) b6 (wipe σ2 vs1) H6 := ok6.wipe vs1
              obtain ⟨go1, yl1⟩ := (hJ1 (inner C S6 H6) rfl j S6 _ b6 _ H6 e6 okw6).1 _ hdj
              rw [List.drop_eq_getElem_cons hjl] at hr6
              unfold lcD at hr6
              refine .inr ⟨go1, fun H => j + 1 ≤ es.length ∧ ∃ S6 b6 xs6 pre6 rest6, Same S5 S6 ∧ OkF X.K C S6 ρ b6 σ H Dd (.lst xs6) ∧ DRs X.K C.ba S6 xs6 pre6 ∧ Slots X.K C.ba S6 H σ2 (unown z.1) [] ∧ lcD f1 bYes F (es.drop (j + 1)) (wipeE (unown z.1) vs1) b6 = .ok rest6 b4 ∧ pre6 ++ rest6 = pre ++ ys1,
                fun H' n => ⟨es.length - (j + 1), by omega, rfl, n.1, n.2⟩, fun x7 H7 y7 => ?_⟩
              obtain ⟨S7, e7, ok7, r7, _⟩ := yl1 x7 H7 y7
              split at hr6
              · cases hr6
              · rename_i z7 hg7
                refine hT1 (inner C S6 H6) S7 _ b6 _ H7 x7 _ z7.1 z7.2 _ ok7 r7 hg7 fun σ3 hw3 ok8 => ⟨by rw [hw3]; exact wipe_idem, ?_⟩
                obtain ⟨k9, b9, hk9, hr6⟩ := bind_ok hr6
                have hk9 : (Out.ok true z7.2 : Out Bool) = .ok k9 b9 := hk9
                cases hk9
                rw [if_pos rfl] at hr6
                obtain ⟨y0, b10, hy, hr6⟩ := bind_ok hr6
                obtain ⟨ys', b11, hr7, hr8⟩ := bind_ok hr6
                cases hr8
                refine ⟨inner C S6 H6, S7, z7.1, z7.2, ok8, fun S9 H9 e9 ok9 => ?_⟩
                simp only [↓reduceIte]
                refine ⟨inner C S6 H6, S9, z7.1, z7.2, ok9, noex_out hy fun S10 H10 e10 ok10 v10 r10 => ?_⟩
                have e610 : Same S6 S10 := (e7.trans e9).trans e10
                obtain ⟨a1, a2, _⟩ := of6.push (y := v10) ok10.core e610
                have hlen : xs6.length < 100001 := by
                  have h1 := rx6.length
                  have h2 := congrArg List.length hys6
                  have h3 := congrArg List.length hys
                  simp only [List.length_append, List.length_cons] at h2 h3
                  omega
                refine ⟨xs6, a1, small_lt (by omega), hjl, S10, b10, xs6 ++ [v10], pre6 ++ [y0], ys', e6.trans e610, a2, (rx6.up e610).app (.cons r10 .nil), sl6.flat e610, hr7, ?_⟩
                rw [← hys6]
                simp
            · have ej : j = es.length := by omega
              subst ej
              rw [List.drop_length] at hr6
              cases hr6
              have ok6 := okS_in of6.ok.core sl6
              refine .inl ⟨(hJ1 (inner C S6 H6) rfl _ S6 _ b4 _ H6 e6 ok6).2 rfl, hlt, S6, b4, xs6, pre6, zs, ((e'.trans e25).trans e6), of6, rx6, hz, ?_⟩
              rw [List.append_nil] at hys6
              rw [← hys, hys6]
              simp
        · have e : i = ds.length := by omega
          subst e
          rw [List.drop_length] at hr
          cases hr
          refine .inl ⟨(hJ C rfl _ S' ρ _ σ H e' of.ok).2 rfl, ?_⟩
          rw [List.append_nil] at hys
          subst hys
          exact q S' H Dd _ (e1.trans e') of (.lst rx)
      · rw [if_neg hl] at q
        exact q.elim
theorem d_lc2 (hT : CTg X.K g f vs) (hT1 : CTg X.K g1 f1 vs1) (h : PE X e (tLc2 (tDI X.K C W Fi) g (tDtany X.K bYes) (tDIany X.K Fi1) g1 (tDtany X.K bYes) (tDany X.K F) vs vs1)) : PE X e (tDF X.K C W (eLc2 Fi vs f Fi1 vs1 f1 F)) := pe_imp h fun _ _ _ hh => lc2_of hT hT1 hh
end
end DL

set_option maxHeartbeats 1000000
namespace DL
open PySem PySem.Spec PyProof.Rows L2
section
variable {X : Cx} {C : Cq} {W : WX} {o e a b : Expr} {es : List Expr} {pos pos' p p2 : Pos} {F Fa Fb : EF} {G : AF}
theorem rg_dr {K : PySem.W.Frag} {ba : Option Addr} {S : Hp} (n : Int) : DRs K ba S (rgV 0 n) (rangeOf n) := by
  unfold rgV rangeOf
  rw [Int.sub_zero]
  induction List.range n.toNat with
  | nil => exact .nil
  | cons k ks ih =>
    rw [List.map_cons, List.map_cons]
    refine .cons ?_ ih
    show DR K ba S (.int (0 + (k : Nat))) (.int (k : Int))
    rw [Int.zero_add]
    exact .int _
theorem d_listRg (hc : X.calm = true) (hg : Gl X "list") (hm : X.mg "list" = none) (hg2 : Gl X "range") (hm2 : X.mg "range" = none) (ha : PE X a (tD X.K C W F)) (na : starEach [a] X.env = (false, eval a X.env) :: starEach [] X.env := by rfl)
    (nb : starEach [.Call (.Name "range" p2) [a] [] pos'] X.env = (false, eval (.Call (.Name "range" p2) [a] [] pos') X.env) :: starEach [] X.env := by rfl) :
    PE X (.Call (.Name "list" p) [.Call (.Name "range" p2) [a] [] pos'] [] pos) (tDF X.K C W (eLstRg F)) := pe_imp (pe_listRg hc hg hm (prg_1 hg2 hm2 ha na) nb) fun σ H Q ⟨S, ρ, b, ok, q⟩ => by
  refine ⟨S, ρ, b, ok, ?_⟩
  unfold eLstRg at q
  cases hF : F ρ b with
  | stuck => rw [hF] at q; exact q.elim
  | ex c ns ds bx => rw [hF] at q; exact q
  | ok d b1 =>
    rw [hF] at q
    intro S1 H1 e1 ok1 v r
    cases d with
    | int n =>
      have q : OutF X.K C W S ρ σ Q (if 0 ≤ n ∧ n ≤ 100000 then .ok (.lst (rangeOf n)) b1 else .stuck) := q
      by_cases h : 0 ≤ n ∧ n ≤ 100000
      · rw [if_pos h] at q
        cases r
        exact ⟨n, rfl, RgOk.of_le (by omega) (by omega) (by omega) h.1, fun p hp => q S1 _ p _ e1 (ok1.fresh hp) (.lst (rg_dr n))⟩
      · rw [if_neg h] at q; exact q.elim
    | _ => exact q.elim
/-- list(xs) of a list or a tuple -/
@[simp] def anyL : List D → Option (List D)
  | [.lst ds] => some ds
  | [.fl ds] => some ds
  | [.tup ds] => some ds
  | [.dct ks _] => some (ks.map fun k => match k with | .inl i => .int i | .inr x => .str x)
  | _ => none
end
end DL

set_option maxHeartbeats 2000000
namespace DL
open PySem PySem.Spec PyProof.Rows L2
def pick {α : Type} (perm : List Nat) (xs : List α) : List α := perm.filterMap fun i => xs[i]?
end DL

set_option maxHeartbeats 2000000
namespace DL
open PySem PySem.Spec PyProof.Rows L2
/-- zip(x, tuple), x a text, a tuple: each letter and item in a new pair -/
def ItzST (K : PySem.W.Frag) (x : Str) (a : Addr) : It :=
  ⟨fun i H => i < x.cps.size ∧ ∃ (ys : List V) (y : V), SqT K H a ys ∧ ys[i]? = some y, fun i H v H' => ∃ T c y, v = .ref T ∧ H T = none ∧ H' = upd H T (.tup [.str ⟨#[c]⟩, y]) ∧ x.cps[i]? = some c ∧ ∀ ys, SqT K H a ys → ys[i]? = some y, fun i H => ∃ ys : List V, SqT K H a ys ∧ i = min x.cps.size ys.length⟩
theorem turn_zipST {P : Program} {w : World} {K : PySem.W.Frag} {elts : List Expr} {kk : Nat} {tpos : Pos} {x : Str} {t : Tok} {a z TI TO i1 i2 : Addr} (S : ZipSep2 z TI TO i1 i2 [i1] [i2, a]) (hne : a ≠ i2) :
    Turn P w K (.Tuple elts kk tpos) (ItzST K x a) [z, TI, TO, i1, i2] z (fun i h => IsZip h z TI TO .none ∧ IsTupOf2 h TI (.ref i1) (.ref i2) ∧ (∃ a1 a2, IsTupOf2 h TO a1 a2) ∧ h.IsStrIter i1 (strIterType x) x t i ∧ h.IsTupleIter i2 a i) where
  mem := by simp
  obj := fun i h st c hc => by
    obtain ⟨hz, hTI, ⟨a1, a2, hTO⟩, ⟨o1, e1, _, d1⟩, ⟨o2, e2, _, d2⟩⟩ := st
    rcases (show c = z ∨ c = TI ∨ c = TO ∨ c = i1 ∨ c = i2 by simpa using hc) with q | q | q | q | q
    · rw [q]; exact ⟨_, hz, fun v y => by cases y⟩
    · rw [q]; exact ⟨_, hTI, fun v y => by cases y⟩
    · rw [q]; exact ⟨_, hTO, fun v y => by cases y⟩
    · rw [q]; exact ⟨o1, e1, fun v y => by rw [d1] at y; cases y⟩
    · rw [q]; exact ⟨o2, e2, fun v y => by rw [d2] at y; cases y⟩
  keep := fun i h h' st k => by
    obtain ⟨hz, hTI, ⟨a1, a2, hTO⟩, ⟨o1, e1, r1⟩, h2⟩ := st
    exact ⟨k z (by simp) _ hz, k TI (by simp) _ hTI, ⟨a1, a2, k TO (by simp) _ hTO⟩, ⟨o1, k i1 (by simp) _ e1, r1⟩, h2.at fun o q => k i2 (by simp) o q⟩
  item := by
    intro X hP hw hK hc i pins s σ H E I hf st hg
    subst hP hw hK
    have hh : X.A.in1.handled = none := I.ok.hd hc
    obtain ⟨hxi, ys, y, hqy, hy⟩ := hg
    obtain ⟨its, rv, p0, _⟩ := I.tuple hqy
    have p := p0
    obtain ⟨u, hu, ru⟩ := rv.get hy
    have G := GoesN.zip2 (elts := elts) (x1 := kk) (pos := tpos) S (Draws.text (prog := X.prog) (w := X.w) (A := X.A.in1) hh i1 x t) (Draws.tuple (prog := X.prog) (w := X.w) (A := X.A.in1) hh i2 a hne its.toArray)
    have alive : ∀ b ∈ [z, TI, TO, i1, i2], b < s.heap.objs.size := fun b hb => by
      obtain ⟨hz, hTI, ⟨a1, a2, hTO⟩, ⟨o1, e1, _, d1⟩, ⟨o2, e2, _, d2⟩⟩ := st
      rcases (show b = z ∨ b = TI ∨ b = TO ∨ b = i1 ∨ b = i2 by simpa using hb) with q | q | q | q | q
      · rw [q]; exact Heap.lt_size hz
      · rw [q]; exact Heap.lt_size hTI
      · rw [q]; exact Heap.lt_size hTO
      · rw [q]; exact Heap.lt_size e1
      · rw [q]; exact Heap.lt_size e2
    have hil : i < its.length := (List.getElem?_eq_some_iff.mp hu).1
    obtain ⟨s1, s2, s3, s4, s5⟩ := st
    have st' : IsZip s.heap z TI TO .none ∧ IsTupOf2 s.heap TI (.ref i1) (.ref i2) ∧ (∃ a1 a2, IsTupOf2 s.heap TO a1 a2) ∧ s.heap.IsStrIter i1 (strIterType x) x t i ∧ (s.heap.IsTupleIter i2 a i ∧ s.heap.IsTuple a its.toArray) := ⟨s1, s2, s3, s4, s5, p⟩
    refine wpAny_mono (G.goes i s (fun v s2 => ∃ w H', Inv X pins σ H' s2 ∧ RelV w v ∧ (ItzST X.K x a).yld i H w H' ∧ (IsZip s2.heap z TI TO .none ∧ IsTupOf2 s2.heap TI (.ref i1) (.ref i2) ∧ (∃ a1 a2, IsTupOf2 s2.heap TO a1 a2) ∧ s2.heap.IsStrIter i1 (strIterType x) x t (i + 1) ∧ s2.heap.IsTupleIter i2 a (i + 1)) ∧ ∀ b ∈ [z, TI, TO, i1, i2], H' b = none) E (by simp; omega) st' fun v h' tk hY hst hk _ => ?_)
      (fun r s1 h1 => h1) fun _ _ q => q
    obtain ⟨T, v1, v2, rfl, hT, ⟨c, t1, hc1, rfl⟩, hv2, hTup⟩ := hY
    have ev : v2 = u := by
      have hv' : its[i]? = some v2 := by simpa using hv2
      rw [hu] at hv'
      exact (Option.some.inj hv').symm
    subst ev
    have new : ObjOk X.prog X.w (upd H T (.tup [.str ⟨#[c]⟩, y])) h' T (.tup [.str ⟨#[c]⟩, y]) :=
      ⟨by show 2 ≤ sizeLine; decide, [.str ⟨#[c]⟩ t1, v2], .cons ⟨t1, rfl⟩ (.cons ru .nil), hTup⟩
    have J := I.turnedNew (t' := tk) (ch := [z, TI, TO, i1, i2]) (fun b o hb q => hk b o (fun m => hb (by
      rcases (show b = z ∨ b = TO ∨ b = i1 ∨ b = i2 by simpa using m) with y | y | y | y <;> simp [y])) q) hf hT new
    refine ⟨.ref T, _, J, rfl, ⟨T, c, y, rfl, I.hok.fresh hT, rfl, hc1, fun zs hzs => by rw [I.tuple_inj hzs hqy]; exact hy⟩, ⟨hst.1, hst.2.1, hst.2.2.1, hst.2.2.2.1, hst.2.2.2.2.1⟩, fun b hb => ?_⟩
    rw [upd_ne (Nat.ne_of_lt (Nat.lt_of_lt_of_le (alive b hb) hT))]
    exact (hf b hb).1
  done := by
    intro X hP hw hK hc i pins s σ H E I hf st hg
    subst hP hw hK
    have hh : X.A.in1.handled = none := I.ok.hd hc
    obtain ⟨ys, hqy, hi⟩ := hg
    obtain ⟨its, rv, p0, _⟩ := I.tuple hqy
    have p := p0
    have G := GoesN.zip2 (elts := elts) (x1 := kk) (pos := tpos) S (Draws.text (prog := X.prog) (w := X.w) (A := X.A.in1) hh i1 x t) (Draws.tuple (prog := X.prog) (w := X.w) (A := X.A.in1) hh i2 a hne its.toArray)
    have hi : i = min x.cps.size its.toArray.size := by
      have hl := rv.length
      have h2 : its.toArray.size = its.length := by simp
      rw [h2, ← hl]
      exact hi
    subst hi
    obtain ⟨s1, s2, s3, s4, s5⟩ := st
    exact G.stops s (fun s1 => Inv X pins σ H s1) E ⟨s1, s2, s3, s4, s5, p⟩ fun h' tk hk _ => I.turnedL (t' := tk) (ch := [z, TI, TO, i1, i2]) (fun b o hb q => hk b o (fun m => hb (by
      rcases (show b = z ∨ b = TO ∨ b = i1 ∨ b = i2 by simpa using m) with y | y | y | y <;> simp [y])) q) hf
  self := fun A i s Q E st h => wpAny_pyIter_zip st.1 h
/-- zip(x, list), x a text, a list: each letter and item in a new pair -/
def ItzSL (K : PySem.W.Frag) (x : Str) (a : Addr) : It :=
  ⟨fun i H => i < x.cps.size ∧ ∃ (ys : List V) (y : V), SqL K H a ys ∧ ys[i]? = some y, fun i H v H' => ∃ T c y, v = .ref T ∧ H T = none ∧ H' = upd H T (.tup [.str ⟨#[c]⟩, y]) ∧ x.cps[i]? = some c ∧ ∀ ys, SqL K H a ys → ys[i]? = some y, fun i H => ∃ ys : List V, SqL K H a ys ∧ i = min x.cps.size ys.length⟩
theorem turn_zipSL {P : Program} {w : World} {K : PySem.W.Frag} {elts : List Expr} {kk : Nat} {tpos : Pos} {x : Str} {t : Tok} {a z TI TO i1 i2 : Addr} (S : ZipSep2 z TI TO i1 i2 [i1] [i2, a]) (hne : a ≠ i2) :
    Turn P w K (.Tuple elts kk tpos) (ItzSL K x a) [z, TI, TO, i1, i2] z (fun i h => IsZip h z TI TO .none ∧ IsTupOf2 h TI (.ref i1) (.ref i2) ∧ (∃ a1 a2, IsTupOf2 h TO a1 a2) ∧ h.IsStrIter i1 (strIterType x) x t i ∧ h.IsListIter i2 a i) where
  mem := by simp
  obj := fun i h st c hc => by
    obtain ⟨hz, hTI, ⟨a1, a2, hTO⟩, ⟨o1, e1, _, d1⟩, ⟨o2, e2, _, d2⟩⟩ := st
    rcases (show c = z ∨ c = TI ∨ c = TO ∨ c = i1 ∨ c = i2 by simpa using hc) with q | q | q | q | q
    · rw [q]; exact ⟨_, hz, fun v y => by cases y⟩
    · rw [q]; exact ⟨_, hTI, fun v y => by cases y⟩
    · rw [q]; exact ⟨_, hTO, fun v y => by cases y⟩
    · rw [q]; exact ⟨o1, e1, fun v y => by rw [d1] at y; cases y⟩
    · rw [q]; exact ⟨o2, e2, fun v y => by rw [d2] at y; cases y⟩
  keep := fun i h h' st k => by
    obtain ⟨hz, hTI, ⟨a1, a2, hTO⟩, ⟨o1, e1, r1⟩, h2⟩ := st
    exact ⟨k z (by simp) _ hz, k TI (by simp) _ hTI, ⟨a1, a2, k TO (by simp) _ hTO⟩, ⟨o1, k i1 (by simp) _ e1, r1⟩, h2.at fun o q => k i2 (by simp) o q⟩
  item := by
    intro X hP hw hK hc i pins s σ H E I hf st hg
    subst hP hw hK
    have hh : X.A.in1.handled = none := I.ok.hd hc
    obtain ⟨hxi, ys, y, hqy, hy⟩ := hg
    obtain ⟨its, rv, p0, _⟩ := I.list hqy
    have p := p0.isList
    obtain ⟨u, hu, ru⟩ := rv.get hy
    have G := GoesN.zip2 (elts := elts) (x1 := kk) (pos := tpos) S (Draws.text (prog := X.prog) (w := X.w) (A := X.A.in1) hh i1 x t) (Draws.list (prog := X.prog) (w := X.w) (A := X.A.in1) hh i2 a hne its.toArray)
    have alive : ∀ b ∈ [z, TI, TO, i1, i2], b < s.heap.objs.size := fun b hb => by
      obtain ⟨hz, hTI, ⟨a1, a2, hTO⟩, ⟨o1, e1, _, d1⟩, ⟨o2, e2, _, d2⟩⟩ := st
      rcases (show b = z ∨ b = TI ∨ b = TO ∨ b = i1 ∨ b = i2 by simpa using hb) with q | q | q | q | q
      · rw [q]; exact Heap.lt_size hz
      · rw [q]; exact Heap.lt_size hTI
      · rw [q]; exact Heap.lt_size hTO
      · rw [q]; exact Heap.lt_size e1
      · rw [q]; exact Heap.lt_size e2
    have hil : i < its.length := (List.getElem?_eq_some_iff.mp hu).1
    obtain ⟨s1, s2, s3, s4, s5⟩ := st
    have st' : IsZip s.heap z TI TO .none ∧ IsTupOf2 s.heap TI (.ref i1) (.ref i2) ∧ (∃ a1 a2, IsTupOf2 s.heap TO a1 a2) ∧ s.heap.IsStrIter i1 (strIterType x) x t i ∧ (s.heap.IsListIter i2 a i ∧ s.heap.IsList a its.toArray) := ⟨s1, s2, s3, s4, s5, p⟩
    refine wpAny_mono (G.goes i s (fun v s2 => ∃ w H', Inv X pins σ H' s2 ∧ RelV w v ∧ (ItzSL X.K x a).yld i H w H' ∧ (IsZip s2.heap z TI TO .none ∧ IsTupOf2 s2.heap TI (.ref i1) (.ref i2) ∧ (∃ a1 a2, IsTupOf2 s2.heap TO a1 a2) ∧ s2.heap.IsStrIter i1 (strIterType x) x t (i + 1) ∧ s2.heap.IsListIter i2 a (i + 1)) ∧ ∀ b ∈ [z, TI, TO, i1, i2], H' b = none) E (by simp; omega) st' fun v h' tk hY hst hk _ => ?_)
      (fun r s1 h1 => h1) fun _ _ q => q
    obtain ⟨T, v1, v2, rfl, hT, ⟨c, t1, hc1, rfl⟩, hv2, hTup⟩ := hY
    have ev : v2 = u := by
      have hv' : its[i]? = some v2 := by simpa using hv2
      rw [hu] at hv'
      exact (Option.some.inj hv').symm
    subst ev
    have new : ObjOk X.prog X.w (upd H T (.tup [.str ⟨#[c]⟩, y])) h' T (.tup [.str ⟨#[c]⟩, y]) :=
      ⟨by show 2 ≤ sizeLine; decide, [.str ⟨#[c]⟩ t1, v2], .cons ⟨t1, rfl⟩ (.cons ru .nil), hTup⟩
    have J := I.turnedNew (t' := tk) (ch := [z, TI, TO, i1, i2]) (fun b o hb q => hk b o (fun m => hb (by
      rcases (show b = z ∨ b = TO ∨ b = i1 ∨ b = i2 by simpa using m) with y | y | y | y <;> simp [y])) q) hf hT new
    refine ⟨.ref T, _, J, rfl, ⟨T, c, y, rfl, I.hok.fresh hT, rfl, hc1, fun zs hzs => by rw [I.list_inj hzs hqy]; exact hy⟩, ⟨hst.1, hst.2.1, hst.2.2.1, hst.2.2.2.1, hst.2.2.2.2.1⟩, fun b hb => ?_⟩
    rw [upd_ne (Nat.ne_of_lt (Nat.lt_of_lt_of_le (alive b hb) hT))]
    exact (hf b hb).1
  done := by
    intro X hP hw hK hc i pins s σ H E I hf st hg
    subst hP hw hK
    have hh : X.A.in1.handled = none := I.ok.hd hc
    obtain ⟨ys, hqy, hi⟩ := hg
    obtain ⟨its, rv, p0, _⟩ := I.list hqy
    have p := p0.isList
    have G := GoesN.zip2 (elts := elts) (x1 := kk) (pos := tpos) S (Draws.text (prog := X.prog) (w := X.w) (A := X.A.in1) hh i1 x t) (Draws.list (prog := X.prog) (w := X.w) (A := X.A.in1) hh i2 a hne its.toArray)
    have hi : i = min x.cps.size its.toArray.size := by
      have hl := rv.length
      have h2 : its.toArray.size = its.length := by simp
      rw [h2, ← hl]
      exact hi
    subst hi
    obtain ⟨s1, s2, s3, s4, s5⟩ := st
    exact G.stops s (fun s1 => Inv X pins σ H s1) E ⟨s1, s2, s3, s4, s5, p⟩ fun h' tk hk _ => I.turnedL (t' := tk) (ch := [z, TI, TO, i1, i2]) (fun b o hb q => hk b o (fun m => hb (by
      rcases (show b = z ∨ b = TO ∨ b = i1 ∨ b = i2 by simpa using m) with y | y | y | y <;> simp [y])) q) hf
  self := fun A i s Q E st h => wpAny_pyIter_zip st.1 h
def iZipSX (K : PySem.W.Frag) (ta : TA) : TI := fun σ H R => ta σ H fun vs H1 => ∃ x a ys, vs = [.str x, .ref a] ∧ ((SqT K H1 a ys ∧ R (ItzST K x a) H1) ∨ (SqL K H1 a ys ∧ R (ItzSL K x a) H1))
theorem pi_zipSX {X : Cx} {e e2 : Expr} {ta : TA} {p pos tpos : Pos} {elts : List Expr} {kk : Nat} (hg : Gl X "zip") (hm : X.mg "zip" = none) (ha : PA X [e, e2] ta)
    (hs : starEach [e, e2] X.env = (false, eval e X.env) :: starEach [e2] X.env := by rfl) (hpl : (backTo pos (starEach [e2] X.env)).any (·.1) = false := by rfl) :
    PI X (.Tuple elts kk tpos) (.Call (.Name "zip" p) [e, e2] [] pos) (iZipSX X.K ta) := ⟨fun pins s σ H R I h => by
  refine Call_ (ld_blt I hg hm PyProof.Rows.boot_zip (PyProof.Rows.callWith_type1 (thn (ha.run pos pins s σ H _ I h) fun us s1 w => ?_) hs hpl))
  obtain ⟨vs, H1, J, r, x, a, ys, rfl, q⟩ := w
  cases r with
  | cons r rr =>
    cases rr with
    | cons r' rr =>
      cases rr
      obtain ⟨t, rfl⟩ := r
      cases r'
      have fresh5 : ∀ b, b ∈ [s1.heap.objs.size + 4, s1.heap.objs.size + 2, s1.heap.objs.size + 3, s1.heap.objs.size, s1.heap.objs.size + 1] → FpOk X pins H1 b := fun b hb => by
        have le : s1.heap.objs.size ≤ b := by
          rcases (show b = s1.heap.objs.size + 4 ∨ b = s1.heap.objs.size + 2 ∨ b = s1.heap.objs.size + 3 ∨ b = s1.heap.objs.size ∨ b = s1.heap.objs.size + 1 by simpa using hb) with w | w | w | w | w
          · rw [w]; exact Nat.le_add_right _ _
          · rw [w]; exact Nat.le_add_right _ _
          · rw [w]; exact Nat.le_add_right _ _
          · rw [w]; exact Nat.le_refl _
          · rw [w]; exact Nat.le_add_right _ _
        exact J.fpOk le (J.hok.fresh le)
      rcases q with ⟨hq, q⟩ | ⟨hq, q⟩
      · obtain ⟨its, rv, p, _⟩ := J.tuple hq
        have hal : a < s1.heap.objs.size := by obtain ⟨o, e, _⟩ := p; exact Heap.lt_size e
        refine zip_begins2 (begins_text x t) (begins_tuple a its.toArray) trivial p fun h' hz hTI hTO h1 h2 hsz hk => wpAny_pyIter_zip hz ?_
        exact ⟨s1.heap.objs.size + 4, [s1.heap.objs.size + 4, s1.heap.objs.size + 2, s1.heap.objs.size + 3, s1.heap.objs.size, s1.heap.objs.size + 1], _, _, H1, rfl, J.kept (t' := s1.toks) hk,
          turn_zipST (x := x) (t := t) (zip_sep2 (fp1 := []) (fp2 := [a]) (by simp) (by simpa using hal)) (Nat.ne_of_lt (Nat.lt_succ_of_lt hal)), ⟨hz, hTI, ⟨_, _, hTO⟩, ⟨_, h1, rfl, rfl⟩, ⟨_, h2, rfl, rfl⟩⟩, fresh5, q⟩
      · obtain ⟨its, rv, p0, _⟩ := J.list hq
        have p := p0.isList
        have hal : a < s1.heap.objs.size := by obtain ⟨o, e, _⟩ := p; exact Heap.lt_size e
        refine zip_begins2 (begins_text x t) (begins_list a its.toArray) trivial p fun h' hz hTI hTO h1 h2 hsz hk => wpAny_pyIter_zip hz ?_
        exact ⟨s1.heap.objs.size + 4, [s1.heap.objs.size + 4, s1.heap.objs.size + 2, s1.heap.objs.size + 3, s1.heap.objs.size, s1.heap.objs.size + 1], _, _, H1, rfl, J.kept (t' := s1.toks) hk,
          turn_zipSL (x := x) (t := t) (zip_sep2 (fp1 := []) (fp2 := [a]) (by simp) (by simpa using hal)) (Nat.ne_of_lt (Nat.lt_succ_of_lt hal)), ⟨hz, hTI, ⟨_, _, hTO⟩, ⟨_, h1, rfl, rfl⟩, ⟨_, h2, rfl, rfl⟩⟩, fresh5, q⟩⟩
end DL

set_option maxHeartbeats 1000000
namespace DL
open PySem PySem.Spec PyProof.Rows L2
section
variable {X : Cx} {C : Cq} {W : WX} {o e a b c : Expr} {es : List Expr} {pos pos' apos cpos p : Pos} {F Fa Fb Fk Fv : EF} {G : AF} {st : Stmt}
theorem zip_get {x : Str} {ds : List D} {i : Nat} {c : Nat} {e : D} (hc : x.cps[i]? = some c) (he : ds[i]? = some e) : (zipOf (signsOf x) ds)[i]? = some (.tup [.str ⟨#[c]⟩, e]) := by
  unfold zipOf signsOf
  rw [List.getElem?_zipWith, List.getElem?_map, Array.getElem?_toList, hc, he]
  rfl
theorem zip_lenX {x : Str} {ds : List D} : (zipOf (signsOf x) ds).length = min x.cps.size ds.length := by simp [zipOf, signsOf]
theorem itST {K : PySem.W.Frag} {ba : Option Addr} {S : Hp} {x : Str} {l : Addr} {ys : List V} {ds : List D} (h : S l = some (.tup ys)) (r : DRs K ba S ys ds) : ItD K ba (ItzST K x l) (zipOf (signsOf x) ds) S := fun C hC i S' ρ b σ H e ok => by
  subst hC
  have hS : SqT K H l ys := seqT (e.trans ok.core.sub) h
  refine ⟨fun d hd => ?_, fun hl => ⟨ys, hS, by rw [r.length, ← zip_lenX]; exact hl.symm⟩⟩
  have hi : i < min x.cps.size ds.length := by rw [← zip_lenX]; exact (List.getElem?_eq_some_iff.mp hd).1
  have hds : ds[i]? = some ds[i] := List.getElem?_eq_getElem (by omega)
  obtain ⟨v, hv, rv⟩ := r.get hds
  refine ⟨⟨by omega, ys, v, hS, hv⟩, fun w H' wy => ?_⟩
  obtain ⟨T, k, y, rfl, hT, rfl, hk, hy⟩ := wy
  have hy := hy ys hS
  rw [hv] at hy
  cases hy
  rw [zip_get hk hds] at hd
  cases hd
  obtain ⟨p1, p2, p3⟩ := pair_of ok hT (.str ⟨#[k]⟩) (rv.up e)
  exact ⟨_, p1, p2, p3, keep_upd hT⟩
theorem itSL {K : PySem.W.Frag} {ba : Option Addr} {S : Hp} {x : Str} {l : Addr} {ys : List V} {ds : List D} (h : SqL K S l ys) (r : DRs K ba S ys ds) : ItD K ba (ItzSL K x l) (zipOf (signsOf x) ds) S := fun C hC i S' ρ b σ H e ok => by
  subst hC
  have hS : SqL K H l ys := (e.trans ok.core.sub).seq h
  refine ⟨fun d hd => ?_, fun hl => ⟨ys, hS, by rw [r.length, ← zip_lenX]; exact hl.symm⟩⟩
  have hi : i < min x.cps.size ds.length := by rw [← zip_lenX]; exact (List.getElem?_eq_some_iff.mp hd).1
  have hds : ds[i]? = some ds[i] := List.getElem?_eq_getElem (by omega)
  obtain ⟨v, hv, rv⟩ := r.get hds
  refine ⟨⟨by omega, ys, v, hS, hv⟩, fun w H' wy => ?_⟩
  obtain ⟨T, k, y, rfl, hT, rfl, hk, hy⟩ := wy
  have hy := hy ys hS
  rw [hv] at hy
  cases hy
  rw [zip_get hk hds] at hd
  cases hd
  obtain ⟨p1, p2, p3⟩ := pair_of ok hT (.str ⟨#[k]⟩) (rv.up e)
  exact ⟨_, p1, p2, p3, keep_upd hT⟩
theorem d_izipX {elts : List Expr} {kk : Nat} {p tpos : Pos} (hg : Gl X "zip") (hm : X.mg "zip" = none) (ha : PA X [a, b] (tDA X.K C W G)) (hs : starEach [a, b] X.env = (false, eval a X.env) :: starEach [b] X.env := by rfl) (hpl : (backTo pos (starEach [b] X.env)).any (·.1) = false := by rfl) :
    PI X (.Tuple elts kk tpos) (.Call (.Name "zip" p) [a, b] [] pos) (tDI X.K C W (aZipX G)) := pi_imp (pi_zipSX hg hm ha hs hpl) fun σ H R ⟨S, ρ, b, ok, q⟩ => by
  refine ⟨S, ρ, b, ok, q.bind.imp fun ds b1 S1 H1 s1 ok1 q1 vs r => ?_⟩
  split at q1
  · cases r with
    | cons r1 r2 =>
      cases r2 with
      | cons r2 r3 =>
        cases r3; cases r1
        cases r2 with
        | tup h1 h2 => exact ⟨_, _, _, rfl, .inl ⟨seqT ok1.core.sub h1, q1 S1 H1 (Same.refl _) ok1 _ (itST h1 h2)⟩⟩
  · cases r with
    | cons r1 r2 =>
      cases r2 with
      | cons r2 r3 =>
        cases r3; cases r1
        cases r2 with
        | lst h1 h2 => exact ⟨_, _, _, rfl, .inr ⟨SqL.of (ok1.core.sub _ _ h1), q1 S1 H1 (Same.refl _) ok1 _ (itSL (SqL.of h1) h2)⟩⟩
  · exact q1.elim
theorem d_done (hk : ∀ C, PE X a (tD X.K C W0 Fk)) (hv : ∀ C, PE X e (tD X.K C W0 Fv)) : PE X (.Dict [some a] [e] pos) (tDF X.K C W (eDone Fk Fv)) := pe_imp (pe_disp (pps_cons (d_in3 hk) (d_in3 hv) pps_nil) rfl rfl (by simp) (by show 1 ≤ 15; decide)) fun σ H Q ⟨S, ρ, b, ok, q⟩ => by
  intro p hp
  have of := ok.fresh (u := .dK []) hp
  unfold eDone at q
  cases hF : Fk (unown ρ) b with
  | stuck => rw [hF] at q; exact q.elim
  | ex c ns ds bx => rw [hF] at q; exact q.elim
  | ok k b1 =>
    rw [hF] at q
    dsimp only at q
    cases hV : Fv (unown ρ) b1 with
    | stuck => rw [hV] at q; exact q.elim
    | ex c ns ds bx => rw [hV] at q; exact q.elim
    | ok v b2 =>
      rw [hV] at q
      dsimp only at q
      cases hj : keyD k with
      | none => rw [hj] at q; exact q.elim
      | some j =>
        rw [hj] at q
        refine ⟨inner C S (upd H p (.dK [])), S, unown ρ, b, of.ok.inner, ?_⟩
        rw [hF]
        intro S2 H2 e2 ok2 y ry
        refine ⟨inner C S (upd H p (.dK [])), S2, unown ρ, b1, ok2, ?_⟩
        rw [hV]
        intro S3 H3 e3 ok3 w rw'
        have of3 := of.frame ok3.core (e2.trans e3)
        have := key_dr ry hj
        subst this
        refine ⟨of3.at_, [(j, w)], rfl, by show 1 ≤ 15; decide, ?_⟩
        have em : mergeK [] [(j, w)] = [(j, w)] := rfl
        rw [em]
        exact q S3 _ p _ (e2.trans e3) (of3.setU (u' := .dK [(j, w)])) (.dct rfl (.cons rw' .nil))
theorem inDOw_of {K : PySem.W.Frag} {neg : Bool} {i : Nat} {σ : L2.St} {H : Hp} {Q : VK} (h : tD K C W (eInDOw neg i F) σ H Q) : (tD K C W F) σ H fun y H1 => (tVar i) σ H1 fun x H2 => ∃ a o, x = .ref a ∧ DGet H2 a y o ∧ Q (.bl (if neg then !o.isSome else o.isSome)) H2 := by
  obtain ⟨S, ρ, b0, ok, q⟩ := h
  unfold eInDOw at q
  split at q
  · rename_i ks ds hr
    refine ⟨S, ρ, b0, ok, q.bind.imp fun d b1 S1 H1 s1 ok1 q1 v rv => ?_⟩
    split at q1
    · rename_i j hj
      obtain ⟨pp', u', e1', hp', r', _⟩ := ok1.getOw hr
      cases r' with
      | @dct kvs _ _ g1 g2 =>
        subst g1
        refine ⟨_, e1', pp', valV kvs j, rfl, ?_, ?_⟩
        · rw [key_dr rv hj]
          exact DGet.k hp'
        · rw [look_none g2]
          exact q1 S1 H1 (Same.refl _) ok1 _ (.bl _)
    · exact q1.elim
  · exact q.elim
theorem t_ninDOw {i : Nat} {x : Str} {px : Pos} (hu : X.A.units + 1 < cLine) (ha : PE X a (tD X.K C W F)) (hx : PE X (.Name x px) (tVar i)) : PT X (.Compare a [.NotIn] [.Name x px] pos) (tDt X.K C W (bB (eInDOw true i F))) :=
  pt_imp (pt_cmp (pc_dnotin hu ha hx)) fun _ _ _ h => inDOw_of (neg := true) (tTest_of h)
theorem d_aug {i : Nat} (h : PS X st (tAug i (tD X.K C W F) (ipI fun i j => i + j))) : PS X st (tDS X.K C W (sAug i F)) := ps_imp h fun E σ H ⟨S, ρ, b, ok, q⟩ => by
  unfold sAug at q
  split at q
  · rename_i k hr
    obtain ⟨v, hv, rv⟩ := ok.get hr
    cases rv
    refine ⟨_, hv, S, ρ, b, ok, q.st.imp fun d b1 S1 H1 s1 ok1 q1 w rw' => ?_⟩
    split at q1
    · cases rw'
      exact ⟨_, _, rfl, rfl, q1 S1 _ H1 (Same.refl _) (ok1.setSh (.int _))⟩
    · exact q1.elim
  · exact q.elim
theorem keys_dr {K : PySem.W.Frag} {ba : Option Addr} {S : Hp} : ∀ (kvs : List (Key × V)), DRs K ba S (kvs.map fun kv => kV kv.1) ((kvs.map (·.1)).map fun k => match k with | .inl i => .int i | .inr x => .str x)
  | [] => .nil
  | (k, v) :: kvs => by
    cases k with
    | inl i => exact .cons (.int i) (keys_dr kvs)
    | inr x => exact .cons (.str x) (keys_dr kvs)
theorem d_lstD (hc : X.calm = true) (hg : Gl X "list") (hm : X.mg "list" = none) (ha : PE X a (tD X.K C W F)) (he : starEach [a] X.env = (false, eval a X.env) :: starEach [] X.env := by rfl) (hpl : (backTo pos (starEach [] X.env)).any (·.1) = false := by rfl) :
    PE X (.Call (.Name "list" p) [a] [] pos) (tDF X.K C W (eLstD F)) := pe_imp (pe_callTy (call_listD hc) hg hm (by decide +kernel) (pa_cons ha pa_nil he) (by decide) (by decide) he hpl) fun σ H Q ⟨S, ρ, b, ok, q⟩ => by
  refine ⟨S, ρ, b, ok, ?_⟩
  unfold eLstD at q
  cases hF : F ρ b with
  | stuck => rw [hF] at q; exact q.elim
  | ex c ns ds bx => rw [hF] at q; exact q
  | ok d b1 =>
    rw [hF] at q
    intro S1 H1 e1 ok1 v r
    cases d with
    | dct ks ds =>
      have q : ∀ S' H' p u, Same S S' → OkF X.K C S' ρ b1 σ H' p u → ODR X.K C.ba S' u (.lst (ks.map fun k => match k with | .inl i => .int i | .inr x => .str x)) → Q (.ref p) H' := q
      cases r with
      | @dct l od kvs _ _ h1 g1 g2 =>
        subst g1
        exact ⟨_, kvs, rfl, .inr ⟨od, ok1.core.sub _ _ h1⟩, fun p hp => q S1 _ p _ e1 (ok1.fresh hp) (.lst (keys_dr kvs))⟩
    | _ => exact q.elim
end
end DL

set_option maxHeartbeats 1000000
namespace DL
open PySem PySem.Spec PyProof.Rows L2
theorem isN2_op {K : PySem.W.Frag} {C : Cq} : Op2 K C (fun x y H Q => y = .non ∧ Q (.bl (decide (x = .non))) H) isN2 := by
  intro S ρ b σ H v w d e z Q ok r1 r2 hz q
  unfold isN2 at hz
  split at hz
  · have := isN_dr r1 hz
    subst this
    cases r2
    exact ⟨rfl, q _ S H (Same.refl _) ok (.bl _)⟩
  · cases hz
theorem notN2_op {K : PySem.W.Frag} {C : Cq} : Op2 K C (fun x y H Q => y = .non ∧ Q (.bl (!decide (x = .non))) H) notN2 := by
  intro S ρ b σ H v w d e z Q ok r1 r2 hz q
  unfold notN2 at hz
  split at hz
  · split at hz
    · rename_i k hk
      have := isN_dr r1 hk
      cases hz
      cases this
      cases r2
      exact ⟨rfl, q _ S H (Same.refl _) ok (.bl _)⟩
    · cases hz
  · cases hz
@[simp] def ninF : D → D → Option D
  | .str x, .str z => match x.cps.toList with
    | [c] => some (.bl (!decide (c ∈ z.cps.toList)))
    | _ => none
  | _, _ => none
section
variable {X : Cx} {C : Cq} {W : WX} {a b : Expr} {pos : Pos} {Fa Fb : EF}
theorem d_isn (ha : PE X a (tD X.K C W Fa)) (hb : PE X b (tD X.K C W Fb)) : PE X (.Compare a [.Is] [b] pos) (tD X.K C W (e2 isN2 Fa Fb)) := d_cmp op_isN isN2_op ha hb (nomark _)
theorem t_isn (ha : PE X a (tD X.K C W Fa)) (hb : PE X b (tD X.K C W Fb)) : PT X (.Compare a [.Is] [b] pos) (tDt X.K C W (bB (e2 isN2 Fa Fb))) := d_tcmp op_isN isN2_op ha hb (nomark _)
theorem d_notn (ha : PE X a (tD X.K C W Fa)) (hb : PE X b (tD X.K C W Fb)) : PE X (.Compare a [.IsNot] [b] pos) (tD X.K C W (e2 notN2 Fa Fb)) := d_cmp op_notN notN2_op ha hb (nomark _)
end
def reprN : List D → Option D
  | [.non] => some (.str "None")
  | [.bl b] => some (.str (if b then "True" else "False"))
  | ds => reprF ds
def rReprN (K : PySem.W.Frag) : List V → Hp → VK → Prop := fun vs H Q => rRepr K vs H Q ∨ (vs = [.non] ∧ Q (.str "None") H) ∨ ∃ b : Bool, vs = [.bl b] ∧ Q (.str (if b then "True" else "False")) H
theorem cr_reprN {X : Cx} (hg : X.A.guards = some []) (hu : X.A.units + 64 < cLine) : CallR X (.builtin "repr") (rReprN X.K) := by
  intro pins s σ H xs us Q I r h
  rcases h with h | ⟨rfl, q⟩ | ⟨k, rfl, q⟩
  · exact cr_repr hg hu pins s σ H xs us Q I r h
  · cases r with
    | cons r1 r2 =>
      cases r2
      have e := r1
      cases e
      exact PySem.P.repr_of_none ⟨.str _, H, I.tok _, ⟨_, rfl⟩, q⟩
  · cases r with
    | cons r1 r2 =>
      cases r2
      have e := r1
      cases e
      exact PySem.P.repr_of_bool ⟨.str _, H, I.tok _, ⟨_, by cases k <;> rfl⟩, q⟩
theorem c_reprN {K : PySem.W.Frag} {C : Cq} : CallD K C (rReprN K) reprN := by
  intro S ρ b σ H vs ds z Q ok rs hz q
  unfold reprN at hz
  split at hz
  · cases hz
    cases rs with
    | cons r1 r2 => cases r2; cases r1; exact .inr (.inl ⟨rfl, q _ S H (Same.refl _) ok (.str _)⟩)
  · cases hz
    cases rs with
    | cons r1 r2 => cases r2; cases r1; exact .inr (.inr ⟨_, rfl, q _ S H (Same.refl _) ok (.str _)⟩)
  · exact .inl (c_repr S ρ b σ H vs ds z Q ok rs hz q)
section
variable {X : Cx} {C : Cq} {W : WX} {a : Expr} {pos : Pos} {G : AF}
theorem d_reprN {p : Pos} (hgd : X.A.guards = some []) (hu : X.A.units + 64 < cLine) (hg : Gl X "repr") (hm : X.mg "repr" = none) (ha : PA X [a] (tDA X.K C W G)) (he : starEach [a] X.env = (false, eval a X.env) :: starEach [] X.env := by rfl) (hpl : (backTo pos (starEach [] X.env)).any (·.1) = false := by rfl) :
    PE X (.Call (.Name "repr" p) [a] [] pos) (tD X.K C W (eB reprN G)) := d_callB (cr_reprN hgd hu) c_reprN hg hm (by decide +kernel) ha (by decide) (by decide) he hpl
end
end DL

set_option maxHeartbeats 1000000
namespace DL
open PySem PySem.Spec PyProof.Rows L2
@[simp] def putP : D → D → Option D
  | .dct ks ds, .tup [k, e] => match keyD k with
    | some j => some (putD ks ds j e)
    | none => none
  | _, _ => none
@[simp] def dictP : D → List D → Option D
  | acc, [] => some acc
  | acc, d :: ds => match putP acc d with
    | some a => dictP a ds
    | none => none
@[simp] def eDictP (F : EF) : EF := fun ρ b => (F ρ b).bind fun d b1 => match d with
  | .lst ds => (match dictP (.dct [] []) ds with
    | some z => .ok z b1
    | none => .stuck)
  | _ => .stuck
section
variable {X : Cx} {C : Cq} {W : WX} {a : Expr} {pos p : Pos} {F : EF}
/-- two lists one behind the other, as a fresh list -/
@[simp] def eCat (Fa Fb : EF) : EF := fun ρ b => (Fa ρ b).bind fun x b1 => (Fb ρ b1).bind fun y b2 => match x, y with
  | .lst xs, .lst ys => if xs.length + ys.length ≤ 100000 then .ok (.lst (xs ++ ys)) b2 else .stuck
  | _, _ => .stuck
theorem d_cat {b : Expr} {Fa Fb : EF} (ha : PE X a (tD X.K C W Fa)) (hb : PE X b (tD X.K C W Fb)) : PE X (.BinOp a .Add b pos) (tDF X.K C W (eCat Fa Fb)) := pe_imp (pe_op op_cat ha hb) fun σ H Q ⟨S, ρ, b0, ok, q⟩ => by
  refine ⟨S, ρ, b0, ok, ?_⟩
  unfold eCat at q
  cases hF : Fa ρ b0 with
  | stuck => rw [hF] at q; exact q.elim
  | ex c ns ds bx => rw [hF] at q; exact q
  | ok d b1 =>
    rw [hF] at q
    intro S1 H1 e1 ok1 v r
    refine ⟨S1, ρ, b1, ok1, ?_⟩
    simp only [bind_ok_] at q
    cases hG : Fb ρ b1 with
    | stuck => rw [hG] at q; exact q.elim
    | ex c ns ds bx => rw [hG] at q; exact fun dx S' H' b sm ok x => q dx S' H' b (fun x y z => sm x y (e1 x y z)) ok x
    | ok e b2 =>
      rw [hG] at q
      simp only [bind_ok_] at q
      intro S2 H2 e2 ok2 w r'
      cases d with
      | lst xs =>
        cases e with
        | lst ys =>
          by_cases hl : xs.length + ys.length ≤ 100000
          · have q : ∀ S' H' p u, Same S S' → OkF X.K C S' ρ b2 σ H' p u → ODR X.K C.ba S' u (.lst (xs ++ ys)) → Q (.ref p) H' := by
              simp only [hl, if_true] at q
              exact q
            cases r with
            | lst h1 h2 =>
              cases r' with
              | lst h3 h4 =>
                exact ⟨_, _, _, _, rfl, rfl, ok2.core.sub _ _ (e2 _ _ h1), ok2.core.sub _ _ h3, by rw [h2.length, h4.length]; exact big_le hl, fun p hp => q S2 _ p _ (fun x y z => e2 x y (e1 x y z)) (ok2.fresh hp) (.lst ((h2.up e2).app h4))⟩
          · simp only [hl, if_false] at q
            exact q.elim
        | _ => exact q.elim
      | _ => cases e <;> exact q.elim
/-- list(xs) of a sequence, list(x) of a text -/
theorem vals_signs : ∀ (cs : List Nat) (us : List Value), us.length = cs.length → (∀ (j : Nat) v, us[j]? = some v → ∃ c t, cs[j]? = some c ∧ v = .str ⟨#[c]⟩ t) → Vals (cs.map fun c => V.str ⟨#[c]⟩) us
  | [], [], _, _ => .nil
  | [], _ :: _, h, _ => by cases h
  | _ :: _, [], h, _ => by cases h
  | c :: cs, u :: us, h, g => by
    obtain ⟨c', t, h1, rfl⟩ := g 0 u rfl
    cases h1
    exact .cons ⟨t, rfl⟩ (vals_signs cs us (by simpa using h) fun j v hj => g (j + 1) v hj)
def kLstS (xs : List V) (H : Hp) (Q : VK) : Prop := ∃ x : Str, xs = [.str x] ∧ x.cps.size ≤ sizeLine ∧ ∀ q, H q = none → Q (.ref q) (upd H q (.lst (x.cps.toList.map fun c => V.str ⟨#[c]⟩)))
theorem call_listS {X : Cx} (hc : X.calm = true) : CallR X (.type "list") kLstS := by
  intro pins s σ H xs us Q I r h
  obtain ⟨x, rfl, hz, q⟩ := h
  obtain ⟨v, rfl, t, rfl⟩ := vals1 r
  refine call_list_str (I.ok.hd hc) x t (hn := hz) fun h' tk acc c' hk e hi => ?_
  refine ⟨.ref s.heap.objs.size, upd H s.heap.objs.size (.lst (x.cps.toList.map fun c => V.str ⟨#[c]⟩)), I.laid hk (Nat.le_refl _) ⟨by simpa using hz, acc.toList, c', ?_, by rw [Array.toArray_toList]; exact e⟩, rfl, q _ (I.hok.fresh (Nat.le_refl _))⟩
  refine vals_signs _ _ (by rw [Array.length_toList]; simpa using hi.1) fun j u hj => ?_
  obtain ⟨c, t', hc, rfl⟩ := hi.2 j u (by rw [← Array.getElem?_toList]; exact hj)
  exact ⟨c, t', by rw [Array.getElem?_toList]; exact hc, rfl⟩
@[simp] def listOf : D → Option (List D)
  | .str x => if x.length ≤ 100000 then some (signsOf x) else none
  | d => seqD d
@[simp] def eListS (F : EF) : EF := fun ρ b => (F ρ b).bind fun d b1 => match listOf d with
  | some ds => .ok (.lst ds) b1
  | none => .stuck
theorem drs_signs {K : PySem.W.Frag} {ba : Option Addr} {S : Hp} : ∀ cs : List Nat, DRs K ba S (cs.map fun c => V.str ⟨#[c]⟩) (cs.map fun c => D.str ⟨#[c]⟩)
  | [] => .nil
  | c :: cs => .cons (.str _) (drs_signs cs)
theorem d_listS (hc : X.calm = true) (hg : Gl X "list") (hm : X.mg "list" = none) (ha : PE X a (tD X.K C W F)) (he : starEach [a] X.env = (false, eval a X.env) :: starEach [] X.env := by rfl) (hpl : (backTo pos (starEach [] X.env)).any (·.1) = false := by rfl) :
    PE X (.Call (.Name "list" p) [a] [] pos) (tDF X.K C W (eListS F)) := pe_imp (pe_callTy (call_list_of.or (call_listS hc)) hg hm (by decide +kernel) (pa_cons ha pa_nil he) (by decide) (by decide) he hpl) fun σ H Q ⟨S, ρ, b, ok, q⟩ => by
  refine ⟨S, ρ, b, ok, ?_⟩
  unfold eListS at q
  cases hF : F ρ b with
  | stuck => rw [hF] at q; exact q.elim
  | ex c ns ds bx => rw [hF] at q; exact q
  | ok d b1 =>
    rw [hF] at q
    simp only [bind_ok_] at q
    intro S1 H1 e1 ok1 v r
    cases hs : listOf d with
    | none => rw [hs] at q; exact q.elim
    | some ds =>
      rw [hs] at q
      have q : ∀ S' H' p u, Same S S' → OkF X.K C S' ρ b1 σ H' p u → ODR X.K C.ba S' u (.lst ds) → Q (.ref p) H' := q
      cases d with
      | lst ys =>
        cases hs
        cases r with
        | lst h1 h2 => exact .inl ⟨_, _, rfl, .inl (.inl (.inl (ok1.core.sub _ _ h1))), fun p hp => q S1 _ p _ e1 (ok1.fresh hp) (.lst h2)⟩
      | tup ys =>
        cases hs
        cases r with
        | tup h1 h2 => exact .inl ⟨_, _, rfl, .inr (seqT ok1.core.sub h1), fun p hp => q S1 _ p _ e1 (ok1.fresh hp) (.lst h2)⟩
      | fl ys =>
        cases hs
        cases r with
        | fl h1 h2 => exact .inl ⟨_, _, rfl, .inl (ok1.core.sub.seq h1), fun p hp => q S1 _ p _ e1 (ok1.fresh hp) (.lst h2)⟩
      | str x =>
        by_cases hl : x.length ≤ 100000
        · have hs : some (signsOf x) = some ds := by
            rw [← hs]
            show _ = if x.length ≤ 100000 then some (signsOf x) else none
            rw [if_pos hl]
          cases hs
          cases r
          exact .inr ⟨x, rfl, big_le hl, fun p hp => q S1 _ p _ e1 (ok1.fresh hp) (.lst (drs_signs _))⟩
        · have hs : none = some ds := by
            rw [← hs]
            show _ = if x.length ≤ 100000 then some (signsOf x) else none
            rw [if_neg hl]
          cases hs
      | _ => cases hs
end
end DL

set_option maxHeartbeats 1000000
namespace DL
open PySem PySem.Spec PyProof.Rows L2 RZ
@[simp] def inA (d e : D) : Option D := match e with
  | .str z => inF d (.str z)
  | e => inQ d e
@[simp] def ninA (d e : D) : Option D := match e with
  | .str z => ninF d (.str z)
  | e => ninQ d e
section
variable {X : Cx} {C : Cq} {W : WX} {a b c e o : Expr} {pos p apos cpos : Pos} {Fa Fb Fc F Fo Fk Fd : EF} {G : AF} {st : Stmt}
theorem look_no {K : PySem.W.Frag} {ba : Option Addr} {S : Hp} : ∀ {kvs : List (Key × V)} {ds : List D} {j : Key}, DRs K ba S (kvs.map (·.2)) ds → lookK (kvs.map (·.1)) ds j = none → valV kvs j = none
  | [], _, _, _, _ => by simp [valV]
  | p :: kvs, [], _, r, _ => by cases r
  | p :: kvs, e :: ds, j, r, h => by
    cases r with
    | cons r1 r2 =>
      unfold lookK at h
      rw [List.map_cons] at h
      by_cases hk : p.1 = j
      · simp only [hk, if_true, reduceCtorEq] at h
      · simp only [hk, if_false] at h
        rw [valV_neg hk]
        exact look_no r2 h
theorem d_get2 (hu : X.A.units + 1 < cLine) (ho : PE X o (tD X.K C W Fo)) (ha : PE X a (tD X.K C W Fk)) (hb : PE X b (tD X.K C W Fd)) (m : M2 X o "get" apos a b cpos) : PE X (.Call (.Attribute o "get" apos) [a, b] [] cpos) (tD X.K C W (eGet Fo Fk Fd)) := pe_imp (pe_dget2 hu ho ha hb m) fun σ H Q ⟨S, ρ, b0, ok, q⟩ => by
  refine ⟨S, ρ, b0, ok, q.bind.imp fun d b1 S1 H1 s1 ok1 q1 v rv => ?_⟩
  split at q1
  · rename_i ks ds
    cases rv with
    | @dct l od kvs _ _ h1 g1 g2 =>
      subst g1
      refine ⟨_, rfl, .inl ⟨kvs, .inr ⟨od, ok1.core.sub _ _ h1⟩⟩, S1, ρ, b1, ok1, q1.bind.imp fun k b2 S2 H2 s2 ok2 q2 w rw' => ⟨S2, ρ, b2, ok2, q2.bind.imp fun z b3 S3 H3 s3 ok3 q3 y ry => ?_⟩⟩
      split at q3
      · rename_i j hj
        refine ⟨valV kvs j, .inl ⟨kvs, j, .inr ⟨od, ok3.core.sub _ _ (s3 _ _ (s2 _ _ h1))⟩, key_dr rw' hj, rfl⟩, ?_⟩
        cases hl : lookK (kvs.map (·.1)) ds j with
        | none =>
          rw [look_no g2 hl]
          rw [hl] at q3
          exact q3 S3 H3 (Same.refl _) ok3 y ry
        | some e =>
          obtain ⟨u, hv, ru⟩ := look_dr g2 hl
          rw [hv]
          rw [hl] at q3
          exact q3 S3 H3 (Same.refl _) ok3 u ((ru.up s2).up s3)
      · exact q3.elim
  · exact q1.elim
theorem unK_dr {K : PySem.W.Frag} {ba : Option Addr} {S : Hp} : ∀ k : Key, DR K ba S (kV k) (unK k)
  | .inl i => .int i
  | .inr x => .str x
theorem items_len {K : PySem.W.Frag} {ba : Option Addr} {S : Hp} {kvs : List (Key × V)} {ds : List D} (r : DRs K ba S (kvs.map (·.2)) ds) : (itemsD (kvs.map (·.1)) ds).length = kvs.length := by
  have := r.length
  simp [itemsD] at this ⊢
  omega
theorem itI {K : PySem.W.Frag} {ba : Option Addr} {S : Hp} {l : Addr} {od : Obj} {kvs : List (Key × V)} {ds : List D} (h : S l = some (.frz od (.dK kvs))) (r : DRs K ba S (kvs.map (·.2)) ds) : ItD K ba (Iti l od kvs) (itemsD (kvs.map (·.1)) ds) S := fun C hC i S' ρ b σ H e ok => by
  subst hC
  have hS : H l = some (.frz od (.dK kvs)) := ok.core.sub _ _ (e _ _ h)
  have hlen := items_len r
  refine ⟨fun d hd => ?_, fun hl => ⟨hS, by omega⟩⟩
  have hi : i < kvs.length := by
    have := (List.getElem?_eq_some_iff.mp hd).1
    omega
  refine ⟨⟨hS, hi⟩, fun w H' wy => ?_⟩
  obtain ⟨T, k, v, hk, rfl, hT, rfl⟩ := wy
  have hl2 := r.length
  rw [List.length_map] at hl2
  have hdi : ds[i]? = some ds[i] := List.getElem?_eq_getElem (by omega)
  obtain ⟨v', hv', rv⟩ := r.get hdi
  rw [List.getElem?_map, hk] at hv'
  cases hv'
  have hd2 : (itemsD (kvs.map (·.1)) ds)[i]? = some (.tup [unK k, ds[i]]) := by
    unfold itemsD
    rw [List.getElem?_zipWith, List.getElem?_map, hk, hdi]
    rfl
  rw [hd] at hd2
  cases hd2
  obtain ⟨p1, p2, p3⟩ := pair_of ok hT (unK_dr k) (rv.up e)
  exact ⟨_, p1, p2, p3, keep_upd hT⟩
theorem d_items {elts : List Expr} {kk : Nat} {tpos : Pos} (he : PE X e (tD X.K C W F)) (hbase : attributeBase e "items" X.env (eval e X.env) = eval e X.env := by rfl) (hline : (apos.endLine == cpos.line) = true := by rfl) :
    PI X (.Tuple elts kk tpos) (.Call (.Attribute e "items" apos) [] [] cpos) (tDI X.K C W (aItems F)) := pi_imp (pi_items he hbase hline) fun σ H R ⟨S, ρ, b, ok, q⟩ => by
  refine ⟨S, ρ, b, ok, q.bind.imp fun d b1 S1 H1 s1 ok1 q1 v r => ?_⟩
  split at q1
  · cases r with
    | @dct l od kvs _ _ h1 g1 g2 =>
      subst g1
      exact ⟨l, od, kvs, rfl, ok1.core.sub _ _ h1, q1 S1 H1 (Same.refl _) ok1 _ (itI h1 g2)⟩
  · exact q1.elim
def aZipL (G : AF) : AF := fun ρ b => (G ρ b).bind fun ds b' => match ds with
  | [.lst xs, .lst ys] => .ok (zipOf xs ys) b'
  | [.tup xs, .tup ys] => .ok (zipOf xs ys) b'
  | _ => .stuck
theorem zip_getL {xs ys : List D} {i : Nat} {d e : D} (hc : xs[i]? = some d) (he : ys[i]? = some e) : (zipOf xs ys)[i]? = some (.tup [d, e]) := by
  unfold zipOf
  rw [List.getElem?_zipWith, hc, he]
theorem zip_lenL {xs ys : List D} : (zipOf xs ys).length = min xs.length ys.length := by simp [zipOf]
theorem itZL {K : PySem.W.Frag} {ba : Option Addr} {S : Hp} {l m : Addr} {xs ys : List V} {ds es : List D} (h : SqL K S l xs) (h' : SqL K S m ys) (r : DRs K ba S xs ds) (r' : DRs K ba S ys es) : ItD K ba (Itz K l m) (zipOf ds es) S := fun C hC i S' ρ b σ H e ok => by
  subst hC
  have hS : SqL K H l xs := (e.trans ok.core.sub).seq h
  have hS' : SqL K H m ys := (e.trans ok.core.sub).seq h'
  refine ⟨fun d hd => ?_, fun hl => ⟨xs, ys, hS, hS', by rw [r.length, r'.length]; rw [zip_lenL] at hl; omega⟩⟩
  have hi : i < min ds.length es.length := by rw [← zip_lenL]; exact (List.getElem?_eq_some_iff.mp hd).1
  have h1 : ds[i]? = some ds[i] := List.getElem?_eq_getElem (by omega)
  have h2 : es[i]? = some es[i] := List.getElem?_eq_getElem (by omega)
  obtain ⟨v, hv, rv⟩ := r.get h1
  obtain ⟨v', hv', rv'⟩ := r'.get h2
  refine ⟨⟨xs, ys, v, v', hS, hS', hv, hv'⟩, fun w H' wy => ?_⟩
  obtain ⟨T, k, y, rfl, hT, rfl, hk, hy⟩ := wy
  have hk := hk xs hS
  have hy := hy ys hS'
  rw [hv] at hk
  rw [hv'] at hy
  cases hk
  cases hy
  rw [zip_getL h1 h2] at hd
  cases hd
  obtain ⟨p1, p2, p3⟩ := pair_of ok hT (rv.up e) (rv'.up e)
  exact ⟨_, p1, p2, p3, keep_upd hT⟩
theorem itZT {K : PySem.W.Frag} {ba : Option Addr} {S : Hp} {l m : Addr} {xs ys : List V} {ds es : List D} (h : S l = some (.tup xs)) (h' : S m = some (.tup ys)) (r : DRs K ba S xs ds) (r' : DRs K ba S ys es) : ItD K ba (ItzT K l m) (zipOf ds es) S := fun C hC i S' ρ b σ H e ok => by
  subst hC
  have hS : SqT K H l xs := seqT (e.trans ok.core.sub) h
  have hS' : SqT K H m ys := seqT (e.trans ok.core.sub) h'
  refine ⟨fun d hd => ?_, fun hl => ⟨xs, ys, hS, hS', by rw [r.length, r'.length]; rw [zip_lenL] at hl; omega⟩⟩
  have hi : i < min ds.length es.length := by rw [← zip_lenL]; exact (List.getElem?_eq_some_iff.mp hd).1
  have h1 : ds[i]? = some ds[i] := List.getElem?_eq_getElem (by omega)
  have h2 : es[i]? = some es[i] := List.getElem?_eq_getElem (by omega)
  obtain ⟨v, hv, rv⟩ := r.get h1
  obtain ⟨v', hv', rv'⟩ := r'.get h2
  refine ⟨⟨xs, ys, v, v', hS, hS', hv, hv'⟩, fun w H' wy => ?_⟩
  obtain ⟨T, k, y, rfl, hT, rfl, hk, hy⟩ := wy
  have hk := hk xs hS
  have hy := hy ys hS'
  rw [hv] at hk
  rw [hv'] at hy
  cases hk
  cases hy
  rw [zip_getL h1 h2] at hd
  cases hd
  obtain ⟨p1, p2, p3⟩ := pair_of ok hT (rv.up e) (rv'.up e)
  exact ⟨_, p1, p2, p3, keep_upd hT⟩
theorem d_izipL {elts : List Expr} {kk : Nat} {tpos : Pos} (hg : Gl X "zip") (hm : X.mg "zip" = none) (ha : PA X [a, b] (tDA X.K C W G)) (hs : starEach [a, b] X.env = (false, eval a X.env) :: starEach [b] X.env := by rfl) (hpl : (backTo pos (starEach [b] X.env)).any (·.1) = false := by rfl) :
    PI X (.Tuple elts kk tpos) (.Call (.Name "zip" p) [a, b] [] pos) (tDI X.K C W (aZipL G)) := pi_imp (pi_zipA hg hm ha hs hpl) fun σ H R ⟨S, ρ, b, ok, q⟩ => by
  refine ⟨S, ρ, b, ok, q.bind.imp fun ds b1 S1 H1 s1 ok1 q1 vs r => ?_⟩
  split at q1
  · cases r with
    | cons r1 r2 =>
      cases r2 with
      | cons r2 r3 =>
        cases r3
        cases r1 with
        | lst h1 h2 =>
          cases r2 with
          | lst h3 h4 => exact ⟨_, _, _, _, rfl, .inl ⟨SqL.of (ok1.core.sub _ _ h1), SqL.of (ok1.core.sub _ _ h3), q1 S1 H1 (Same.refl _) ok1 _ (itZL (SqL.of h1) (SqL.of h3) h2 h4)⟩⟩
  · cases r with
    | cons r1 r2 =>
      cases r2 with
      | cons r2 r3 =>
        cases r3
        cases r1 with
        | tup h1 h2 =>
          cases r2 with
          | tup h3 h4 => exact ⟨_, _, _, _, rfl, .inr ⟨seqT ok1.core.sub h1, seqT ok1.core.sub h3, q1 S1 H1 (Same.refl _) ok1 _ (itZT h1 h3 h2 h4)⟩⟩
  · exact q1.elim
theorem aZipA_cases (G : AF) (ρ : Env) (b : Bag) : aZipA G ρ b = aZipL G ρ b ∨ aZipA G ρ b = aZipS G ρ b ∨ aZipA G ρ b = aZipX G ρ b := by
  unfold aZipA aZipL aZipS aZipX
  cases G ρ b with
  | ok ds b' =>
    simp only [bind_ok_]
    split
    · exact .inl rfl
    · exact .inl rfl
    · exact .inr (.inl rfl)
    · exact .inr (.inr rfl)
    · exact .inr (.inr rfl)
    · rename_i h1 h2 h3 h4 h5
      refine .inl ?_
      split
      · exact absurd rfl (h1 _ _)
      · exact absurd rfl (h2 _ _)
      · rfl
  | ex c ns ds bx => exact .inl rfl
  | stuck => exact .inl rfl
theorem d_izip {elts : List Expr} {kk : Nat} {tpos : Pos} (hg : Gl X "zip") (hm : X.mg "zip" = none) (ha : PA X [a, b] (tDA X.K C W G)) (hs : starEach [a, b] X.env = (false, eval a X.env) :: starEach [b] X.env := by rfl) (hpl : (backTo pos (starEach [b] X.env)).any (·.1) = false := by rfl) :
    PI X (.Tuple elts kk tpos) (.Call (.Name "zip" p) [a, b] [] pos) (tDI X.K C W (aZipA G)) := ⟨fun pins s σ H R I ⟨S, ρ, b0, ok, q⟩ => by
  rcases aZipA_cases G ρ b0 with e | e | e
  · rw [e] at q; exact (d_izipL (W := W) (C := C) hg hm ha hs hpl).run pins s σ H R I ⟨S, ρ, b0, ok, q⟩
  · rw [e] at q; exact (d_izipS (W := W) (C := C) hg hm ha hs hpl).run pins s σ H R I ⟨S, ρ, b0, ok, q⟩
  · rw [e] at q; exact (d_izipX (W := W) (C := C) hg hm ha hs hpl).run pins s σ H R I ⟨S, ρ, b0, ok, q⟩⟩
end
end DL

set_option maxHeartbeats 1000000

set_option maxHeartbeats 1000000

set_option maxHeartbeats 1000000
namespace DL
open PySem PySem.Spec PyProof.Rows L2
theorem DRs.reverse {K : PySem.W.Frag} {ba : Option Addr} {S : Hp} : ∀ {vs : List V} {ds : List D}, DRs K ba S vs ds → DRs K ba S vs.reverse ds.reverse
  | _, [], h => by cases h; exact .nil
  | _, d :: ds, h => by
    cases h with
    | cons h1 h2 =>
      rw [List.reverse_cons, List.reverse_cons]
      exact (DRs.reverse h2).app (.cons h1 .nil)
def revF : D → Option D
  | .lst ds => some (.lst ds.reverse)
  | .fl ds => some (.lst ds.reverse)
  | .tup ds => some (.tup ds.reverse)
  | _ => none
section
variable {X : Cx} {C : Cq} {W : WX} {a b c e o : Expr} {es : List Expr} {pos p apos cpos pos' p2 : Pos} {Fa Fb Fc F Fo Fk Fv : EF} {G : AF} {st : Stmt}
@[simp] def e1o (f : D → Option D) (F : EF) : EF := fun ρ b => (F ρ b).bind fun d b' => Out.pureO (f d) b'
@[simp] def eTupRg (F : EF) : EF := fun ρ b => (F ρ b).bind fun d b1 => match d with
  | .int n => if 0 ≤ n ∧ n ≤ 100000 then .ok (.tup (rangeOf n)) b1 else .stuck
  | _ => .stuck
def rangeOf2 (i j : Int) : List D := (List.range (j - i).toNat).map fun (k : Nat) => D.int (i + (k : Int))
end
end DL

set_option maxHeartbeats 1000000
namespace DL
open PySem PySem.Spec PyProof.Rows L2
section
variable {X : Cx} {C : Cq} {W : WX} {st : Stmt} {Fi Fi1 : AF} {g g1 : TG} {f f1 : GF} {F : EF} {vs vs1 : List Nat}
/-- name = [.. for .. for ..] on one line -/
theorem d_setlc2 {i : Nat} (hT : CTg X.K g f vs) (hT1 : CTg X.K g1 f1 vs1) (h : PS X st (tAsg (tLc2 (tDI X.K C W Fi) g (tDtany X.K bYes) (tDIany X.K Fi1) g1 (tDtany X.K bYes) (tDany X.K F) vs vs1) (gName i))) : PS X st (tAsg (tDF X.K C W (eLc2 Fi vs f Fi1 vs1 f1 F)) (gName i)) := ps_imp h fun _ _ _ hh => lc2_of hT hT1 hh
end
end DL

set_option maxHeartbeats 1000000

set_option maxHeartbeats 1000000
namespace DL
open PySem PySem.Spec PyProof.Rows L2
section
variable {X : Cx} {C : Cq} {W : WX} {k : Nat} {A f : Addr} {fd : FuncData} {ps : List Str} {a b : Expr} {pos p : Pos} {Fa Fb : EF} {Fn : DFn}
@[simp] def eEqO (A : Addr) (Fn : DFn) (Fa Fb : EF) : EF := fun ρ b => (Fa ρ b).bind fun x b1 => (Fb ρ b1).bind fun y b2 => match x, y with
  | .ins A1 ns es, .ins A2 ns2 es2 => if A1 = A ∧ A2 = A then (match Fn [.ins A1 ns es, .ins A2 ns2 es2] b2 with
    | .ok (.bl t) b3 => .ok (.bl t) b3
    | _ => .stuck) else .stuck
  | _, _ => .stuck
end
end DL

set_option maxHeartbeats 4000000

set_option maxHeartbeats 1000000
namespace DL
open PySem PySem.Spec PyProof.Rows L2
open SrtO (lexT Swo Stb Srtd)
def insT (p : Str × Int) : List (Str × Int) → List (Str × Int)
  | [] => [p]
  | q :: l => if lexT q p = true then q :: insT p l else p :: q :: l
def srtT : List (Str × Int) → List (Str × Int)
  | [] => []
  | p :: l => insT p (srtT l)
def tupT (p : Str × Int) : D := .tup [.str p.1, .int p.2]
def keysT : List D → Option (List (Str × Int))
  | [] => some []
  | .tup [.str x, .int i] :: ds => (keysT ds).map ((x, i) :: ·)
  | _ => none
@[simp] theorem keysT_map : ∀ l : List (Str × Int), keysT (l.map tupT) = some l
  | [] => rfl
  | p :: l => by
    rw [List.map_cons]
    unfold tupT
    rw [keysT]
    have := keysT_map l
    unfold tupT at this
    rw [this]
    rfl
/-- sorted(xs) -/
@[simp] def eSrt (F : EF) : EF := fun ρ b => (F ρ b).bind fun d b1 => match d with
  | .lst ds => (match keysT ds with
    | some l => .ok (.lst ((srtT l).map tupT)) b1
    | none => .stuck)
  | _ => .stuck
end DL

set_option maxHeartbeats 1000000
namespace DL
open PySem PySem.Spec PyProof.Rows L2
section
variable {X : Cx} {C : Cq} {W : WX} {pos : Pos}
/-- a, b, .. = a tuple or a list -/
@[simp] def gTL (n : Nat) (gs : GsF) : GF := fun d ρ b => match d with
  | .tup ds => if ds.length = n then gs ds ρ b else none
  | .lst ds => if ds.length = n then gs ds ρ b else none
  | _ => none
end
end DL

set_option maxHeartbeats 2000000
namespace DL
open PySem PySem.Spec PyProof.Rows L2
section
variable {X : Cx} {C : Cq} {W : WX} {e a : Expr} {pos apos cpos p : Pos} {F : EF} {te : TE}
def tListVals (te : TE) : TE := fun σ H Q => te σ H fun x H1 => ∃ (d : Addr) (od : Obj) (kvs : List (Key × V)), x = .ref d ∧ H1 d = some (.frz od (.dK kvs)) ∧ ∀ q, H1 q = none → Q (.ref q) (upd H1 q (.lst (kvs.map (·.2))))
theorem pe_listVals (hc : X.calm = true) (he : PE X e te) (hg : Gl X "list") (hm : X.mg "list" = none) (hv : bootBuiltins "list" = some (.type "list")) (hbase : attributeBase e "values" X.env (eval e X.env) = eval e X.env := by rfl) (hline : (apos.endLine == cpos.line) = true := by rfl)
    (hs : starEach [.Call (.Attribute e "values" apos) [] [] cpos] X.env = (false, eval (.Call (.Attribute e "values" apos) [] [] cpos) X.env) :: starEach [] X.env := by rfl) :
    PE X (.Call (.Name "list" p) [.Call (.Attribute e "values" apos) [] [] cpos] [] pos) (tListVals te) := by
  refine ⟨fun pins s σ H Q I hq => ?_⟩
  refine wpAny_Call_Name_kw (ld_blt I hg hm hv ?_)
  refine PyProof.Rows.callWith_type1 ?_ hs rfl
  rw [hs]
  show wpAny _ _ (spliced ((false, eval (.Call (.Attribute e "values" apos) [] [] cpos) X.env) :: backTo pos (starEach [] X.env))) _ _ s
  refine Calls.spliced_cons ?_
  refine wpAny_Call_method (T := "dict") (id := "dict.values") hbase rfl hline F.plainAttrs_dict F.slot_dict_values F.type_dict_values (thn (he.run pins s σ H _ I hq) fun u s1 ⟨x, H1, I1, rx, d, od, kvs, ex, hd, q⟩ => ?_)
  subst ex
  obtain rfl : u = Value.ref d := rx
  obtain ⟨hs0, hgd, hx, es, ep, vs, hdt, hsz, kv, hat⟩ := I1.frzK hd
  have lk : kvs.length = vs.length := Paired.length kv
  have hz : kvs.length ≤ sizeLine := by
    obtain ⟨_, z, _⟩ := I1.hok d _ hd
    exact z
  have I2 : Inv X pins σ H1 { s1 with heap := s1.heap.push { cls := .type "dict_values", data := .fields #[.ref d] } } := I1.kept (t' := s1.toks) fun b ob q => Heap.get?_push_of_some _ q
  refine ⟨hat.dictOf.typeIs, hat.dictOf.mapOf.noDict, ?_⟩
  show wpAny _ _ (callWith cpos (.builtin "dict.values") [.ref d] [] []) _ X.xe s1
  refine method_meetsIn F.slot_dict_values F.entry_dict_values rfl (PySem.evalArgs_none ⟨rfl, hat.dictOf.typeIs, F.args_dict_values_1 _, _, meets_dict_values (mixKind X.prog X.w) d hs0, ⟨vs, hat.dictOf⟩, ?_⟩)
  refine Calls.spliced_nil ?_
  refine PySem.W.kdl_call (PySem.W.kdl_values (knd := mixKind X.prog X.w) (kvs := vs) (ep := ep)) (I1.ok.hd hc) ⟨⟨_, Heap.get?_push_size _ rfl, rfl, rfl⟩, hat.push _⟩ (by omega) fun h' tk acc c hk hS hacc => ?_
  refine ⟨.ref _, upd H1 _ (.lst (kvs.map (·.2))), I2.laid hk (Nat.le_refl _) (show ObjOk X.prog X.w _ _ _ (.lst (kvs.map (·.2))) from ⟨?_, acc.toList, c, ?_, ?_⟩), rfl, q _ (I2.hok.fresh (Nat.le_refl _))⟩
  · rw [List.length_map]; exact hz
  · have el : acc.toList.length = acc.size := by simp
    refine vals_of_at (by rw [List.length_map, el, hacc.1, lk]) fun j x w h1 h2 => ?_
    obtain ⟨k, hky⟩ := hacc.2 j w (by rw [← Array.getElem?_toList]; exact h2)
    rw [List.getElem?_map, Option.map_eq_some_iff] at h1
    obtain ⟨pq, h3, rfl⟩ := h1
    obtain ⟨y, h4, h5, h6⟩ := LiI.paired_get kv h3
    rw [hky] at h4
    cases h4
    exact h6
  · rw [Array.toArray_toList]; exact hS
theorem d_listV (hc : X.calm = true) (he : PE X e (tD X.K C W F)) (hg : Gl X "list") (hm : X.mg "list" = none) (hbase : attributeBase e "values" X.env (eval e X.env) = eval e X.env := by rfl) (hline : (apos.endLine == cpos.line) = true := by rfl)
    (hs : starEach [.Call (.Attribute e "values" apos) [] [] cpos] X.env = (false, eval (.Call (.Attribute e "values" apos) [] [] cpos) X.env) :: starEach [] X.env := by rfl) :
    PE X (.Call (.Name "list" p) [.Call (.Attribute e "values" apos) [] [] cpos] [] pos) (tDF X.K C W (eVals F)) := pe_imp (pe_listVals hc he hg hm (by decide +kernel) hbase hline hs) fun σ H Q ⟨S, ρ, b, ok, q⟩ => by
  refine ⟨S, ρ, b, ok, ?_⟩
  unfold eVals at q
  cases hF : F ρ b with
  | stuck => rw [hF] at q; exact q.elim
  | ex c ns ds bx => rw [hF] at q; exact q
  | ok d b1 =>
    rw [hF] at q
    intro S1 H1 e1 ok1 v r
    cases d with
    | dct ks ds =>
      have q : ∀ S' H' p u, Same S S' → OkF X.K C S' ρ b1 σ H' p u → ODR X.K C.ba S' u (.lst ds) → Q (.ref p) H' := q
      cases r with
      | @dct l od kvs _ _ h1 g1 g2 =>
        exact ⟨_, od, kvs, rfl, ok1.core.sub _ _ h1, fun p hp => q S1 _ p _ e1 (ok1.fresh hp) (.lst g2)⟩
    | _ => exact q.elim
end
section
variable {X : Cx} {C : Cq} {W : WX} {e : Expr} {Fi : AF} {vs : List Nat} {g : TG} {f : GF} {T : BF} {Fk Fv : EF}
theorem dcD_noex : ∀ {ds : List D} {ρ : Env} {acc : D} {b : Bag} {c : Str} {ns : List Str} {es : List D} {bx : Bag}, dcD f T Fk Fv ds ρ acc b ≠ .ex c ns es bx
  | [], _, _, _, _, _, _, _, h => by cases h
  | d :: ds, ρ, acc, b, c, ns, es, bx, h => by
    unfold dcD at h
    split at h
    · cases h
    · rename_i z _
      cases hT : T z.1 z.2 with
      | ex _ _ _ => rw [hT] at h; cases h
      | stuck => rw [hT] at h; cases h
      | ok k b1 =>
        rw [hT] at h
        have h : (if k = true then ((Fk z.1 b1).noex).bind fun y b2 => ((Fv z.1 b2).noex).bind fun w b3 => (match acc, keyD y with
          | .dct ks vs, some j => dcD f T Fk Fv ds ρ (putD ks vs j w) b3
          | _, _ => .stuck) else dcD f T Fk Fv ds ρ acc b1) = Out.ex c ns es bx := h
        cases k with
        | false => rw [if_neg Bool.false_ne_true] at h; exact dcD_noex h
        | true =>
          rw [if_pos rfl] at h
          cases hF : Fk z.1 b1 with
          | ex _ _ _ => rw [hF] at h; cases h
          | stuck => rw [hF] at h; cases h
          | ok y b2 =>
            rw [hF] at h
            have h : (((Fv z.1 b2).noex).bind fun w b3 => (match acc, keyD y with
              | .dct ks vs, some j => dcD f T Fk Fv ds ρ (putD ks vs j w) b3
              | _, _ => .stuck)) = Out.ex c ns es bx := h
            cases hV : Fv z.1 b2 with
            | ex _ _ _ => rw [hV] at h; cases h
            | stuck => rw [hV] at h; cases h
            | ok w b3 =>
              rw [hV] at h
              have h : (match acc, keyD y with
                | .dct ks vs, some j => dcD f T Fk Fv ds ρ (putD ks vs j w) b3
                | _, _ => .stuck) = Out.ex c ns es bx := h
              split at h
              · exact dcD_noex h
              · cases h
theorem dc_of (hT : CTg X.K g f vs) {σ : L2.St} {H : Hp} {Q : VK} (hh : tDF X.K C W (eDc Fi vs f T Fk Fv) σ H Q) : tDc (tDI X.K C W Fi) g (tDtany X.K T) (tDany X.K Fk) (tDany X.K Fv) vs σ H Q := by
  obtain ⟨S, ρ, b, ok, q⟩ := hh
  refine ⟨S, ρ, b, ok, ?_⟩
  unfold eDc at q
  cases hF : Fi ρ b with
  | stuck => rw [hF] at q; exact q.elim
  | ex c ns ds bx => rw [hF] at q; exact q
  | ok ds b1 =>
    rw [hF] at q
    have q : OutF X.K C W S ρ σ Q (if ds.length ≤ 100000 then dcD f T Fk Fv ds (wipeE (unown ρ) vs) (.dct [] []) b1 else .stuck) := q
    by_cases hl : ds.length ≤ 100000
    · rw [if_pos hl] at q
      intro S1 H1 e1 ok1 J hJ Dd hD
      cases hL : dcD f T Fk Fv ds (wipeE (unown ρ) vs) (.dct [] []) b1 with
      | stuck => rw [hL] at q; exact q.elim
      | ex c ns es bx => exact absurd hL dcD_noex
      | ok fin b2 =>
        rw [hL] at q
        have q : ∀ S' H' p u, Same S S' → OkF X.K C S' ρ b2 σ H' p u → ODR X.K C.ba S' u fin → Q (.ref p) H' := q
        refine ⟨fun i m H => m = ds.length - i ∧ i ≤ ds.length ∧ ∃ S' b kvs acc, Same S1 S' ∧ OkF X.K C S' ρ b σ H Dd (.dK kvs) ∧ ODR X.K C.ba S' (.dK kvs) acc ∧ kvs.length ≤ i ∧ dcD f T Fk Fv (ds.drop i) (wipeE (unown ρ) vs) acc b = .ok fin b2,
          ⟨ds.length, by simp, Nat.zero_le _, S1, b1, [], .dct [] [], Same.refl _, ok1.fresh hD, .dct rfl .nil, Nat.zero_le _, by simpa using hL⟩, ?_⟩
        rintro i m H ⟨rfl, hi, S', b', kvs, acc, e', of, rx, hxl, hr⟩
        by_cases hlt : i < ds.length
        · have hd : ds[i]? = some ds[i] := List.getElem?_eq_getElem hlt
          have oks := of.ok
          obtain ⟨go, yl⟩ := (hJ C rfl i S' ρ b' σ H e' oks).1 _ hd
          rw [List.drop_eq_getElem_cons hlt] at hr
          unfold dcD at hr
          refine .inr ⟨go, fun H => i + 1 ≤ ds.length ∧ ∃ S' b kvs acc, Same S1 S' ∧ OkF X.K C S' ρ b σ H Dd (.dK kvs) ∧ ODR X.K C.ba S' (.dK kvs) acc ∧ kvs.length ≤ i + 1 ∧ dcD f T Fk Fv (ds.drop (i + 1)) (wipeE (unown ρ) vs) acc b = .ok fin b2,
            fun H' n => ⟨ds.length - (i + 1), by omega, rfl, n.1, n.2⟩, fun x H' y => ?_⟩
          have oki := (oks.inner).wipe vs
          have okw : OkS X.K (inner C S' H) S' (wipeE (unown ρ) vs) b' (wipe σ vs) H := oki
          obtain ⟨_, yl2⟩ := (hJ (inner C S' H) rfl i S' _ b' _ H e' okw).1 _ hd
          obtain ⟨S2, e2, ok2, r2, k2⟩ := yl2 x H' y
          split at hr
          · cases hr
          · rename_i z hg
            refine hT (inner C S' H) S2 _ b' _ H' x _ z.1 z.2 _ ok2 r2 hg fun σ2 hw ok3 => ⟨by rw [hw]; exact wipe_idem, ?_⟩
            obtain ⟨k, b3, hk, hr⟩ := bind_ok hr
            refine ⟨inner C S' H, S2, z.1, z.2, ok3, noex_out hk fun S4 H4 e4 ok4 => ?_⟩
            cases k with
            | false =>
              rw [if_neg Bool.false_ne_true] at hr ⊢
              have o3 := of.frame ok4.core (e2.trans e4)
              exact ⟨hlt, S4, b3, kvs, acc, (e'.trans e2).trans e4, o3, rx.up (e2.trans e4), by omega, hr⟩
            | true =>
              rw [if_pos rfl] at hr ⊢
              obtain ⟨y0, b5, hy, hrA⟩ := bind_ok hr
              clear hr
              obtain ⟨w0, b6, hw0, hr⟩ := bind_ok hrA
              clear hrA
              refine ⟨inner C S' H, S4, z.1, b3, ok4, noex_out hy fun S5 H5 e5 ok5 v5 r5 => ?_⟩
              refine ⟨inner C S' H, S5, z.1, b5, ok5, noex_out hw0 fun S6 H6 e6 ok6 v6 r6 => ?_⟩
              have e26 : Same S' S6 := ((e2.trans e4).trans e5).trans e6
              have o6 := of.frame ok6.core e26
              cases rx with
              | @dct _ ks vs2 g1 g2 =>
                cases hj : keyD y0 with
                | none =>
                  have hr : (match D.dct ks vs2, keyD y0 with
                    | .dct ks vs3, some j => dcD f T Fk Fv (ds.drop (i + 1)) (wipeE (unown ρ) vs) (putD ks vs3 j w0) b6
                    | _, _ => .stuck) = Out.ok fin b2 := hr
                  rw [hj] at hr
                  cases hr
                | some j =>
                  simp only [hj] at hr
                  subst g1
                  have ey := key_dr r5 hj
                  refine ⟨kvs, j, ey, o6.at_, small_lt (by omega), hlt, S6, b6, putK kvs j v6, _, e'.trans e26, o6.setU, put_dr (g2.up e26) r6, ?_, hr⟩
                  have := length_putK kvs j v6
                  omega
        · have e : i = ds.length := by omega
          subst e
          rw [List.drop_length] at hr
          cases hr
          exact .inl ⟨(hJ C rfl _ S' ρ _ σ H e' of.ok).2 rfl, q S' H Dd _ (e1.trans e') of rx⟩
    · rw [if_neg hl] at q
      exact q.elim
/-- name = {..} on one line, the name a local -/
theorem ps_setDc {i : Nat} {y : Str} {py : Pos} {kx vx tg iter : Expr} {ifs : List Expr} {scope : Scope} {own : List (Str × Nat)} {pos spos : Pos} {wi : TI} {g : TG} {tt : TT} {tk tv : TE} (hc : X.calm = true) (hN : X.N.Nodup) (hy : X.N[i]? = some y) (hyl : X.env.scope.names.lookup y = some .local)
    (hsw : swapsWith (.DictComp kx vx [⟨tg, iter, ifs, 0⟩] scope pos) (some (.Name y py)) spos.line X.env = pure true) (hi : PI X tg iter wi) (ok : BlkOk X.N X.env.scope scope own)
    (hg : ∀ (s : Shared) (H : Hp) (C : Addr) (cl : List (Str × Addr)) (fp : List Addr), PG (X.blk s H scope (compEnvC scope cl C X.env) fp) tg g) (ht : ∀ (s : Shared) (H : Hp) (C : Addr) (cl : List (Str × Addr)) (fp : List Addr), PTs (X.blk s H scope (compEnvC scope cl C X.env) fp) ifs tt)
    (hk : ∀ (s : Shared) (H : Hp) (C : Addr) (cl : List (Str × Addr)) (fp : List Addr), PE (X.blk s H scope (compEnvC scope cl C X.env) fp) kx tk)
    (he : ∀ (s : Shared) (H : Hp) (C : Addr) (cl : List (Str × Addr)) (fp : List Addr), PE (X.blk s H scope (compEnvC scope cl C X.env) fp) vx tv) (hs : ∀ x, foldedSetIterable iter X.env x = pure x := by intro _; rfl) :
    PS X (.Assign [.Name y py] (.DictComp kx vx [⟨tg, iter, ifs, 0⟩] scope pos) spos) (tAsg (tDc wi g tt tk tv (own.map (·.2))) (gName i)) := by
  refine ⟨fun pins s σ H D I h => ?_⟩
  rw [exec_Assign_Name_used _ _ _ _ hsw]
  refine wpAny_bind (wpAny_standAt (wpAny_bind ?_))
  show wpAny _ X.A (do let _ ← comprehension (.DictComp kx vx [⟨tg, iter, ifs, 0⟩] scope pos) scope X.env (firstIterPos [⟨tg, iter, ifs, 0⟩] pos) newDict false (eval iter X.env) (some (assign (.Name y py) X.env))) _ _ s
  have h : tDc wi g tt tk tv (own.map (·.2)) σ H (fun x H1 => gName i x σ H1 D.nx) := h
  refine wpAny_bind (thn (dc_core (Qf := fun _ s' => SP X pins D .next s') hc hN I hi ok hg ht hk he hs h fun L C s' m H' I' q hn f => ?_) fun _ s' hq => wpAny_pure (wpAny_pure hq))
  show wpAny _ _ (assign (.Name y py) X.env (.ref L)) _ _ _
  refine wpAny_assign_Name (store_ok2 (v := V.ref L) I' hN hy (.inl hyl) rfl (fun s2 I2 ⟨a, sb, ha⟩ => ?_) (.inr hyl))
  obtain ⟨f0, f1, f2, f3, f4, f5⟩ := f
  have haC : C ≠ a := by
    rcases ha with z | z
    · rw [z]; exact f1
    · exact fun e => f4 y a z e.symm
  refine ⟨m, hn.sameBut sb haC, fun h3 sb3 => ?_⟩
  exact ⟨_, H', I2.turned (t' := s2.toks) (fun b o hb e => (sb3.2 b hb).trans e) f0 f1 f3 f4 f5, q⟩
theorem sw_trueD {kx vx : Expr} {gs : List Comprehension} {scope : Scope} {pos py : Pos} {y : Str} {l : Nat} {env : PySem.Env} (hk : env.scope.kind = .function) (hy : env.scope.names.lookup y = some .local) (hl : (py.line == pos.line) = true)
    (ha : (scope.names.any fun (n, k) => n == y && (k == .local || k == .cell)) = false) : swapsWith (.DictComp kx vx gs scope pos) (some (.Name y py)) l env = pure true := by
  have ky : env.kindOf y = some .local := hy
  have hb : env.blockKind = .function := by unfold Env.blockKind; rw [hk]; rfl
  unfold swapsWith
  simp only [hb, ky, ha, Expr.pos, hl]
  rfl
theorem d_setdc {st : Stmt} {i : Nat} (hT : CTg X.K g f vs) (h : PS X st (tAsg (tDc (tDI X.K C W Fi) g (tDtany X.K T) (tDany X.K Fk) (tDany X.K Fv) vs) (gName i))) : PS X st (tAsg (tDF X.K C W (eDc Fi vs f T Fk Fv)) (gName i)) := ps_imp h fun _ _ _ hh => dc_of hT hh
end
/-- a def that is stuck is promised anything -/
theorem fng_stuck {P : Program} {w : World} {K : PySem.W.Frag} {mg : Str → Option Value} {base : Heap} {Gd : Around → Prop} {k : Nat} {f : Addr} {fd : FuncData} {ps : List Str} : FnG P w K mg base Gd k f fd ps (spD K fun _ _ => .stuck) := by
  refine ⟨fun vs H Q E h => ?_, fun A fr s H ar us vs Q E _ _ _ _ _ h => ?_⟩
  · obtain ⟨S, ba, b, ds, c, r, o⟩ := h
    exact o.elim
  · obtain ⟨S, ba, b, ds, c, r, o⟩ := h
    exact o.elim
end DL

set_option maxHeartbeats 1000000
namespace DL
open PySem PySem.Spec PyProof.Rows L2
section
variable {X : Cx} {C : Cq} {W : WX} {k : Nat} {A f : Addr} {fd : FuncData} {ps : List Str} {a b : Expr} {pos p : Pos} {Fa Fb : EF} {Fn : DFn}
@[simp] def eNeO (A : Addr) (Fn : DFn) (Fa Fb : EF) : EF := fun ρ b => (Fa ρ b).bind fun x b1 => (Fb ρ b1).bind fun y b2 => match x, y with
  | .ins A1 ns es, .ins A2 ns2 es2 => if A1 = A ∧ A2 = A then (match Fn [.ins A1 ns es, .ins A2 ns2 es2] b2 with
    | .ok (.bl t) b3 => .ok (.bl (!t)) b3
    | _ => .stuck) else .stuck
  | _, _ => .stuck
end
end DL

set_option maxHeartbeats 1000000
namespace DL
open PySem PySem.Spec PyProof.Rows L2
section
variable {X : Cx} {C : Cq} {W : WX} {pos : Pos}
/-- a, b, .. = a text -/
@[simp] def gTX (n : Nat) (gs : GsF) : GF := fun d ρ b => match d with
  | .str x => if x.length = n then gs (signsOf x) ρ b else none
  | _ => none
end
end DL

set_option maxHeartbeats 1000000
namespace DL
open PySem PySem.Spec PyProof.Rows L2
def keysD : List D → Option (List Key)
  | [] => some []
  | d :: ds => match keyD d, keysD ds with
    | some k, some ks => some (k :: ks)
    | _, _ => none
def keyT : D → Option (List Key)
  | .tup ds => keysD ds
  | _ => none
def lookT : List (List Key) → List D → List Key → Option D
  | k :: ks, d :: ds, j => if k = j then some d else lookT ks ds j
  | _, _, _ => none
def setT : List (List Key) → List D → List Key → D → List D
  | k :: ks, d :: ds, j, e => (if k = j then e else d) :: setT ks ds j e
  | _, ds, _, _ => ds
def putT (ks : List (List Key)) (ds : List D) (j : List Key) (e : D) : D := if ks.any (fun k => decide (k = j)) then .dtp ks (setT ks ds j e) else .dtp (ks ++ [j]) (ds ++ [e])
def unKs (k : List Key) : D := .tup (k.map unK)
section
variable {X : Cx} {C : Cq} {W : WX} {o e a b : Expr} {es : List Expr} {pos pos' apos cpos p : Pos} {F Fa Fb Fk Fv : EF} {G : AF} {st : Stmt}
/-- {} -/
@[simp] def eDnewT : EF := fun _ b => .ok (.dtp [] []) b
/-- x[k] = v, x owned -/
@[simp] def sDputT (i : Nat) (Fk Fv : EF) : SF := fun ρ b => match ρ[i]? with
  | some (some (.ow (.dtp ks ds))) => (Fv ρ b).st ρ fun d b1 => (Fk ρ b1).st ρ fun k b2 => match keyT k with
    | some j => if ks.length ≤ 100000 then .nx (ρ.set i (some (.ow (putT ks ds j d)))) b2 else .stuck
    | none => .stuck
  | _ => .stuck
/-- x[k], x owned -/
@[simp] def eDgTOw (i : Nat) (F : EF) : EF := fun ρ b => match ρ[i]? with
  | some (some (.ow (.dtp ks ds))) => (F ρ b).bind fun k b1 => match keyT k with
    | some j => Out.pureO (lookT ks ds j) b1
    | none => .stuck
  | _ => .stuck
/-- d[k] -/
@[simp] def eDgT (Fo F : EF) : EF := fun ρ b => (Fo ρ b).bind fun d b1 => match d with
  | .dtp ks ds => (F ρ b1).bind fun k b2 => match keyT k with
    | some j => Out.pureO (lookT ks ds j) b2
    | none => .stuck
  | _ => .stuck
end
section
variable {X : Cx} {C : Cq} {W : WX} {o e a b : Expr} {pos p : Pos} {F : EF}
@[simp] def eLstT (F : EF) : EF := fun ρ b => (F ρ b).bind fun d b1 => match d with
  | .dtp ks _ => .ok (.lst (ks.map unKs)) b1
  | _ => .stuck
/-- x owned -/
@[simp] def eLstTOw (i : Nat) : EF := fun ρ b => match ρ[i]? with
  | some (some (.ow (.dtp ks _))) => .ok (.lst (ks.map unKs)) b
  | _ => .stuck
end
end DL

set_option maxHeartbeats 1000000
namespace DL
open PySem PySem.Spec PyProof.Rows L2
section
variable {X : Cx} {C : Cq} {W : WX} {k : Nat} {A f : Addr} {fd : FuncData} {ps : List Str} {a e : Expr} {es : List Expr} {pos p apos : Pos} {F Fa Fb : EF} {G : AF} {Fn : DFn}
/-- str(e), e an object of the class A whose __str__ is Fn -/
@[simp] def eStrO (A : Addr) (Fn : DFn) (G : AF) : EF := fun ρ b => (G ρ b).bind fun ds b1 => match ds with
  | [.ins A' ns es] => if A' = A then (match Fn [.ins A' ns es] b1 with
    | .ok (.str x) b2 => .ok (.str x) b2
    | _ => .stuck) else .stuck
  | _ => .stuck
/-- str(e), e an int or a text -/
@[simp] def strF : List D → Option D
  | [.int i] => if i.natAbs.log2 < 1920 then some (.str (toString i)) else none
  | [.str x] => some (.str x)
  | _ => none
theorem d_intT (hg : Gl X "int") (hm : X.mg "int" = none) (ha : PA X [a] (tDA X.K C W G)) (he : starEach [a] X.env = (false, eval a X.env) :: starEach [] X.env := by rfl) (hpl : (backTo pos (starEach [] X.env)).any (·.1) = false := by rfl) :
    PE X (.Call (.Name "int" p) [a] [] pos) (tD X.K C W (eB intTF G)) := pe_imp (pe_callTy call_int_str hg hm (by decide +kernel) ha (by decide) (by decide) he hpl) fun σ H Q ⟨S, ρ, b, ok, q⟩ => by
  refine ⟨S, ρ, b, ok, q.bind.imp fun ds b1 S1 H1 s1 ok1 q1 vs r => ?_⟩
  obtain ⟨z, hz, q2⟩ := q1.pureO
  unfold intTF at hz
  split at hz
  · rename_i x
    split at hz
    · rename_i hl
      rw [Option.map_eq_some_iff] at hz
      obtain ⟨n, hn, rfl⟩ := hz
      cases r with
      | cons r1 r2 =>
        cases r2; cases r1
        exact ⟨x, n, rfl, hn, hl, q2 S1 H1 (Same.refl _) ok1 _ (.int n)⟩
    · cases hz
  · cases hz
theorem strs_dr {K : PySem.W.Frag} {ba : Option Addr} {S : Hp} : ∀ xs : List Str, DRs K ba S (xs.map V.str) (xs.map D.str)
  | [] => .nil
  | x :: xs => .cons (.str x) (strs_dr xs)
theorem m_split {K : PySem.W.Frag} : MtD K C (fun x xs H Q => ∃ a b, x = .str a ∧ xs = [.str b] ∧ (b.length == 0) = false ∧ a.length + 2 ≤ sizeLine ∧ rNewStrs (Txt.split a b) H Q) splitF := by
  intro S ρ b σ H x vs ds z Q ok r hz q
  unfold splitF at hz
  split at hz
  · rename_i y
    split at hz
    · rename_i hl
      cases hz
      cases r with
      | cons r1 r2 =>
        cases r2; cases r1
        refine ⟨x, y, rfl, rfl, hl.1, by rw [sizeLine_eq]; omega, fun p hp => ?_⟩
        exact q _ _ _ (ok.same hp) (ok.alloc hp) (.lst upd_same (strs_dr _))
    · cases hz
  · cases hz
/-- f"{..}{..}" of two texts or ints -/
@[simp] def fmtD : D → Option Str
  | .str x => if x.length ≤ 100000 then some x else none
  | .int i => if i.natAbs.log2 < 1920 then some (toString i) else none
  | _ => none
def eJ2 (Fa Fb : EF) : EF := fun ρ b => (Fa ρ b).bind fun d b1 => match d with
  | .str x => if x.length ≤ 100000 then (Fb ρ b1).bind fun z b2 => (match fmtD z with
    | some y => if (x ++ y).length ≤ 200000 then .ok (.str (x ++ y)) b2 else .stuck
    | none => .stuck) else .stuck
  | _ => .stuck
end
section
variable {X : Cx} {C : Cq} {W : WX} {E : XK} {k i : Nat} {A f : Addr} {fd : FuncData} {ps : List Str} {e : Expr} {es : List Expr} {pos p : Pos} {G : AF} {x : Str}
theorem d_makeL {Fx : Addr → List D → Bag → IO} {Fm : List D → Bag → IO} (M : Mk X.K A f) (FO : FnOk X.prog X.w X.K X.mg X.base (L2.CX X.prog X.w) k f fd ps (spI X.K A Fx)) (hF : ∀ y ds b, Fm ds b = .stuck ∨ Fx y ds b = Fm ds b) (hr : Room (k + 1) X.A) (hN : X.N[i]? = some x) (hv : Vis X.env.scope x) (hb : Binds X.K fd ps []) (hx : Passes (L2.CX X.prog X.w) X E)
    (ha : PA X (e :: es) (tDA X.K C (WD E) G)) (hdb : (x == ("__debug__" : Str)) = false := by decide) (hcd : (x == ("__classdict__" : Str)) = false := by decide) (he : starEach (e :: es) X.env = (false, eval e X.env) :: starEach es X.env := by rfl) (hpl : (backTo pos (starEach es X.env)).any (·.1) = false := by rfl) :
    PE X (.Call (.Name x p) (e :: es) [] pos) (tD X.K C (WD E) (eMakeL i A Fm G)) := ⟨fun pins s σ H Q I ⟨S, ρ, b, ok, q⟩ => by
  unfold eMakeL at q
  split at q
  · rename_i A' hρ
    split at q
    · rename_i hA
      subst hA
      obtain ⟨v, hs, rv⟩ := ok.get hρ
      cases rv
      refine wpAny_Call_Name_kw (thn ((pe_var (pos := p) hN hv hdb hcd).run pins s σ H (fun v H1 => v = .ref A' ∧ H1 = H) I ⟨.ref A', hs, rfl, rfl⟩) fun u s1 ⟨v, H1, I1, r1, q1⟩ => ?_)
      obtain ⟨rfl, rfl⟩ := q1
      cases r1
      refine PySem.W.callWith_K (h₀ := X.base) I.ok.mod.kin M.kp (thn (ha.run pos pins s1 σ _ (fun vs H1 => ∀ y dx, H1 y = none → H1 dx = none → dx ≠ y → spI X.K A' Fx (.ref y :: (vs ++ [])) (upd (upd H1 dx (.own y)) y (.ins A' dx [])) (fun v H2 => v = .non ∧ Q (.ref y) H2) E) I1 ⟨S, ρ, b, ok, q.bind.imp fun ds b1 S1 H1 s1 ok1 q1 vs r y dx hy hdx hne => ?_⟩) fun us s2 ⟨vs, H2, I2, r, q2⟩ => ⟨I2.kIn, ?_⟩) he hpl
      · rw [List.append_nil]
        exact make_of hF ok1 r hy hdx hne q1
      · exact run_make (dvs := []) M FO hr hb .nil hx I2 r q2
    · exact q.elim
  · exact q.elim⟩
end
end DL

set_option maxHeartbeats 1000000
namespace DL
open PySem PySem.Spec PyProof.Rows L2
section
variable {X : Cx} {C : Cq} {W : WX} {k : Nat} {A f : Addr} {fd : FuncData} {ps : List Str} {a : Expr} {pos p : Pos} {G : AF} {Fn : DFn}
/-- bool(e), e an object of the class A whose __len__ is Fn -/
@[simp] def eBoolO (A : Addr) (Fn : DFn) (G : AF) : EF := fun ρ b => (G ρ b).bind fun ds b1 => match ds with
  | [.ins A' ns es] => if A' = A then (match Fn [.ins A' ns es] b1 with
    | .ok (.int n) b2 => if 0 ≤ n ∧ n < 2 ^ 63 then .ok (.bl (n != 0)) b2 else .stuck
    | _ => .stuck) else .stuck
  | _ => .stuck
end
end DL

set_option maxHeartbeats 2000000
namespace LzZ
open PySem PySem.Spec PyProof.Rows L2 PySem.W
def putP : Hp → List Addr → List (V × V) → Hp
  | H, a :: as, p :: ps => putP (upd H a (.tup [p.1, p.2])) as ps
  | H, _, _ => H
end LzZ
namespace DL
open PySem PySem.Spec PyProof.Rows L2
/-- list(zip(x, y)) of two tuples -/
@[simp] def zipTT : List D → Option (List D)
  | [.tup xs, .tup ys] => some (zipOf xs ys)
  | _ => none
@[simp] def eLstZ (G : AF) : EF := fun ρ b => (G ρ b).bind fun ds b1 => match zipTT ds with
  | some zs => .ok (.lst zs) b1
  | none => .stuck
end DL

set_option maxHeartbeats 2000000
namespace DL
open PySem PySem.Spec PyProof.Rows L2
@[simp] def putPT : D → D → Option D
  | .dtp ks ds, .tup [k, e] => match keyT k with
    | some j => some (putT ks ds j e)
    | none => none
  | _, _ => none
@[simp] def dictPT : D → List D → Option D
  | acc, [] => some acc
  | acc, d :: ds => match putPT acc d with
    | some a => dictPT a ds
    | none => none
@[simp] def lstPT : D → Option D
  | .lst ds => dictPT (.dtp [] []) ds
  | _ => none
end DL

set_option maxHeartbeats 2000000

set_option maxHeartbeats 1000000
namespace DL
open PySem PySem.Spec PyProof.Rows L2
def isFlat : D → Bool
  | .non => true
  | .bl _ => true
  | .int _ => true
  | .str _ => true
  | _ => false
@[simp] def eLend (i : Nat) (F : EF) : EF := fun ρ b => match ρ[i]? with
  | some (some (.ow (.lst xs))) => match F (unown (ρ.set i (some (.sh (.lst xs))))) b with
    | .ok d b' => if isFlat d then .ok d b' else .stuck
    | _ => .stuck
  | _ => .stuck
section
variable {X : Cx} {C : Cq} {W : WX} {e : Expr} {F : EF}
@[simp] def bLend (i : Nat) (T : BF) : BF := fun ρ b => match ρ[i]? with
  | some (some (.ow (.lst xs))) => match T (unown (ρ.set i (some (.sh (.lst xs))))) b with
    | .ok k b' => .ok k b'
    | _ => .stuck
  | _ => .stuck
@[simp] def rgD (b : Bag) : D → D → Out D
  | .int i, .int j => if 0 ≤ i ∧ i ≤ 100000 ∧ 0 ≤ j ∧ j ≤ 100000 then .ok (.lst (rangeOf2 i j)) b else .stuck
  | _, _ => .stuck
@[simp] def eLstRg2 (Fa Fb : EF) : EF := fun ρ b => (Fa ρ b).bind fun d b1 => (Fb ρ b1).bind fun d2 b2 => rgD b2 d d2
end
end DL

set_option maxHeartbeats 1000000
namespace DL
open PySem PySem.Spec PyProof.Rows L2
theorem eqsV_ok : ∀ {us : List Value} {ks : List Str}, eqsV us ks = true → Vals (strsV ks) us
  | [], [], _ => .nil
  | [], _ :: _, h => by cases h
  | u :: us, [], h => by
    unfold eqsV at h
    split at h <;> first | cases h | skip
    all_goals simp_all
  | u :: us, k :: ks, h => by
    unfold eqsV at h
    split at h
    · simp_all
    · rename_i y t us' k' ks' e1 e2
      cases e1
      cases e2
      simp only [Bool.and_eq_true, decide_eq_true_eq] at h
      obtain ⟨rfl, h⟩ := h
      exact .cons ⟨t, rfl⟩ (eqsV_ok h)
    · cases h
theorem KTup.sq {K : PySem.W.Frag} {a : Addr} {ks : List Str} (h : KTup K a ks) (H : Hp) : SqT K H a (strsV ks) := .inr h.ex
theorem isKT_ok {K : PySem.W.Frag} {a : Addr} {ks : List Str} (h : isKT K a ks = true) : KTup K a ks := by
  unfold isKT at h
  split at h
  · rename_i o ho
    rw [Bool.and_eq_true, decide_eq_true_eq] at h
    obtain ⟨h1, h2⟩ := h
    split at h2
    · rename_i its n hd
      rw [Bool.and_eq_true, decide_eq_true_eq] at h2
      exact ⟨o, its, n, ho, h1, hd, h2.1, eqsV_ok h2.2⟩
    · cases h2
  · cases h
theorem inV_strs (y : Str) : ∀ ks : List Str, inV (.str y) (strsV ks) = decide (y ∈ ks) := by
  intro ks
  unfold inV strsV
  induction ks with
  | nil => rfl
  | cons k ks ih =>
    rw [List.map_cons, List.any_cons, ih]
    show ((k == y) || decide (y ∈ ks)) = _
    by_cases h : k = y
    · subst h; simp
    · have h' : ¬ y = k := fun e => h e.symm
      have : (k == y) = false := by simpa using h
      simp [this, h']
theorem flat_strs (ks : List Str) : (strsV ks).all flatV = true := by
  rw [List.all_eq_true]
  intro v hv
  obtain ⟨k, _, rfl⟩ := List.mem_map.mp hv
  rfl
theorem d_inK {x : Str} {p : Pos} {ad : Addr} {ks : List Str} (ha : PE X a (tD X.K C W F)) (hg : Gl X x) (hm : X.mg x = some (.ref ad)) (hK : KTup X.K ad ks) (hd : (x == ("__debug__" : Str)) = false := by decide) (hmk : behindInMarks .In (.Name x p) = false := by with_unfolding_all rfl) :
    PE X (.Compare a [.In] [.Name x p] pos) (tD X.K C W (e1 (inKF ks) F)) :=
  pe_imp (pe_cmpR op_in_seq ha (pe_glob (v := .ref ad) hg hm rfl hd) hmk) fun σ H Q ⟨S, ρ, b, ok, q⟩ => by
    refine ⟨S, ρ, b, ok, q.bind.imp fun d b1 S1 H1 s1 ok1 q1 v rv => ?_⟩
    obtain ⟨z, hz, q2⟩ := q1.pureO
    unfold inKF at hz
    split at hz
    · rename_i y
      cases hz
      cases rv
      refine ⟨_, _, rfl, .inr (hK.sq _), rfl, flat_strs ks, ?_⟩
      rw [if_neg (by decide), inV_strs]
      exact q2 S1 H1 (Same.refl _) ok1 _ (.bl _)
    · cases hz
theorem d_inKe {x : Str} {p : Pos} {ks : List Str} (ha : PE X a (tD X.K C W F)) (hg : Gl X x) (hm : ∃ ad, X.mg x = some (.ref ad) ∧ KTup X.K ad ks) (hd : (x == ("__debug__" : Str)) = false := by decide) (hmk : behindInMarks .In (.Name x p) = false := by with_unfolding_all rfl) :
    PE X (.Compare a [.In] [.Name x p] pos) (tD X.K C W (e1 (inKF ks) F)) := by
  obtain ⟨ad, h1, h2⟩ := hm
  exact d_inK ha hg h1 h2 hd hmk
end DL

set_option maxHeartbeats 1000000
namespace DL
open PySem PySem.Spec PyProof.Rows L2
/-- xs.insert(i, e), xs an owned list in slot i; a place from 0 on -/
@[simp] def sIns (i : Nat) (G : AF) : SF := fun ρ b => match ρ[i]? with
  | some (some (.ow (.lst ds))) => (G ρ b).st ρ fun es b' => match es with
    | [.int k, d] => if ds.length ≤ 100000 ∧ 0 ≤ k ∧ k ≤ 100000 then .nx (ρ.set i (some (.ow (.lst (ds.take k.toNat ++ [d] ++ ds.drop k.toNat))))) b' else .stuck
    | _ => .stuck
  | _ => .stuck
theorem m_start {K : PySem.W.Frag} : MtD K C (fun x xs H Q => ∃ a b, x = .str a ∧ xs = [.str b] ∧ Q (.bl (Txt.startswith a b)) H) startF := by
  intro S ρ b σ H x vs ds z Q ok rs hz q
  unfold startF at hz
  split at hz
  · cases hz
    cases rs with
    | cons r1 r2 => cases r2; cases r1; exact ⟨x, _, rfl, rfl, q _ S H (Same.refl _) ok (.bl _)⟩
  · cases hz
def upperF : D → Option D
  | .str x => if x.length ≤ 100000 then some (.str (Txt.upper x)) else none
  | _ => none
theorem d_upper {o : Expr} {apos pos : Pos} (ho : PE X o (tD X.K C W F)) (hb : attributeBase o "upper" X.env (eval o X.env) = eval o X.env := by rfl) (hline : (apos.endLine == pos.line) = true := by rfl) : PE X (.Call (.Attribute o "upper" apos) [] [] pos) (tD X.K C W (e1 upperF F)) :=
  pe_imp (pe_upper ho hb hline) fun σ H Q ⟨S, ρ, b, ok, q⟩ => by
    refine ⟨S, ρ, b, ok, q.bind.imp fun d b1 S1 H1 s1 ok1 q1 v rv => ?_⟩
    obtain ⟨z, hz, q2⟩ := q1.pureO
    unfold upperF at hz
    split at hz
    · rename_i x
      by_cases hl : x.length ≤ 100000
      · rw [if_pos hl] at hz
        cases hz
        cases rv
        exact ⟨⟨x, rfl⟩, x, rfl, rfl, by omega, q2 S1 H1 (Same.refl _) ok1 _ (.str _)⟩
      · rw [if_neg hl] at hz
        cases hz
    · cases hz
end DL

set_option maxHeartbeats 1000000
namespace DL
open PySem PySem.Spec PyProof.Rows L2
@[simp] def isB2 : D → D → Option D
  | .bl a, .bl c => some (.bl (decide (a = c)))
  | _, _ => none
theorem notB2_op {K : PySem.W.Frag} {C : Cq} : Op2 K C (fun x y H Q => ∃ a b, x = .bl a ∧ y = .bl b ∧ Q (.bl (!decide (a = b))) H) notB2 := by
  intro S ρ b σ H v w d e z Q ok r1 r2 hz q
  unfold notB2 at hz
  split at hz
  · cases hz; cases r1; cases r2
    exact ⟨_, _, rfl, rfl, q _ S H (Same.refl _) ok (.bl _)⟩
  · cases hz
section
variable {X : Cx} {C : Cq} {W : WX} {a b : Expr} {pos : Pos} {Fa Fb : EF}
theorem t_notb (ha : PE X a (tD X.K C W Fa)) (hb : PE X b (tD X.K C W Fb)) : PT X (.Compare a [.IsNot] [b] pos) (tDt X.K C W (bB (e2 notB2 Fa Fb))) := d_tcmp op_isnot_bl notB2_op ha hb (nomark _)
end
end DL

set_option maxHeartbeats 1000000
namespace DL
open PySem PySem.Spec PyProof.Rows L2
/-- the promise of an __init__ that stores its one argument -/
def spXi (A : Addr) (f : Str) : Sp := fun vs H Q _ => ∃ a v H1, vs = [.ref a, v] ∧ H1 a = none ∧ H = upd H1 a (exo a A none) ∧ ∀ d, H1 d = none → d ≠ a → Q .non (upd (upd H d (exd d [(f, v)])) a (exo a A (some d)))
/-- what the program's top says of the class -/
structure ExcF (K : PySem.W.Frag) (mg : Str → Option Value) (x f : Str) : Prop where
  gC : mg x = some (.ref (He.ga K x))
  T : OexC K (He.ga K x)
  iC : PySem.W.findIn K (.ref (He.ga K x)) "__init__" = some (some (.ref (He.ma K (He.ga K x) "__init__")))
  tI : PySem.W.typeIn K (.ref (He.ma K (He.ga K x) "__init__")) = some (.type "function")
  no : PySem.W.findIn K (.ref (He.ga K x)) f = some none
def HasX (P : Program) (w : World) (K : PySem.W.Frag) (mg : Str → Option Value) (base : Heap) (x f : Str) : Prop := ExcF K mg x f ∧ ∃ fd ps, FnOk P w K mg base (L2.CX P w) 1 (He.ma K (He.ga K x) "__init__") fd ps (spXi (He.ga K x) f) ∧ Binds K fd ps []
theorem fn_xi {P : Program} {w : World} {K : PySem.W.Frag} {mg : Str → Option Value} {base : Heap} {A fI : Addr} {nm qual g f : Str} {st : Stmt} {fd : FuncData} {p1 p2 p3 p4 : Pos} (Fu : Fun K nm qual st fI fd) (Sc : FnScope ["self", g] ["self", g] (defScope st)) (hb : defBody st = [.Assign [.Attribute (.Name "self" p1) f p2] (.Name g p3) p4]) (T : OexC K A) (no : PySem.W.findIn K (.ref A) f = some none)
    (hd : (g == ("__debug__" : Str)) = false) (hcd : (g == ("__classdict__" : Str)) = false) (hs : ∀ env : PySem.Env, swapsWith (.Name g p3) (some (.Attribute (.Name "self" p1) f p2)) p4.line env = pure false) : FnOk P w K mg base (L2.CX P w) 1 fI fd ["self", g] (spXi A f) := by
  obtain ⟨oc, od, kV, doc, pm, an, cdv, ct, osl, rfl, lk, hcd'⟩ := Fu.ex
  refine fn_of lk hcd' Sc (fun vs H Q E h => ?_) (fun A' outer s H vs Q E hr h => ?_)
  · obtain ⟨a, v, H1, e, _⟩ := h
    rw [e]
    rfl
  · obtain ⟨a, v, H1, e, ha, eH, q⟩ := h
    subst e
    rw [hb]
    have vis : ∀ n ∈ (["self", g] : List Str), Vis (defScope st) n := fun n hn => (Sc.par n hn).elim (fun z => .inl z) (fun z => .inr (.inl z))
    refine ⟨_, pss_one (ps_ost (f := f) (pe_var (i := 0) rfl (vis "self" (by simp))) (pe_var (i := 1) rfl (vis g (by simp)) hd hcd) (hs _)), ?_⟩
    refine ⟨v, rfl, .ref a, rfl, a, A, rfl, T, no, .inl ⟨by rw [eH, upd_same], fun dx hdx hda => ?_⟩⟩
    have h1 : H1 dx = none := by
      rw [eH, upd_ne hda] at hdx
      exact hdx
    exact q dx h1 hda
theorem d_raise {X : Cx} {C : Cq} {W : WX} {x f : Str} {e : Expr} {Fe : EF} {p pos pos' : Pos} (Hx : HasX X.prog X.w X.K X.mg X.base x f) (hr : Room 2 X.A) (calm : X.calm = true) (tk : Takes X W) (hg : Gl X x) (he : PE X e (tD X.K C W Fe))
    (hdb : (x == ("__debug__" : Str)) = false := by decide) (hee : starEach [e] X.env = (false, eval e X.env) :: starEach [] X.env := by rfl) : PS X (.Raise (some (.Call (.Name x p) [e] [] pos)) none pos') (tDS X.K C W (sRaise x f Fe)) := by
  obtain ⟨T, fd, ps, F1, hb⟩ := Hx
  have hpass : Passes (L2.CX X.prog X.w) X (fun _ _ _ => False) := passes_call tk fun _ _ _ _ h => h.elim
  refine ps_imp (ps_raise calm tk (pmk_oex T.T T.iC T.tI F1 hr hb .nil hpass hg T.gC (d_acons he d_anil (hs := hee)) hdb hee rfl)) fun D σ H ⟨S, ρ, b, ok, q⟩ => ?_
  refine ⟨S, ρ, b, ok, ?_⟩
  unfold sRaise at q
  cases hF : Fe ρ b with
  | stuck => rw [hF] at q; exact q.elim
  | ex c ns ds bx =>
    rw [hF] at q
    have e2 : aCons Fe aNil ρ b = .ex c ns ds bx := by simp only [aCons, hF]; rfl
    rw [e2]
    exact fun dx S' H' b' sm ok' xr hbx => q dx S' σ H' b' sm ok' xr hbx
  | ok d b1 =>
    rw [hF] at q
    have e2 : aCons Fe aNil ρ b = .ok [d] b1 := by simp only [aCons, hF]; rfl
    rw [e2]
    intro S1 H1 sm1 ok1 vs rv
    cases rv with
    | @cons v vs d' ds' r rn =>
      cases rn
      refine ⟨by simp, fun a ha => ⟨a, v, H1, rfl, ha, rfl, fun dd hd hda => ⟨rfl, dd, [(f, v)], upd_same, ?_, hd, ?_⟩⟩⟩
      · rw [upd_ne hda, upd_same]
      · have eH : upd (del (upd (upd (upd H1 a (exo a (He.ga X.K x) none)) dd (exd dd [(f, v)])) a (exo a (He.ga X.K x) (some dd))) a) dd (.xd [(f, v)]) = upd H1 dd (.xd [(f, v)]) := by
          funext c
          by_cases hc : c = dd
          · subst hc
            rw [upd_same, upd_same]
          · rw [upd_ne hc, upd_ne hc]
            by_cases hca : c = a
            · subst hca
              rw [del_same, ha]
            · rw [del_ne hca, upd_ne hca, upd_ne hc, upd_ne hca]
        rw [eH]
        have ok2 := ok1.alloc (u := .xd [(f, v)]) hd
        have hS : S1 dd = none := ok1.core.sn hd
        exact q (some dd) _ σ _ b1 (fun y z hyz => (same_upd hS) y z (sm1 y z hyz)) ok2 ⟨dd, [(f, v)], rfl, upd_same, rfl, .cons (r.up (same_upd hS)) .nil⟩ rfl
/-- the clause's class tells of those classes what m says -/
def ExM (K : PySem.W.Frag) (x : Str) (m : Str → Option Bool) : Prop := ∀ c b, m c = some b → PySem.W.exmOne K (.ref (He.ga K c)) (.ref (He.ga K x)) = some b
theorem d_try {X : Cx} {C : Cq} {W : WX} {x : Str} {m : Str → Option Bool} {body suite : List Stmt} {b₀ : Stmt} {np pos pos' : Pos} {F G : SF} (hM : ExM X.K x m) (hs : X.stack = X.env :: X.outer) (hf : X.env.frame = some X.env.locals) (hc : Names X x (.ref (He.ga X.K x))) (tk : Takes X W)
    (hb : ∀ (W : WX) (pn : List (Addr × Obj)) (xe : Value → Shared → Prop), Takes (X.tr pn xe) W → PassesOwn (model X.prog X.w) X.A X.env xe → PSs (X.tr pn xe) body (tDS X.K C W F))
    (hsu : ∀ (a : Addr) (oe : Obj) (pn : List (Addr × Obj)), PSs (X.suite a ((a, oe) :: pn)) (b₀ :: suite) (tDS X.K C W0 G)) :
    PS X (.Try body [.ExceptHandler (some (.Name x np)) none (b₀ :: suite) pos'] [] [] pos) (tDS X.K C W (sTry m F (fun ρ b => if (G ρ b).noex = true then G ρ b else .stuck))) := by
  refine ps_imp (ps_try_only (tb := fun W => tDS X.K C W F) (ts := fun _ _ _ => tDS X.K C W0 G) hs hf hc tk hb (fun a oe cls d pn _ _ => hsu a oe pn)) fun D σ H ⟨S, ρ, b, ok, q⟩ => ?_
  refine ⟨S, ρ, b, ok, ?_⟩
  unfold sTry at q
  cases hF : F ρ b with
  | nx ρ1 b1 => rw [hF] at q; exact q
  | rt d b1 => rw [hF] at q; exact q
  | ro d b1 => rw [hF] at q; exact q
  | bk ρ1 b1 => rw [hF] at q; exact q
  | ct ρ1 b1 => rw [hF] at q; exact q
  | stuck => rw [hF] at q; exact q
  | ex ρ1 c ns ds b1 =>
    rw [hF] at q
    dsimp only at q
    intro dx S' σ' H' b' sm ok' xr hb'
    subst hb'
    cases hm : m c with
    | none => rw [hm] at q; exact q.elim
    | some t =>
      rw [hm] at q
      refine ⟨t, hM c t hm, fun ht a ha => ?_, fun ht => ?_⟩
      · subst ht
        refine ⟨S', ρ1, b', ok', ?_⟩
        have q := SOk.up q sm
        dsimp only at q
        cases hG : G ρ1 b' with
        | ex r1 c1 n1 d1 x1 => rw [hG] at q; exact q.elim
        | nx r1 x1 => rw [hG] at q; exact q
        | rt r1 x1 => rw [hG] at q; exact q
        | ro r1 x1 => rw [hG] at q; exact q
        | bk r1 x1 => rw [hG] at q; exact q
        | ct r1 x1 => rw [hG] at q; exact q
        | stuck => rw [hG] at q; exact q
      · subst ht
        exact q dx S' σ' H' b' sm ok' xr rfl
end DL

set_option maxHeartbeats 1000000
namespace DL
open PySem PySem.Spec PyProof.Rows L2
theorem excO_ok {K : PySem.W.Frag} {C : Addr} (q : excO K C = true) : ∃ nm q N bs bm sn sub ab col dd k0 k1 k2 k3 k5, K.lookup C = some (excClassObj nm q C N bs bm true sn sub ab col dd k0 k1 k2 k3 k5 "ValueError.__new__") ∧ PySem.HandSPX.refsVE bm = true := by
  unfold excO at q
  split at q
  · rename_i dd cd sl ho
    split at q
    · rename_i C' bm k0 k1 k2 k3 n k5 hm hs
      simp only [Bool.and_eq_true, beq_iff_eq, Bool.not_eq_true'] at q
      obtain ⟨rfl, rfl, hdel, hdict, ht⟩ := q
      obtain ⟨nm, bs, mro, ns, qn, hd, sn, sub, ab, col, del⟩ := cd
      dsimp only at hm hdel hdict
      subst hm hdel hdict
      have hsl : sl = #[k0, k1, k2, k3, some (.builtin "ValueError.__new__"), k5] := by
        obtain ⟨l⟩ := sl
        simp only at hs
        rw [hs]
      subst hsl
      exact ⟨nm, qn, ns, bs, bm, sn, sub, ab, col, dd, k0, k1, k2, k3, k5, ho, ht⟩
    · cases q
  · cases q
theorem excB_ok {K : PySem.W.Frag} {mg : Str → Option Value} {x f : Str} (h : excB K x f = true) (hg : mg x = some (.ref (He.ga K x))) : ExcF K mg x f := by
  unfold excB at h
  simp only [Bool.and_eq_true, decide_eq_true_eq] at h
  obtain ⟨h1, h2, h3, h4, h5, h6, h7, h8⟩ := h
  exact ⟨hg, ⟨excO_ok h1, He.eqO_ok h2, h3, h4, h5⟩, He.eqO_ok h6, h7, He.eqO_ok h8⟩
theorem exmB_ok {K : PySem.W.Frag} {x : Str} {cs : List (Str × Bool)} (h : exmB K x cs = true) : ExM K x (fun c => cs.lookup c) := fun c b hc => by
  have hm : (c, b) ∈ cs := PySem.mem_of_lookup hc
  exact of_decide_eq_true (List.all_eq_true.mp h (c, b) hm)
end DL

set_option maxHeartbeats 1000000
namespace DL
open PySem PySem.Spec PyProof.Rows L2
section
variable {X : Cx} {C : Cq} {W : WX} {A f q : Addr} {mc : Value} {m : Str} {k : Nat} {fd : FuncData} {ps : List Str} {sp : Sp} {Fn : DFn} {G : AF} {Fo : EF} {o e : Expr} {es : List Expr} {pos apos : Pos} {pl : Sem Bool} {ta : TE} {t : TA} {pins : List (Addr × Obj)} {σ : L2.St} {H : Hp} {s : Shared}
theorem run_cmW {Q : VK} {us : List Value} {vs : List V} (F : FnG X.prog X.w X.K X.mg X.base GT k f fd ps sp) (hb : Binds X.K fd ps []) (hr : Room k X.A) (tk : Takes X W) (I : Inv X ((q, PySem.W.methodObj (.ref f) (.ref A)) :: pins) σ H s)
    (r : Vals vs us) (h : sp (.ref A :: vs) H Q (fun c d H' => W c d σ H')) : wpAny (model X.prog X.w) X.A (call (.ref q) us) (EP X pins σ Q) X.xe s := by
  have r2 : Vals (V.ref A :: vs) (Value.ref A :: us) := .cons rfl r
  have hl : (Value.ref A :: us).length = ps.length := by rw [← r2.length]; exact F.many _ _ _ _ h
  have bt := hb s (Value.ref A :: us) I.kIn (by rw [List.append_nil]; exact hl)
  rw [List.append_nil] at bt
  have z : wpAny (model X.prog X.w) X.A (call (.ref q) us) (EP X ((q, PySem.W.methodObj (.ref f) (.ref A)) :: pins) σ Q) X.xe s :=
    wpAny_call (PySem.W.method_call (ClX.pin_at I) (codeAny_mono (F.go X.A X.stack s H ⟨Value.ref A :: us, []⟩ (Value.ref A :: us) (V.ref A :: vs) Q _ hr trivial I.env0 bt r2 h) fun r s' z => by
      rcases end_of tk I z with ⟨u, rfl, q⟩ | ⟨e, rfl, q⟩
      · exact q
      · exact q))
  exact thn z fun _ _ y => ClX.unpinE y
def tCMW (A : Addr) (sp : Sp) (W : WX) (ta : TE) (t : TA) : TE := fun σ H Q => ta σ H fun x H1 => x = .ref A ∧ t σ H1 fun vs H2 => sp (.ref A :: vs) H2 Q (fun c d H' => W c d σ H')
theorem pe_cmethW (he : PE X o ta) (r : ClX.CRead X.K A mc) (c : ClX.CMet X.K A mc m q f) (F : FnG X.prog X.w X.K X.mg X.base GT k f fd ps sp) (hb : Binds X.K fd ps []) (hr : Room k X.A) (tk : Takes X W) (ha : PA X (e :: es) t)
    (hst : starEach (e :: es) X.env = (false, eval e X.env) :: starEach es X.env := by rfl) (hpl : (backTo pos (starEach es X.env)).any (·.1) = false := by rfl)
    (ht : eval (.Call (.Attribute o m apos) (e :: es) [] pos) X.env = (do
      let ov ← eval o X.env
      standAt apos.atName
      let (f, first) ← holding [ov] (getMethod ov m pl)
      callWith pos f first (backTo pos (starEach (e :: es) X.env)) (backToKw pos (keywordEach [] X.env))) := by rfl) :
    PE X (.Call (.Attribute o m apos) (e :: es) [] pos) (tCMW A sp W ta t) := by
  refine ⟨fun pins s σ H Q I h => ?_⟩
  refine PySem.W.methodCall_KW (pl := pl) (thn (he.run pins s σ H _ I h) fun u s1 ⟨x, H1, I1, rx, ex, q⟩ => ?_) ht
  subst ex
  obtain rfl : u = Value.ref A := rx
  refine ClX.getmethcm_ok I1 r c fun s2 I2 => ?_
  refine ClX.callwith_cm I2 (ClX.base_none I1 (Nat.le_refl _)) c.fi (thn (ha.run pos _ s2 σ H1 _ I2 q) fun us s3 ⟨vs, H2, I3, rv, q2⟩ => ⟨⟨ClX.pin_at I3, I3.kIn⟩, ?_⟩) hst hpl
  exact run_cmW F hb hr tk I3 rv q2
theorem d_cmethW (ho : PE X o (tD X.K C W Fo)) (r : ClX.CRead X.K A mc) (c : ClX.CMet X.K A mc m q f) (FO : FnG X.prog X.w X.K X.mg X.base GT k f fd ps (spD X.K Fn)) (hb : Binds X.K fd ps []) (hr : Room k X.A) (tk : Takes X W) (ha : PA X (e :: es) (tDA X.K C W G))
    (hst : starEach (e :: es) X.env = (false, eval e X.env) :: starEach es X.env := by rfl) (hpl : (backTo pos (starEach es X.env)).any (·.1) = false := by rfl)
    (ht : eval (.Call (.Attribute o m apos) (e :: es) [] pos) X.env = (do
      let ov ← eval o X.env
      standAt apos.atName
      let (f, first) ← holding [ov] (getMethod ov m pl)
      callWith pos f first (backTo pos (starEach (e :: es) X.env)) (backToKw pos (keywordEach [] X.env))) := by rfl) :
    PE X (.Call (.Attribute o m apos) (e :: es) [] pos) (tD X.K C W (eCM A Fn Fo G)) := pe_imp (pe_cmethW (pl := pl) ho r c FO hb hr tk ha hst hpl ht) fun σ H Q ⟨S, ρ, b, ok, q⟩ => by
  refine ⟨S, ρ, b, ok, q.bind.imp fun d b1 S1 H1 s1 ok1 q1 v rv => ?_⟩
  split at q1
  · rename_i A'
    split at q1
    · rename_i hA
      subst hA
      cases rv
      exact ⟨rfl, S1, ρ, b1, ok1, q1.bind.imp fun ds b2 S2 H2 s2 ok2 q2 vs rs => spD_of (W := W) ok2 (.cons (.obj _) rs) q2⟩
    · exact q1.elim
  · exact q1.elim
end
end DL

set_option maxHeartbeats 2000000
namespace DL
open PySem PySem.Spec PyProof.Rows L2
def G_Machine_init (M y : Addr) : IF := (iSeq y (sIf (bNot (bB (eCall (F_is_letters M) (aCons (eV 1) aNil)))) (sRaise "InvalidLetters" "given" (eV 1)) sNil) (iSeq y (sIf (bOr (bNot (bB (eB (isiF (.ty "tuple") (fun n => kitB n "tuple") (ownB M)) (aCons (eV 2) (aCons (eC (.obj (.ty "tuple"))) aNil))))) (bB (e2 eqF (eB lenF (aCons (eV 2) aNil)) (eC (.int 0))))) (sRaise "InvalidStates" "index" (eC .non)) sNil) (iSeq y (sAsg (eCall (F_first_wrong_state M) (aCons (eV 1) (aCons (eV 2) aNil))) (gN 3)) (iSeq y (sIf (bB (e2 geF (eV 3) (eC (.int 0)))) (sRaise "InvalidStates" "index" (eV 3)) sNil) (iSt "_letters" (eV 1) (iSt "_states" (eV 2) iNil))))))
def Fx_Machine (M : Addr) : Addr → List D → Bag → IO := initF 4 3 (G_Machine_init M)
theorem isi_tup (M : Addr) (ds : List D) : isiF (.ty "tuple") (fun n => kitB n "tuple") (ownB M) [.tup ds, .obj (.ty "tuple")] = some (.bl true) := by kernel_rfl
theorem fm_ok (M y : Addr) (ds : List D) (b : Bag) : Fm_Machine M ds b = .stuck ∨ Fx_Machine M y ds b = Fm_Machine M ds b := by
  unfold Fm_Machine
  split
  · rename_i l ss
    split
    · rename_i b1 h1
      by_cases hs : ss.length = 0
      · left; rw [if_pos hs]
      · rw [if_neg hs]
        split
        · rename_i i b2 h2
          by_cases hi : 0 ≤ i
          · left; rw [if_pos hi]
          · right
            have e0 : isMe y [some (.sh (.obj (.ref y))), some (.sh l), some (.sh (.tup ss)), none] = true := by simp [isMe]
            have e1 : isMe y [some (.sh (.obj (.ref y))), some (.sh l), some (.sh (.tup ss)), some (.sh (.int i))] = true := by simp [isMe]
            rw [if_neg hi]
            unfold Fx_Machine initF G_Machine_init
            have h0 : ¬ ((ss.length : Int) = 0) := by omega
            have hn : ¬ ("_states" : Str) = "_letters" := by decide
            simp [iSeq, iSt, iNil, h1, isi_tup, h2, hi, e0, e1, hs, h0, hn]
        · left; rfl
    · left; rfl
  · left; rfl
end DL

set_option maxHeartbeats 2000000

set_option maxHeartbeats 2000000

set_option maxHeartbeats 2000000

set_option maxHeartbeats 2000000

set_option maxHeartbeats 2000000

set_option maxHeartbeats 2000000

set_option maxHeartbeats 2000000

set_option maxHeartbeats 2000000

set_option maxHeartbeats 2000000

set_option maxHeartbeats 2000000

set_option maxHeartbeats 2000000

set_option maxHeartbeats 2000000

set_option maxHeartbeats 2000000

set_option maxHeartbeats 2000000

set_option maxHeartbeats 2000000

set_option maxHeartbeats 2000000

set_option maxHeartbeats 2000000

set_option maxHeartbeats 2000000

set_option maxHeartbeats 2000000

set_option maxHeartbeats 2000000

set_option maxHeartbeats 2000000
namespace DL
open PySem PySem.Spec PyProof.Rows L2
def G_state_row : SF := (sRet (eM joinF (eC (.str " ")) (aCons (eLst (aCons (eC (.str "state")) (aCons (eB strF (aCons (eIx (eV 0) (eC (.int 0))) aNil)) (aStar (eLc (aAny (eIx (eV 0) (eC (.int 1)))) [1] (gN 1) bYes (eB strF (aCons (eV 1) aNil))) aNil)))) aNil)))
def F_state_row : DFn := runD 2 1 (G_state_row)
def G_Machine_str_ (M : Addr) : SF := (sRet (eM joinF (eC (.str "\n")) (aCons (eLst (aCons (eJ2 (eC (.str "machine ")) (e1 (fldF M "_letters") (eV 0))) (aStar (eLc (aAny (e1 (fldF M "_states") (eV 0))) [1] (gN 1) bYes (eCall (F_state_row) (aCons (eV 1) aNil))) aNil))) aNil)))
def F_Machine_str_ (M : Addr) : DFn := runD 2 1 (G_Machine_str_ M)
end DL

set_option maxHeartbeats 2000000

set_option maxHeartbeats 2000000

set_option maxHeartbeats 2000000

set_option maxHeartbeats 2000000
namespace DL
open PySem PySem.Spec PyProof.Rows L2
def G__law_cell : SF := (sSeq (sIf (bB (e2 ltF (eV 1) (eB lenF (aCons (eV 0) aNil)))) (sRet (eIx (eV 0) (eV 1))) sNil) (sSeq (sAsg (e2 addF (eC (.int 740923)) (e2 mulF (eC (.int 50123)) (eV 1))) (gN 2)) (sSeq (sFor (aAny (eSl (eV 0) oNo (oSome (eC (.int 5))))) (gN 3) (sAsg (e2 modF (eB intF (aCons (e2 addF (e2 addF (e2 mulF (eV 2) (eC (.int 61051))) (e2 mulF (eV 3) (eC (.int 1009)))) (eV 1)) aNil)) (eC (.int 2147483563))) (gN 2))) (sRet (eV 2)))))
def F__law_cell : DFn := runD 4 2 (G__law_cell)
def G__law_dip : SF := (sSeq (sAsg (e2 addF (eIx (eV 0) (eC (.int 2))) (eC (.int 1))) (gBag 0 2)) (sSeq (sAsg (e2 modF (eB intF (aCons (e2 addF (eIx (eV 0) (eC (.int 1))) (e2 mulF (eC (.int 770551)) (eIx (eV 0) (eC (.int 2))))) aNil)) (eC (.int 2147483587))) (gN 2)) (sSeq (sAsg (e2 modF (eB intF (aCons (e2 addF (e2 addF (e2 mulF (eV 2) (eV 2)) (e2 mulF (eC (.int 2753159)) (eV 2))) (eC (.int 519371))) aNil)) (eC (.int 2147483587))) (gBag 0 1)) (sSeq (sIf (bB (e2 eqF (eIx (eV 0) (eC (.int 0))) (eC (.int 0)))) (sRet (e2 modF (eB intF (aCons (e2 fdivF (eIx (eV 0) (eC (.int 1))) (eC (.int 103))) aNil)) (eV 1))) sNil) (sSeq (sAsg (eB divmodF (aCons (eIx (eV 0) (eC (.int 0))) (aCons (eV 1) aNil))) (gT 2 (gsC (gN 3) (gsC (gN 4) gsN)))) (sSeq (sAsg (eV 3) (gBag 0 0)) (sRet (eV 4))))))))
def F__law_dip : DFn := runD 5 2 (G__law_dip)
def G__law_a_walk : SF := (sRet (eM joinF (eC (.str "")) (aCons (eLc (aRng (aCons (eCall (F__law_dip) (aCons (eV 0) (aCons (e2 addF (eV 2) (eC (.int 1))) aNil))) aNil)) [3] (gN 3) bYes (eIx (eV 1) (eCall (F__law_dip) (aCons (eV 0) (aCons (eB lenF (aCons (eV 1) aNil)) aNil))))) aNil)))
def F__law_a_walk : DFn := runD 4 3 (G__law_a_walk)
def G__law_a_ring : SF := (sRet (eTup (aCons (eCall (F__law_a_walk) (aCons (eV 0) (aCons (eV 1) (aCons (eV 2) aNil)))) (aCons (e2 addF (eIx (eV 1) (eCall (F__law_dip) (aCons (eV 0) (aCons (eB lenF (aCons (eV 1) aNil)) aNil)))) (eCall (F__law_a_walk) (aCons (eV 0) (aCons (eV 1) (aCons (e2 subF (eV 2) (eC (.int 1))) aNil))))) aNil))))
def F__law_a_ring : DFn := runD 3 3 (G__law_a_ring)
def G__law_well : SF := (sRetO (eLst (aCons (eIf (bOr (bB (e2 ltF (eV 0) (eC (.int 0)))) (bB (e2 geF (eV 0) (e2 powF (eC (.int 10)) (eC (.int 18)))))) (eB absF (aCons (eV 0) aNil)) (eC (.int 0))) (aCons (e2 modF (eB intF (aCons (eV 0) aNil)) (eC (.int 2147483587))) (aCons (eC (.int 0)) aNil)))))
def F__law_well : DFn := runF 1 1 (G__law_well)
end DL

set_option maxHeartbeats 2000000

set_option maxHeartbeats 2000000

set_option maxHeartbeats 2000000
namespace DL
open PySem PySem.Spec PyProof.Rows L2
def G_lasso_behind (M : Addr) : SF := (sSeq (sAsg (eCall (F_state_behind M) (aCons (eV 0) (aCons (eC (.int 0)) (aCons (eV 1) aNil)))) (gN 3)) (sSeq (sAsg (eCall (F_lasso_from) (aCons (e1 (fldF M "_letters") (eV 0)) (aCons (eCall (F_arrows_of M) (aCons (eV 0) aNil)) (aCons (eV 3) (aCons (eLst (aCons (eTup (aCons (eCall (F_colours_of M) (aCons (eV 0) aNil)) (aCons (eV 2) aNil))) aNil)) aNil))))) (gT 2 (gsC (gN 4) (gsC (gN 5) gsN)))) (sRet (eTup (aCons (e2 addF (eV 1) (eV 4)) (aCons (eV 5) aNil))))))
def F_lasso_behind (M : Addr) : DFn := runD 6 3 (G_lasso_behind M)
def G_certify_open (M : Addr) : SF := (sSeq (sAsg (eCall (F_verdict M) (aCons (eV 0) (aCons (eV 1) aNil))) (gN 2)) (sSeq (sIf (bB (e2 neF (eV 2) (eC (.str "open")))) (sRet (eTup (aCons (eTup (aCons (eC (.str "holds")) (aCons (eStrO M (F_Machine_str_ M) (aCons (eV 0) aNil)) (aCons (eTup (aCons (eV 2) (aCons (eV 1) aNil))) aNil)))) (aCons (eTup aNil) aNil)))) sNil) (sRet (eTup (aCons (eTup (aCons (eC (.str "open")) (aCons (eStrO M (F_Machine_str_ M) (aCons (eV 0) aNil)) (aCons (eV 1) aNil)))) (aCons (eTup (aCons (eCall (F_lasso_behind M) (aCons (eV 0) (aCons (eV 1) (aCons (eC (.int 0)) aNil)))) (aCons (eCall (F_lasso_behind M) (aCons (eV 0) (aCons (eV 1) (aCons (eC (.int 1)) aNil)))) aNil))) aNil))))))
def F_certify_open (M : Addr) : DFn := runD 3 2 (G_certify_open M)
end DL

set_option maxHeartbeats 2000000
namespace DL
open PySem PySem.Spec PyProof.Rows L2
def G__law_rope_v2 : SF := (sSeq (sPar2 3 4 (aCons (eCall (F__law_dip) (aCons (eV 0) (aCons (eC (.int 7)) aNil))) (aCons (eCall (F__law_dip) (aCons (eV 0) (aCons (eC (.int 2)) aNil))) aNil))) (sSeq (sIf (bB (e2 eqF (eV 3) (eC (.int 0)))) (sRet (eIx (eLst (aCons (eListS (eV 2)) (aCons (eC .non) (aCons (eIx (eV 2) (eC (.int 0))) (aCons (e2 addF (eV 2) (eTup (aCons (eC (.str "")) aNil))) (aCons (eSl (eV 2) oNo (oSome (eC (.int 1)))) (aCons (eTup (aCons (eIx (eV 2) (eC (.int 0))) (aCons (eC (.str "")) aNil))) (aCons eDnew (aCons (eTup aNil) aNil))))))))) (eCall (F__law_dip) (aCons (eV 0) (aCons (eC (.int 8)) aNil))))) sNil) (sSeq (sIf (bB (e2 eqF (eV 3) (eC (.int 1)))) (sSeq (sAsg (eIx (eLst (aCons (e2 addF (eIx (eV 2) (eV 4)) (eC (.str "?"))) (aCons (eListS (eIx (eV 2) (eV 4))) (aCons (eC .non) (aCons (eC (.int 0)) (aCons (e2 addF (e1 upperF (eIx (eV 2) (eV 4))) (eC (.str "A"))) (aCons (eTup (aCons (eIx (eV 2) (eV 4)) aNil)) aNil))))))) (eCall (F__law_dip) (aCons (eV 0) (aCons (eC (.int 6)) aNil)))) (gN 5)) (sRet (e2 addF (e2 addF (eSl (eV 2) oNo (oSome (eV 4))) (eTup (aCons (eV 5) aNil))) (eSl (eV 2) (oSome (e2 addF (eV 4) (eC (.int 1)))) oNo)))) sNil) (sSeq (sIf (bB (e2 eqF (eV 3) (eC (.int 2)))) (sRet (eTup (aCons (e2 addF (eIx (eV 2) (eC (.int 0))) (e2 mulF (eIx (eV 2) (eC (.int 1))) (eC (.int 70)))) (aCons (e2 mulF (eIx (eV 2) (eC (.int 1))) (eC (.int 90))) aNil)))) sNil) (sRet (eV 2))))))
def F__law_rope_v2 : DFn := runD 6 3 (G__law_rope_v2)
end DL

set_option maxHeartbeats 2000000

set_option maxHeartbeats 2000000

set_option maxHeartbeats 1000000
namespace DL
open PySem PySem.Spec PyProof.Rows L2
section
variable {X : Cx} {C : Cq} {W : WX} {e a b : Expr} {es : List Expr} {st : Stmt} {sts : List Stmt} {pos : Pos} {F Fa Fb : EF} {G : AF} {S Sr : SF} {t t' : TE} {ta ta' : TA} {ts ts' us : TS}
theorem pet_imp (h : PET X e t) (f : ∀ σ H Q, t' σ H Q → t σ H Q) : PET X e t' := fun pins s σ H Q h0 I q => h pins s σ H Q h0 I (f σ H Q q)
theorem pat_imp (h : PAT X es ta) (f : ∀ σ H Q, ta' σ H Q → ta σ H Q) : PAT X es ta' := fun pos pins s σ H Q h0 I q => h pos pins s σ H Q h0 I (f σ H Q q)
theorem pst_imp (h : PST X st ts) (f : ∀ D σ H, ts' D σ H → ts D σ H) : PST X st ts' := fun pins s σ H D h0 I q => h pins s σ H D h0 I (f D σ H q)
theorem psst_imp (h : PSsT X sts ts) (f : ∀ D σ H, ts' D σ H → ts D σ H) : PSsT X sts ts' := fun pins s σ H D h0 I q => h pins s σ H D h0 I (f D σ H q)
theorem pet_lk (h : PET X e t) : PET X e (fun σ H Q => t σ H (LkV Q)) := fun pins s σ H Q h0 I q => thn (h pins s σ H _ h0 I q) fun v s1 ⟨x, H1, I2, r, z⟩ => by
  rcases z with z | ⟨p, u, rfl, hp, mu, z⟩
  · exact ⟨x, H1, I2, r, z⟩
  · obtain ⟨od, I3⟩ := I2.lock hp mu
    exact ⟨_, _, I3, r, z od⟩
theorem pst_lk (h : PST X st ts) : PST X st (LkS ts) := fun pins s σ H D h0 I q => by
  rcases q with q | ⟨p, u, hp, mu, q⟩
  · exact h pins s σ H D h0 I q
  · obtain ⟨od, I3⟩ := I.lock hp mu
    exact h pins s σ _ D h0 I3 (q od)
theorem dT_of (h : PE X e t) : PET X e t := fun pins s σ H Q _ I q => h.run pins s σ H Q I q
theorem dT_anil : PAT X [] (tDA X.K C W aNil) := pat_imp pat_nil fun σ H Q ⟨S, ρ, b, ok, q⟩ => q S H (Same.refl _) ok [] .nil
theorem dT_acons (he : PET X e (tD X.K C W F)) (hr : PAT X es (tDA X.K C W G)) (hs : starEach (e :: es) X.env = (false, eval e X.env) :: starEach es X.env := by rfl) : PAT X (e :: es) (tDA X.K C W (aCons F G)) :=
  pat_imp (pat_cons he hr hs) fun σ H Q ⟨S, ρ, b, ok, q⟩ =>
    ⟨S, ρ, b, ok, q.bind.imp fun d b1 S1 H1 s1 ok1 q1 v r => ⟨S1, ρ, b1, ok1, q1.bind.imp fun ds b2 S2 H2 s2 ok2 q2 vs rs => q2 S2 H2 (Same.refl _) ok2 _ (.cons (r.up s2) rs)⟩⟩
theorem dT_lst (h : PAT X es (tDA X.K C W G)) : PET X (.List es pos) (tDF X.K C W (eLst G)) := pet_imp (pet_lst h) fun σ H Q ⟨S, ρ, b, ok, q⟩ => by
  refine ⟨S, ρ, b, ok, ?_⟩
  unfold eLst at q
  cases hG : G ρ b with
  | stuck => rw [hG] at q; exact q.elim
  | ex c ns ds bx => rw [hG] at q; exact q
  | ok ds b1 =>
    rw [hG] at q
    intro S1 H1 s1 ok1 vs r
    by_cases hl : ds.length ≤ 100000
    · have q : OutF X.K C W S ρ σ Q (if ds.length ≤ 100000 then .ok (.lst ds) b1 else .stuck) := q
      rw [if_pos hl] at q
      refine ⟨small_le (by rw [r.length]; exact hl), fun p hp => ?_⟩
      exact q S1 _ p _ s1 (ok1.fresh hp) (.lst r)
    · have q : OutF X.K C W S ρ σ Q (if ds.length ≤ 100000 then .ok (.lst ds) b1 else .stuck) := q
      rw [if_neg hl] at q
      exact q.elim
theorem dT_share (h : PET X e (tDF X.K C W F)) : PET X e (tD X.K C W F) := pet_imp (pet_lk h) fun σ H Q ⟨S, ρ, b, ok, q⟩ => by
  refine ⟨S, ρ, b, ok, ?_⟩
  cases hF : F ρ b with
  | ok d b' =>
    rw [hF] at q
    intro S' H' p u es of r
    rcases r.how with hw | ⟨mu, hw⟩
    · have q' := q _ _ (es.trans of.same) (of.shareL (u' := lockU default u)) _ ((r.up of.same).dr upd_same)
      rw [hw default, upd_at of.at_] at q'
      exact .inl q'
    · refine .inr ⟨p, u, rfl, of.at_, mu, fun od => ?_⟩
      have q' := q _ _ (es.trans of.same) (of.shareL (u' := lockU od u)) _ ((r.up of.same).dr upd_same)
      rw [hw od] at q'
      exact q'
  | ex c ns ds bx => rw [hF] at q; exact q
  | stuck => rw [hF] at q; exact q
theorem dT_cat (ha : PET X a (tD X.K C W Fa)) (hb : PET X b (tD X.K C W Fb)) : PET X (.BinOp a .Add b pos) (tDF X.K C W (eCat Fa Fb)) := pet_imp (CwR.pet_op op_cat ha hb) fun σ H Q ⟨S, ρ, b0, ok, q⟩ => by
  refine ⟨S, ρ, b0, ok, ?_⟩
  unfold eCat at q
  cases hF : Fa ρ b0 with
  | stuck => rw [hF] at q; exact q.elim
  | ex c ns ds bx => rw [hF] at q; exact q
  | ok d b1 =>
    rw [hF] at q
    intro S1 H1 e1 ok1 v r
    refine ⟨S1, ρ, b1, ok1, ?_⟩
    simp only [bind_ok_] at q
    cases hG : Fb ρ b1 with
    | stuck => rw [hG] at q; exact q.elim
    | ex c ns ds bx => rw [hG] at q; exact fun dx S' H' b sm ok x => q dx S' H' b (fun x y z => sm x y (e1 x y z)) ok x
    | ok e b2 =>
      rw [hG] at q
      simp only [bind_ok_] at q
      intro S2 H2 e2 ok2 w r'
      cases d with
      | lst xs =>
        cases e with
        | lst ys =>
          by_cases hl : xs.length + ys.length ≤ 100000
          · have q : ∀ S' H' p u, Same S S' → OkF X.K C S' ρ b2 σ H' p u → ODR X.K C.ba S' u (.lst (xs ++ ys)) → Q (.ref p) H' := by
              simp only [hl, if_true] at q
              exact q
            cases r with
            | lst h1 h2 =>
              cases r' with
              | lst h3 h4 =>
                exact ⟨_, _, _, _, rfl, rfl, ok2.core.sub _ _ (e2 _ _ h1), ok2.core.sub _ _ h3, by rw [h2.length, h4.length]; exact big_le hl, fun p hp => q S2 _ p _ (fun x y z => e2 x y (e1 x y z)) (ok2.fresh hp) (.lst ((h2.up e2).app h4))⟩
          · simp only [hl, if_false] at q
            exact q.elim
        | _ => exact q.elim
      | _ => cases e <;> exact q.elim
theorem pst_set {i : Nat} {x : Str} {e : Expr} {te : TE} {pos' : Pos} (hN : X.N.Nodup) (hi : X.N[i]? = some x) (hx : Loc X.env.scope x) (he : PET X e te) (hs : swapsWith e (some (.Name x pos')) pos.line X.env = pure false := by rfl) (hf : X.fn x = true ∨ X.env.scope.names.lookup x = some .local := by first | exact .inl rfl | exact .inr rfl | assumption) :
    PST X (.Assign [.Name x pos'] e pos) (tAsg te (gName i)) := by
  intro pins s σ H D h0 I h
  refine wpAny_Assign_Name (thn (he pins s σ H _ h0 I h) fun v s1 ⟨y, H1, I1, r1, q1⟩ => ?_) hs
  exact store_ok I1 hN hi hx r1 (fun s2 I2 => ⟨_, H1, I2, q1⟩) hf
theorem dT_own {i : Nat} (h : PST X st (tAsg (tDF X.K C W F) (gName i))) : PST X st (tDS X.K C W (sOwn F i)) := pst_imp h fun E σ H ⟨S, ρ, b, ok, q⟩ =>
  ⟨S, ρ, b, ok, outF_of q fun ds b S' H' p vs _ q1 o r => q1 S' _ H' (Same.refl _) (o.setOw r)⟩
theorem dT_freeze {i : Nat} (h : PST X st (tDS X.K C W S)) : PST X st (tDS X.K C W (sFreeze i S)) := pst_imp (pst_lk h) fun _ _ _ q => tDS_freeze q
theorem dT_cons (h1 : PST X st (tDS X.K C W S)) (h2 : PSsT X sts (tDS X.K C W Sr)) : PSsT X (st :: sts) (tDS X.K C W (sSeq S Sr)) := psst_imp (psst_cons h1 h2) fun E σ H ⟨S, ρ, b, ok, q⟩ => ⟨S, ρ, b, ok, q.seq⟩
def PE1 (X : Cx) (e : Expr) (t : TE) : Prop :=
  ∀ (pins : List (Addr × Obj)) (s : Shared) (σ : L2.St) (H : Hp) (Q : VK), Inv X pins σ H s → t σ H Q → wpAny (model X.prog X.w) X.A (eval e X.env) (fun v s1 => 1 ≤ s1.toks ∧ EP X pins σ Q v s1) X.xe s
def PA1 (X : Cx) (es : List Expr) (t : TA) : Prop :=
  ∀ (pos : Pos) (pins : List (Addr × Obj)) (s : Shared) (σ : L2.St) (H : Hp) (Q : List V → Hp → Prop), Inv X pins σ H s → t σ H Q → wpAny (model X.prog X.w) X.A (spliced (backTo pos (starEach es X.env))) (fun us s1 => 1 ≤ s1.toks ∧ AP X pins σ Q us s1) X.xe s
def PS1 (X : Cx) (st : Stmt) (t : TS) : Prop :=
  ∀ (pins : List (Addr × Obj)) (s : Shared) (σ : L2.St) (H : Hp) (D : Ends), Inv X pins σ H s → t D σ H → wpAny (model X.prog X.w) X.A (exec st X.env) (fun f s1 => 1 ≤ s1.toks ∧ SP X pins D f s1) X.xe s
theorem pe1_imp (h : PE1 X e t) (f : ∀ σ H Q, t' σ H Q → t σ H Q) : PE1 X e t' := fun pins s σ H Q I q => h pins s σ H Q I (f σ H Q q)
theorem pa1_imp (h : PA1 X es ta) (f : ∀ σ H Q, ta' σ H Q → ta σ H Q) : PA1 X es ta' := fun pos pins s σ H Q I q => h pos pins s σ H Q I (f σ H Q q)
theorem ps1_imp (h : PS1 X st ts) (f : ∀ D σ H, ts' D σ H → ts D σ H) : PS1 X st ts' := fun pins s σ H D I q => h pins s σ H D I (f D σ H q)
theorem pa1_str {c : Str} {j : Nat} {cp : Pos} (hr : PA X es ta) (hs : starEach (.Constant (.str c) j cp :: es) X.env = (false, eval (.Constant (.str c) j cp) X.env) :: starEach es X.env := by rfl) : PA1 X (.Constant (.str c) j cp :: es) (tCons (tC (.str c)) ta) := by
  intro pos pins s σ H Q I h
  rw [hs]
  show wpAny _ _ (spliced ((false, eval (.Constant (.str c) j cp) X.env) :: backTo pos (starEach es X.env))) _ _ s
  refine Calls.spliced_cons (Calls.Constant_str ?_)
  refine wpAny_mono (PySem.wpAny_toks (hr.run pos pins _ σ H _ (I.tok (s.toks + 1)) h)) (fun us s2 q => ?_) fun _ _ z => z.2
  obtain ⟨hk, xs, H2, I2, r2, q2⟩ := q
  have hk : s.toks + 1 ≤ s2.toks := hk
  exact ⟨by omega, V.str c :: xs, H2, I2, .cons (show RelV (V.str c) (Value.str c s.toks) from ⟨s.toks, rfl⟩) r2, q2⟩
theorem pa1_cons (ha : PE X e t) (hr : PA1 X es ta) (hs : starEach (e :: es) X.env = (false, eval e X.env) :: starEach es X.env := by rfl) : PA1 X (e :: es) (tCons t ta) := by
  intro pos pins s σ H Q I h
  rw [hs]
  show wpAny _ _ (spliced ((false, eval e X.env) :: backTo pos (starEach es X.env))) _ _ s
  refine Calls.spliced_cons (thn (ha.run pins s σ H _ I h) fun u s1 ⟨x, H1, I1, r1, q1⟩ => ?_)
  exact thn (hr pos pins s1 σ H1 _ I1 q1) fun us s2 ⟨hk, xs, H2, I2, r2, q2⟩ => ⟨hk, x :: xs, H2, I2, .cons r1 r2, q2⟩
theorem pe1_lst (h : PA1 X es ta) : PE1 X (.List es pos) (tLst ta) := by
  intro pins s σ H Q I hq
  refine wpAny_List_spliced (thn (h pos pins s σ H _ I hq) fun us s1 ⟨hk, xs, H1, I1, r, z, q⟩ => ⟨by rw [← r.length]; exact z, hk, ?_⟩)
  have hf : H1 s1.heap.objs.size = none := I1.hok.fresh (Nat.le_refl _)
  refine ⟨.ref s1.heap.objs.size, upd H1 s1.heap.objs.size (.lst xs), I1.laid (t' := s1.toks) (fun b u e => Heap.get?_push_of_some _ e) (Nat.le_refl _) ?_, rfl, q _ hf⟩
  exact ⟨z, us, 0, r, Heap.get?_push_size _ rfl⟩
theorem ps1_set {i : Nat} {x : Str} {e : Expr} {te : TE} {pos' : Pos} (hN : X.N.Nodup) (hi : X.N[i]? = some x) (hx : Loc X.env.scope x) (he : PE1 X e te) (hs : swapsWith e (some (.Name x pos')) pos.line X.env = pure false := by rfl) (hf : X.fn x = true ∨ X.env.scope.names.lookup x = some .local := by first | exact .inl rfl | exact .inr rfl | assumption) :
    PS1 X (.Assign [.Name x pos'] e pos) (tAsg te (gName i)) := by
  intro pins s σ H D I h
  refine wpAny_Assign_Name (thn (he pins s σ H _ I h) fun v s1 ⟨hk, y, H1, I1, r1, q1⟩ => ?_) hs
  refine wpAny_mono (PySem.wpAny_toks (store_ok (v := y) (u := v) (Q := fun _ s2 => Inv X pins (σ.set i (some y)) H1 s2) I1 hN hi hx r1 (fun _ I2 => I2) hf)) (fun _ s2 q => ?_) fun _ _ z => z.2
  exact ⟨Nat.le_trans hk q.1, _, H1, q.2, q1⟩
theorem pss_cons1 (h1 : PS1 X st ts) (h2 : PSsT X sts us) : PSs X (st :: sts) (tSeq ts us) := by
  refine ⟨fun pins s σ H D I h => ?_⟩
  refine wpAny_execs_cons (thn (h1 pins s σ H { D with nx := us D } I h) fun f s1 q => ?_)
  obtain ⟨hk, q⟩ := q
  cases f with
  | next =>
    obtain ⟨σ', H', I', q⟩ := q
    exact h2 pins s1 σ' H' D hk I' q
  | ret v => exact q
  | brk => exact q
  | cont => exact q
theorem d1_astr {c : Str} {j : Nat} {cp : Pos} (hr : PA X es (tDA X.K C W G)) (hs : starEach (.Constant (.str c) j cp :: es) X.env = (false, eval (.Constant (.str c) j cp) X.env) :: starEach es X.env := by rfl) : PA1 X (.Constant (.str c) j cp :: es) (tDA X.K C W (aCons (eC (.str c)) G)) :=
  pa1_imp (pa1_str hr hs) fun σ H Q ⟨S, ρ, b, ok, q⟩ =>
    ⟨S, ρ, b, ok, (show OutG X.K C W S ρ σ (fun ds _ S' H' => ∀ vs, DRs X.K C.ba S' vs ds → Q vs H') ((G ρ b).bind fun ds b2 => .ok (D.str c :: ds) b2) from q).bind.imp fun ds b2 S2 H2 s2 ok2 q2 vs rs => q2 S2 H2 (Same.refl _) ok2 _ (.cons (.str c) rs)⟩
theorem d1_acons (he : PE X e (tD X.K C W F)) (hr : PA1 X es (tDA X.K C W G)) (hs : starEach (e :: es) X.env = (false, eval e X.env) :: starEach es X.env := by rfl) : PA1 X (e :: es) (tDA X.K C W (aCons F G)) :=
  pa1_imp (pa1_cons he hr hs) fun σ H Q ⟨S, ρ, b, ok, q⟩ =>
    ⟨S, ρ, b, ok, q.bind.imp fun d b1 S1 H1 s1 ok1 q1 v r => ⟨S1, ρ, b1, ok1, q1.bind.imp fun ds b2 S2 H2 s2 ok2 q2 vs rs => q2 S2 H2 (Same.refl _) ok2 _ (.cons (r.up s2) rs)⟩⟩
theorem d1_lst (h : PA1 X es (tDA X.K C W G)) : PE1 X (.List es pos) (tDF X.K C W (eLst G)) := pe1_imp (pe1_lst h) fun σ H Q ⟨S, ρ, b, ok, q⟩ => by
  refine ⟨S, ρ, b, ok, ?_⟩
  unfold eLst at q
  cases hG : G ρ b with
  | stuck => rw [hG] at q; exact q.elim
  | ex c ns ds bx => rw [hG] at q; exact q
  | ok ds b1 =>
    rw [hG] at q
    intro S1 H1 s1 ok1 vs r
    by_cases hl : ds.length ≤ 100000
    · have q : OutF X.K C W S ρ σ Q (if ds.length ≤ 100000 then .ok (.lst ds) b1 else .stuck) := q
      rw [if_pos hl] at q
      refine ⟨small_le (by rw [r.length]; exact hl), fun p hp => ?_⟩
      exact q S1 _ p _ s1 (ok1.fresh hp) (.lst r)
    · have q : OutF X.K C W S ρ σ Q (if ds.length ≤ 100000 then .ok (.lst ds) b1 else .stuck) := q
      rw [if_neg hl] at q
      exact q.elim
theorem d1_own {i : Nat} (h : PS1 X st (tAsg (tDF X.K C W F) (gName i))) : PS1 X st (tDS X.K C W (sOwn F i)) := ps1_imp h fun E σ H ⟨S, ρ, b, ok, q⟩ =>
  ⟨S, ρ, b, ok, outF_of q fun ds b S' H' p vs _ q1 o r => q1 S' _ H' (Same.refl _) (o.setOw r)⟩
theorem d_cons1 (h1 : PS1 X st (tDS X.K C W S)) (h2 : PSsT X sts (tDS X.K C W Sr)) : PSs X (st :: sts) (tDS X.K C W (sSeq S Sr)) := pss_imp (pss_cons1 h1 h2) fun E σ H ⟨S, ρ, b, ok, q⟩ => ⟨S, ρ, b, ok, q.seq⟩
/-- x.replace of written texts: a short text -/
def replF (y z : Str) : D → Option D
  | .str x => if x.length ≤ 1000 ∧ z.length ≤ 1000 then some (.str (Txt.replace x y z)) else none
  | _ => none
theorem dT_repl {o : Expr} {y z : Str} {j k : Nat} {c0 c1 apos : Pos} (ho : PE X o (tD X.K C W F)) (hyz : (y == z) = false := by decide)
    (hst : starEach [.Constant (.str y) j c0, .Constant (.str z) k c1] X.env = [(false, eval (.Constant (.str y) j c0) X.env), (false, eval (.Constant (.str z) k c1) X.env)] := by rfl)
    (hbase : attributeBase o "replace" X.env (eval o X.env) = eval o X.env := by rfl) (hline : (apos.endLine == pos.line) = true := by rfl) :
    PET X (.Call (.Attribute o "replace" apos) [.Constant (.str y) j c0, .Constant (.str z) k c1] [] pos) (tD X.K C W (e1 (replF y z) F)) :=
  pet_imp (CwR.pet_replC ho hyz hst hbase hline) fun σ H Q ⟨S, ρ, b, ok, q⟩ => by
    refine ⟨S, ρ, b, ok, q.bind.imp fun d b1 S1 H1 s1 ok1 q1 v rv => ?_⟩
    obtain ⟨w, hz, q2⟩ := q1.pureO
    unfold replF at hz
    split at hz
    · rename_i x
      by_cases hl : x.length ≤ 1000 ∧ z.length ≤ 1000
      · rw [if_pos hl] at hz
        cases hz
        cases rv
        have : x.length + (x.length + 1) * z.length ≤ 1000 + 1001 * 1000 := Nat.add_le_add hl.1 (Nat.mul_le_mul (by omega) hl.2)
        exact ⟨x, rfl, by omega, q2 S1 H1 (Same.refl _) ok1 _ (.str _)⟩
      · rw [if_neg hl] at hz
        cases hz
    · cases hz
/-- f() -/
theorem d_callH0 {Gd : Around → Prop} {j k : Nat} {ps : List Str} {Fn : DFn} {x : Str} {p : Pos} (h : Has X.prog X.w X.K X.mg X.base Gd j x ps (spD X.K Fn)) (hr : Room k X.A) (hj : j ≤ k) (hgd : Gd X.A) (hg : Gl X x)
    (tk : Takes X W) (hdb : (x == ("__debug__" : Str)) = false := by decide) : PE X (.Call (.Name x p) [] [] pos) (tD X.K C W (eCall Fn aNil)) := by
  obtain ⟨f, fd, FO, hm, hk, hb⟩ := h
  refine ⟨fun pins s σ H Q I ⟨S, ρ, b, ok, q⟩ => ?_⟩
  have q : OutG X.K C W S ρ σ (fun d _ S' H' => ∀ v, DR X.K C.ba S' v d → Q v H') (Fn [] b) := q
  have sp := spD_of ok .nil q
  have hl := FO.many _ _ _ _ sp
  have bt := hb s [] I.kIn (by simpa using hl)
  exact wpAny_Call_Name_kw (ld_glob I hg hm (PySem.W.callWith_K0 I.kIn hk (FO.at_ (hr.mono hj) hgd tk I (by simpa using bt) .nil sp)) hdb)
end
end DL

set_option maxHeartbeats 2000000
namespace DL
open PySem PySem.Spec PyProof.Rows L2
def G__law_bank : SF := (sSeq (sAsg (eTup (aCons (eC (.str "machine ab\nstate 1 0 1\nstate 2 0 2\nstate 1 2 2")) (aCons (eC (.str "machine ab\nstate 0 0 1\nstate 1 1 1")) aNil))) (gT 2 (gsC (gN 0) (gsC (gN 1) gsN)))) (sSeq (sAsg (eC (.str "machine ab\nstate 0 0 1\nstate 0 0 2\nstate 1 2 2")) (gN 2)) (sSeq (sAsg (eC (.str "machine ab\nstate 1 0 1\nstate 2 0 2\nstate 0 2 2")) (gN 3)) (sRet (eLst (aCons (eTup (aCons (eTup (aCons (eC (.str "holds")) (aCons (eV 0) (aCons (eTup (aCons (eC (.str "again")) aNil)) aNil)))) (aCons (eTup aNil) aNil))) (aCons (eTup (aCons (eTup (aCons (eC (.str "fails")) (aCons (eV 0) (aCons (eTup (aCons (eC (.str "guard")) aNil)) aNil)))) (aCons (eTup aNil) aNil))) (aCons (eTup (aCons (eTup (aCons (eC (.str "holds")) (aCons (eV 0) (aCons (eTup (aCons (eC (.str "in")) (aCons (eTup (aCons (eC (.str "")) (aCons (eC (.str "ab")) aNil))) aNil))) aNil)))) (aCons (eTup aNil) aNil))) (aCons (eTup (aCons (eTup (aCons (eC (.str "fails")) (aCons (eV 0) (aCons (eTup (aCons (eC (.str "bad")) (aCons (eC (.str "ab")) aNil))) aNil)))) (aCons (eTup aNil) aNil))) (aCons (eTup (aCons (eTup (aCons (eC (.str "holds")) (aCons (eV 0) (aCons (eTup (aCons (eC (.str "depth")) (aCons (eC (.int 2)) aNil))) aNil)))) (aCons (eTup aNil) aNil))) (aCons (eTup (aCons (eTup (aCons (eC (.str "holds")) (aCons (eV 2) (aCons (eTup (aCons (eC (.str "like")) (aCons (eV 2) aNil))) aNil)))) (aCons (eTup aNil) aNil))) (aCons (eTup (aCons (eTup (aCons (eC (.str "same")) (aCons (eV 0) (aCons (eV 0) aNil)))) (aCons (eTup aNil) aNil))) (aCons (eTup (aCons (eTup (aCons (eC (.str "inside")) (aCons (eV 0) (aCons (eV 2) aNil)))) (aCons (eTup aNil) aNil))) (aCons (eTup (aCons (eTup (aCons (eC (.str "step")) (aCons (eV 2) (aCons (eV 3) aNil)))) (aCons (eTup aNil) aNil))) (aCons (eTup (aCons (eTup (aCons (eC (.str "parted")) (aCons (eV 0) (aCons (eV 1) aNil)))) (aCons (eTup (aCons (eC (.str "")) (aCons (eC (.str "a")) aNil))) aNil))) (aCons (eTup (aCons (eTup (aCons (eC (.str "breaks")) (aCons (eV 1) (aCons (eV 0) aNil)))) (aCons (eTup (aCons (eC (.str "")) (aCons (eC (.str "a")) aNil))) aNil))) (aCons (eTup (aCons (eTup (aCons (eC (.str "jams")) (aCons (eV 1) (aCons (eV 0) aNil)))) (aCons (eC (.str "")) aNil))) (aCons (eTup (aCons (eTup (aCons (eC (.str "open")) (aCons (eV 0) (aCons (eC (.str "ab")) aNil)))) (aCons (eTup (aCons (eTup (aCons (eC (.str "ab")) (aCons (eC (.str "ab")) aNil))) (aCons (eTup (aCons (eC (.str "abb")) (aCons (eC (.str "a")) aNil))) aNil))) aNil))) (aCons (eTup (aCons (eTup (aCons (eC (.str "notstays")) (aCons (eV 0) aNil))) (aCons (eTup (aCons (eC (.str "")) (aCons (eC (.str "a")) (aCons (eC (.str "ba")) aNil)))) aNil))) (aCons (eTup (aCons (eTup (aCons (eC (.str "notagain")) (aCons (eC (.str "machine ab\nstate 0 0 1\nstate 1 0 0")) aNil))) (aCons (eTup (aCons (eC (.str "")) (aCons (eC (.str "a")) (aCons (eC (.str "ba")) aNil)))) aNil))) aNil))))))))))))))))))))
def F__law_bank : DFn := runD 4 0 (G__law_bank)
def G__law_bent : SF := (sSeq (sPar3 3 4 5 (aCons (eCall (F__law_dip) (aCons (eV 0) (aCons (eB lenF (aCons (eV 1) aNil)) aNil))) (aCons (eCall (F__law_dip) (aCons (eV 0) (aCons (eC (.int 9)) aNil))) (aCons (eIx (eV 2) (eCall (F__law_dip) (aCons (eV 0) (aCons (eB lenF (aCons (eV 2) aNil)) aNil)))) aNil)))) (sSeq (sIf (bB (e2 ltF (eV 4) (eC (.int 5)))) (sRet (e2 addF (e2 addF (eSl (eV 1) oNo (oSome (eV 3))) (eTup (aCons (eV 5) aNil))) (eSl (eV 1) (oSome (e2 addF (eV 3) (eC (.int 1)))) oNo))) sNil) (sSeq (sIf (bB (e2 eqF (eV 4) (eC (.int 5)))) (sRet (e2 addF (eSl (eV 1) oNo (oSome (eV 3))) (eSl (eV 1) (oSome (e2 addF (eV 3) (eC (.int 1)))) oNo))) sNil) (sSeq (sIf (bB (e2 eqF (eV 4) (eC (.int 6)))) (sRet (e2 addF (e2 addF (eSl (eV 1) oNo (oSome (eV 3))) (eTup (aCons (eV 5) aNil))) (eSl (eV 1) (oSome (eV 3)) oNo))) sNil) (sRet (eIf (bB (e2 eqF (eV 4) (eC (.int 7)))) (eListS (eV 1)) (e2 addF (eV 1) (eTup (aCons (eV 5) aNil)))))))))
def F__law_bent : DFn := runD 6 3 (G__law_bent)
end DL

set_option maxHeartbeats 2000000
namespace DL
open PySem PySem.Spec PyProof.Rows L2
theorem hu1 {A : Around} (h : A.units + 64 < cLine) : A.units + 1 < cLine := by omega
section
variable {X : Cx} {C : Cq} {W : WX} {E : XK} {e : Expr} {es : List Expr} {pos p : Pos} {F : EF} {G : AF} {x : Str}
theorem d_propG {A : Addr} {f pr : Str} {k : Nat} (he : PE X e (tD X.K C W F)) (c : Cls X.K A) (h : Getter X.K A pr f) (hr : Room k X.A) (hj : 2 ≤ k) (hab : attributeBase e pr X.env (eval e X.env) = eval e X.env := by rfl) : PE X (.Attribute e pr pos) (tD X.K C W (e1 (fldF A f) F)) := by
  obtain ⟨pp, g, fd, hp, FO, hb⟩ := h
  exact d_prop he c hp (FO _ _ _ _) (hr.mono hj) hb hab
end
section
variable {P : Program} {w : World} {K : PySem.W.Frag} {mg : Str → Option Value} {base : Heap} {M fa : Addr} {fd : FuncData}
def N__law_cell : List Str := ["_law_cells", "_law_k", "_law_made", "_law_own"]
def P__law_cell : List Str := ["_law_cells", "_law_k"]
theorem sc__law_cell : FnScope N__law_cell P__law_cell (defScope s__law_cell) := ⟨rfl, rfl, rfl, by decide +kernel, rfl, by decide +kernel, by decide +kernel⟩
theorem ok__law_cell (T : Facts K mg M) (Fu : Fun K "_law_cell" "_law_cell" s__law_cell fa fd) : FnG P w K mg base GT 1 fa fd P__law_cell (spD K (F__law_cell)) := by
  refine d_def (N := N__law_cell) (ps := P__law_cell) (G := G__law_cell) Fu sc__law_cell fun cdv A outer s H E C hr hg => ?_
  have nd := sc__law_cell.nd
  have hu := hr.units
  exact (d_cons (d_sif (t_lt (d_var (pv 1)) (d_len rfl T.m_len (d_acons (d_var (pv 0)) d_anil))) (d_one (d_ret (d_ix (d_var (pv 0)) (d_var (pv 1)) (fun _ _ => rfl)))) d_nil) (d_cons (d_set (ps_set (i := 2) nd rfl (Or.inl rfl) (d_add (d_const pe_int fun _ => .int _) (d_mul (d_const pe_int fun _ => .int _) (d_var (pv 1)))))) (d_cons (d_for (passes_of rfl) rfl (d_iany (d_slice (d_var (pv 0)) d_ono (d_osome (d_const pe_int fun _ => .int _)))) (d_gname (pg_name (i := 3) nd rfl (Or.inl rfl))) (d_one (d_set (ps_set (i := 2) nd rfl (Or.inl rfl) (d_mod (d_int rfl T.m_int (d_acons (d_add (d_add (d_mul (d_var (pv 2)) (d_const pe_int fun _ => .int _)) (d_mul (d_var (pv 3)) (d_const pe_int fun _ => .int _))) (d_var (pv 1))) d_anil)) (d_const pe_int fun _ => .int _)))))) (d_one (d_ret (d_var (pv 2)))))))
def N_is_letters : List Str := ["value", "in_bounds", "letter", "low", "high"]
def P_is_letters : List Str := ["value"]
theorem sc_is_letters : FnScope N_is_letters P_is_letters (defScope s_is_letters) := ⟨rfl, rfl, rfl, by decide +kernel, rfl, by decide +kernel, by decide +kernel⟩
theorem ok_is_letters (T : Facts K mg M) (Fu : Fun K "is_letters" "is_letters" s_is_letters fa fd) : FnG P w K mg base GT 1 fa fd P_is_letters (spD K (F_is_letters M)) := by
  refine d_def (N := N_is_letters) (ps := P_is_letters) (G := G_is_letters M) Fu sc_is_letters fun cdv A outer s H E C hr hg => ?_
  have nd := sc_is_letters.nd
  have hu := hr.units
  exact (d_cons (d_sif (PW.pt (d_or (d_not (d_tval (d_isi (.ty _) (fun _ _ h => kit_ty h) (fun A b h => T.own T.k_str h) rfl T.m_isinstance (d_acons (d_var (pv 0)) (d_acons (d_tyn rfl T.m_str (by decide +kernel)) d_anil))) (fun _ => rfl))) (pw_or1 (d_not (t_lele (d_const pe_int fun _ => .int _) (d_len rfl T.m_len (d_acons (d_var (pv 0)) d_anil)) (d_inte rfl T.m_MOST_LETTERS)))))) (d_one (d_ret (d_const pe_bl fun _ => .bl _))) d_nil) (d_cons (d_set (ps_set (i := 1) nd rfl (Or.inl rfl) (d_all rfl rfl T.m_all (d_acons (d_share (d_lc (ctg_name (i := 2) (by decide)) (pe_lc (own := [("letter", 2)]) rfl nd (d_iany (d_var (pv 0))) (blkOk_by (N := N_is_letters) (sc := defScope s_is_letters) (by decide +kernel)) (fun _ _ _ _ _ => (pg_name (i := 2) nd rfl (Or.inl rfl))) (fun _ _ _ _ _ => d_tsany fun C => d_tsnil) (fun _ _ _ _ _ => d_any fun C => (d_in (d_var (pv 2)) (d_stre rfl T.m_ALPHABET)))))) d_anil)))) (d_one (d_ret (d_eand (d_var (pv 1)) (pe_one (d_all rfl rfl T.m_all (d_acons (d_share (d_lc (ctg_pair (i := 3) (j := 4) (by decide) (by decide)) (pe_lc (own := [("low", 3), ("high", 4)]) rfl nd (d_izipS rfl T.m_zip (d_acons (d_var (pv 0)) (d_acons (d_slice (d_var (pv 0)) (d_osome (d_const pe_int fun _ => .int _)) d_ono) d_anil))) (blkOk_by (N := N_is_letters) (sc := defScope s_is_letters) (by decide +kernel)) (fun _ _ _ _ _ => (pg_tup rfl (pgs_cons (pg_name (i := 3) nd rfl (Or.inl rfl)) (pgs_cons (pg_name (i := 4) nd rfl (Or.inl rfl)) pgs_nil rfl) rfl) rfl rfl)) (fun _ _ _ _ _ => d_tsany fun C => d_tsnil) (fun _ _ _ _ _ => d_any fun C => (d_lt (d_var (pv 3)) (d_var (pv 4))))))) d_anil))))))))
def N_is_number : List Str := ["value", "most"]
def P_is_number : List Str := ["value", "most"]
theorem sc_is_number : FnScope N_is_number P_is_number (defScope s_is_number) := ⟨rfl, rfl, rfl, by decide +kernel, rfl, by decide +kernel, by decide +kernel⟩
theorem ok_is_number (T : Facts K mg M) (Fu : Fun K "is_number" "is_number" s_is_number fa fd) : FnG P w K mg base GT 1 fa fd P_is_number (spD K (F_is_number M)) := by
  refine d_def (N := N_is_number) (ps := P_is_number) (G := G_is_number M) Fu sc_is_number fun cdv A outer s H E C hr hg => ?_
  have nd := sc_is_number.nd
  have hu := hr.units
  exact (d_one (d_ret (d_eand (d_isi (.ty _) (fun _ _ h => kit_ty h) (fun A b h => T.own T.k_int h) rfl T.m_isinstance (d_acons (d_var (pv 0)) (d_acons (d_tyn rfl T.m_int (by decide +kernel)) d_anil))) (d_eand (d_enot (d_isi (.ty _) (fun _ _ h => kit_ty h) (fun A b h => T.own T.k_bool h) rfl T.m_isinstance (d_acons (d_var (pv 0)) (d_acons (d_tyn rfl T.m_bool (by decide +kernel)) d_anil)))) (pe_one (d_lele (d_const pe_int fun _ => .int _) (d_var (pv 0)) (d_var (pv 1))))))))
def N_is_state : List Str := ["value", "width", "count", "colour", "following", "number"]
def P_is_state : List Str := ["value", "width", "count"]
theorem sc_is_state : FnScope N_is_state P_is_state (defScope s_is_state) := ⟨rfl, rfl, rfl, by decide +kernel, rfl, by decide +kernel, by decide +kernel⟩
theorem ok_is_state (T : Facts K mg M) (Fu : Fun K "is_state" "is_state" s_is_state fa fd) (H_is_number : Has P w K mg base GT 1 "is_number" P_is_number (spD K (F_is_number M))) : FnG P w K mg base GT 2 fa fd P_is_state (spD K (F_is_state M)) := by
  refine d_def (N := N_is_state) (ps := P_is_state) (G := G_is_state M) Fu sc_is_state fun cdv A outer s H E C hr hg => ?_
  have nd := sc_is_state.nd
  have hu := hr.units
  exact (d_cons (d_sif (PW.pt (d_or (d_not (d_tval (d_isi (.ty _) (fun _ _ h => kit_ty h) (fun A b h => T.own T.k_tuple h) rfl T.m_isinstance (d_acons (d_var (pv 0)) (d_acons (d_tyn rfl T.m_tuple (by decide +kernel)) d_anil))) (fun _ => rfl))) (pw_or1 (t_ne hu (d_len rfl T.m_len (d_acons (d_var (pv 0)) d_anil)) (d_const pe_int fun _ => .int _))))) (d_one (d_ret (d_const pe_bl fun _ => .bl _))) d_nil) (d_cons (d_asg (d_var (pv 0)) (d_gtup rfl (d_gcons (d_gname (pg_name (i := 3) nd rfl (Or.inl rfl))) (d_gcons (d_gname (pg_name (i := 4) nd rfl (Or.inl rfl))) d_gnil)))) (d_cons (d_sif (PW.pt (d_or (d_not (d_tval (d_callH (k := 1) H_is_number hr (by decide) trivial rfl (takes_of rfl rfl rfl rfl) (d_acons (d_var (pv 3)) (d_acons (d_inte rfl T.m_MOST_COLOUR) d_anil))) (fun _ => rfl))) (d_or (d_not (d_tval (d_isi (.ty _) (fun _ _ h => kit_ty h) (fun A b h => T.own T.k_tuple h) rfl T.m_isinstance (d_acons (d_var (pv 4)) (d_acons (d_tyn rfl T.m_tuple (by decide +kernel)) d_anil))) (fun _ => rfl))) (pw_or1 (t_ne hu (d_len rfl T.m_len (d_acons (d_var (pv 4)) d_anil)) (d_var (pv 1))))))) (d_one (d_ret (d_const pe_bl fun _ => .bl _))) d_nil) (d_one (d_ret (d_all rfl rfl T.m_all (d_acons (d_share (d_lc (ctg_name (i := 5) (by decide)) (pe_lc (own := [("number", 5)]) rfl nd (d_iany (d_var (pv 4))) (blkOk_by (N := N_is_state) (sc := defScope s_is_state) (by decide +kernel)) (fun _ _ _ _ _ => (pg_name (i := 5) nd rfl (Or.inl rfl))) (fun _ _ _ _ _ => d_tsany fun C => d_tsnil) (fun _ _ _ _ _ => d_any fun C => (d_callH (k := 1) H_is_number hr (by decide) trivial rfl takes0 (d_acons (d_var (pv 5)) (d_acons (d_sub (d_var (pv 2)) (d_const pe_int fun _ => .int _)) d_anil))))))) d_anil)))))))
def N_first_wrong_state : List Str := ["letters", "states", "index", "state"]
def P_first_wrong_state : List Str := ["letters", "states"]
theorem sc_first_wrong_state : FnScope N_first_wrong_state P_first_wrong_state (defScope s_first_wrong_state) := ⟨rfl, rfl, rfl, by decide +kernel, rfl, by decide +kernel, by decide +kernel⟩
theorem ok_first_wrong_state (T : Facts K mg M) (Fu : Fun K "first_wrong_state" "first_wrong_state" s_first_wrong_state fa fd) (H_is_state : Has P w K mg base GT 2 "is_state" P_is_state (spD K (F_is_state M))) : FnG P w K mg base GT 3 fa fd P_first_wrong_state (spD K (F_first_wrong_state M)) := by
  refine d_def (N := N_first_wrong_state) (ps := P_first_wrong_state) (G := G_first_wrong_state M) Fu sc_first_wrong_state fun cdv A outer s H E C hr hg => ?_
  have nd := sc_first_wrong_state.nd
  have hu := hr.units
  exact (d_cons (d_for (passes_of rfl) rfl (d_ienumT rfl T.m_enumerate (d_acons (d_var (pv 1)) d_anil)) (d_gtup rfl (d_gcons (d_gname (pg_name (i := 2) nd rfl (Or.inl rfl))) (d_gcons (d_gname (pg_name (i := 3) nd rfl (Or.inl rfl))) d_gnil))) (d_one (d_sif (PW.pt (d_or (t_eq hu (d_var (pv 2)) (d_inte rfl T.m_MOST_STATES)) (pw_or1 (d_not (d_tval (d_callH (k := 2) H_is_state hr (by decide) trivial rfl (takes_of rfl rfl rfl rfl) (d_acons (d_var (pv 3)) (d_acons (d_len rfl T.m_len (d_acons (d_var (pv 0)) d_anil)) (d_acons (d_len rfl T.m_len (d_acons (d_var (pv 1)) d_anil)) d_anil)))) (fun _ => rfl)))))) (d_one (d_ret (d_var (pv 2)))) d_nil))) (d_one (d_ret (d_neg (d_const pe_int fun _ => .int _)))))
def N_Machine_init : List Str := ["self", "letters", "states", "wrong"]
def P_Machine_init : List Str := ["self", "letters", "states"]
theorem sc_Machine_init : FnScope N_Machine_init P_Machine_init (defScope s_Machine_init) := ⟨rfl, rfl, rfl, by decide +kernel, rfl, by decide +kernel, by decide +kernel⟩
theorem ok_Machine_init (T : Facts K mg M) (Fu : Fun K "__init__" "Machine.__init__" s_Machine_init fa fd) (H_first_wrong_state : Has P w K mg base GT 3 "first_wrong_state" P_first_wrong_state (spD K (F_first_wrong_state M))) (H_is_letters : Has P w K mg base GT 1 "is_letters" P_is_letters (spD K (F_is_letters M))) (HX_InvalidStates : HasX P w K mg base "InvalidStates" "index") (HX_InvalidLetters : HasX P w K mg base "InvalidLetters" "given") : FnG P w K mg base GT 4 fa fd P_Machine_init (spI K M (Fx_Machine M)) := by
  refine d_init (N := N_Machine_init) (ps := P_Machine_init) (F := G_Machine_init M) Fu sc_Machine_init fun y cdv Ar outer s H E C hr hg => ?_
  have nd := sc_Machine_init.nd
  have hu := hr.units
  exact (i_cons (fun C => (d_sif (d_not (d_tval (d_callH (k := 3) H_is_letters hr (by decide) trivial rfl (takes_of rfl rfl rfl rfl) (d_acons (d_var (pv 1)) d_anil)) (fun _ => rfl))) (d_one (d_raise HX_InvalidLetters (hr.mono (by decide)) rfl (takes_of rfl rfl rfl rfl) rfl (d_var (pv 1)))) d_nil)) (i_cons (fun C => (d_sif (PW.pt (d_or (d_not (d_tval (d_isi (.ty _) (fun _ _ h => kit_ty h) (fun A b h => T.own T.k_tuple h) rfl T.m_isinstance (d_acons (d_var (pv 2)) (d_acons (d_tyn rfl T.m_tuple (by decide +kernel)) d_anil))) (fun _ => rfl))) (pw_or1 (t_eq hu (d_len rfl T.m_len (d_acons (d_var (pv 2)) d_anil)) (d_const pe_int fun _ => .int _))))) (d_one (d_raise HX_InvalidStates (hr.mono (by decide)) rfl (takes_of rfl rfl rfl rfl) rfl (d_const pe_non fun _ => .non))) d_nil)) (i_cons (fun C => (d_set (ps_set (i := 3) nd rfl (Or.inl rfl) (d_callH (k := 3) H_first_wrong_state hr (by decide) trivial rfl (takes_of rfl rfl rfl rfl) (d_acons (d_var (pv 1)) (d_acons (d_var (pv 2)) d_anil)))))) (i_cons (fun C => (d_sif (t_ge (d_var (pv 3)) (d_const pe_int fun _ => .int _)) (d_one (d_raise HX_InvalidStates (hr.mono (by decide)) rfl (takes_of rfl rfl rfl rfl) rfl (d_var (pv 3)))) d_nil)) (i_store (pv 0) (fun C => (d_var (pv 1))) T.cM T.n_letters (i_store (pv 0) (fun C => (d_var (pv 2))) T.cM T.n_states i_nil))))))
def HasM (P : Program) (w : World) (K : PySem.W.Frag) (mg : Str → Option Value) (base : Heap) (M : Addr) : Prop := ∃ f fd, Mk K M f ∧ FnG P w K mg base GT 4 f fd P_Machine_init (spI K M (Fx_Machine M)) ∧ Binds K fd P_Machine_init []
theorem d_makeH {X : Cx} {C : Cq} {E : XK} {e : Expr} {es : List Expr} {pos p : Pos} {G : AF} {k : Nat} {x : Str} (h : HasM X.prog X.w X.K X.mg X.base M) (hr : Room k X.A) (hj : 5 ≤ k) (hg : Gl X x) (hm : X.mg x = some (.ref M)) (hx : Passes (L2.CX X.prog X.w) X E)
    (ha : PA X (e :: es) (tDA X.K C (WD E) G)) (hdb : (x == ("__debug__" : Str)) = false := by decide) (he : starEach (e :: es) X.env = (false, eval e X.env) :: starEach es X.env := by rfl) (hpl : (backTo pos (starEach es X.env)).any (·.1) = false := by rfl) :
    PE X (.Call (.Name x p) (e :: es) [] pos) (tD X.K C (WD E) (eMake M (Fm_Machine M) G)) := by
  obtain ⟨f, fd, hM, FO, hb⟩ := h
  exact d_make hM FO.fnok (fm_ok M) (hr.mono hj) hg hm hb hx ha hdb he hpl
theorem d_makeLH {X : Cx} {C : Cq} {E : XK} {e : Expr} {es : List Expr} {pos p : Pos} {G : AF} {k i : Nat} {x : Str} (h : HasM X.prog X.w X.K X.mg X.base M) (hr : Room k X.A) (hj : 5 ≤ k) (hN : X.N[i]? = some x) (hv : Vis X.env.scope x) (hx : Passes (L2.CX X.prog X.w) X E)
    (ha : PA X (e :: es) (tDA X.K C (WD E) G)) (hdb : (x == ("__debug__" : Str)) = false := by decide) (hcd : (x == ("__classdict__" : Str)) = false := by decide) (he : starEach (e :: es) X.env = (false, eval e X.env) :: starEach es X.env := by rfl) (hpl : (backTo pos (starEach es X.env)).any (·.1) = false := by rfl) :
    PE X (.Call (.Name x p) (e :: es) [] pos) (tD X.K C (WD E) (eMakeL i M (Fm_Machine M) G)) := by
  obtain ⟨f, fd, hM, FO, hb⟩ := h
  exact d_makeL hM FO.fnok (fm_ok M) (hr.mono hj) hN hv hb hx ha hdb hcd he hpl
def N__law_bank : List Str := ["_law_rare", "_law_calm", "_law_safe", "_law_mild"]
def P__law_bank : List Str := []
theorem sc__law_bank : FnScope N__law_bank P__law_bank (defScope s__law_bank) := ⟨rfl, rfl, rfl, by decide +kernel, rfl, by decide +kernel, by decide +kernel⟩
theorem ok__law_bank (T : Facts K mg M) (Fu : Fun K "_law_bank" "_law_bank" s__law_bank fa fd) : FnG P w K mg base GT 1 fa fd P__law_bank (spD K (F__law_bank)) := by
  refine d_def (N := N__law_bank) (ps := P__law_bank) (G := G__law_bank) Fu sc__law_bank fun cdv A outer s H E C hr hg => ?_
  have nd := sc__law_bank.nd
  have hu := hr.units
  exact (d_cons (d_asg (d_tup (d_acons (d_const pe_str fun _ => .str _) (d_acons (d_const pe_str fun _ => .str _) d_anil))) (d_gtup rfl (d_gcons (d_gname (pg_name (i := 0) nd rfl (Or.inl rfl))) (d_gcons (d_gname (pg_name (i := 1) nd rfl (Or.inl rfl))) d_gnil)))) (d_cons (d_set (ps_set (i := 2) nd rfl (Or.inl rfl) (d_const pe_str fun _ => .str _))) (d_cons (d_set (ps_set (i := 3) nd rfl (Or.inl rfl) (d_const pe_str fun _ => .str _))) (d_one (d_ret (d_share (d_lst (d_acons (d_tup (d_acons (d_tup (d_acons (d_const pe_str fun _ => .str _) (d_acons (d_var (pv 0)) (d_acons (d_tup (d_acons (d_const pe_str fun _ => .str _) d_anil)) d_anil)))) (d_acons (d_tup d_anil) d_anil))) (d_acons (d_tup (d_acons (d_tup (d_acons (d_const pe_str fun _ => .str _) (d_acons (d_var (pv 0)) (d_acons (d_tup (d_acons (d_const pe_str fun _ => .str _) d_anil)) d_anil)))) (d_acons (d_tup d_anil) d_anil))) (d_acons (d_tup (d_acons (d_tup (d_acons (d_const pe_str fun _ => .str _) (d_acons (d_var (pv 0)) (d_acons (d_tup (d_acons (d_const pe_str fun _ => .str _) (d_acons (d_tup (d_acons (d_const pe_str fun _ => .str _) (d_acons (d_const pe_str fun _ => .str _) d_anil))) d_anil))) d_anil)))) (d_acons (d_tup d_anil) d_anil))) (d_acons (d_tup (d_acons (d_tup (d_acons (d_const pe_str fun _ => .str _) (d_acons (d_var (pv 0)) (d_acons (d_tup (d_acons (d_const pe_str fun _ => .str _) (d_acons (d_const pe_str fun _ => .str _) d_anil))) d_anil)))) (d_acons (d_tup d_anil) d_anil))) (d_acons (d_tup (d_acons (d_tup (d_acons (d_const pe_str fun _ => .str _) (d_acons (d_var (pv 0)) (d_acons (d_tup (d_acons (d_const pe_str fun _ => .str _) (d_acons (d_const pe_int fun _ => .int _) d_anil))) d_anil)))) (d_acons (d_tup d_anil) d_anil))) (d_acons (d_tup (d_acons (d_tup (d_acons (d_const pe_str fun _ => .str _) (d_acons (d_var (pv 2)) (d_acons (d_tup (d_acons (d_const pe_str fun _ => .str _) (d_acons (d_var (pv 2)) d_anil))) d_anil)))) (d_acons (d_tup d_anil) d_anil))) (d_acons (d_tup (d_acons (d_tup (d_acons (d_const pe_str fun _ => .str _) (d_acons (d_var (pv 0)) (d_acons (d_var (pv 0)) d_anil)))) (d_acons (d_tup d_anil) d_anil))) (d_acons (d_tup (d_acons (d_tup (d_acons (d_const pe_str fun _ => .str _) (d_acons (d_var (pv 0)) (d_acons (d_var (pv 2)) d_anil)))) (d_acons (d_tup d_anil) d_anil))) (d_acons (d_tup (d_acons (d_tup (d_acons (d_const pe_str fun _ => .str _) (d_acons (d_var (pv 2)) (d_acons (d_var (pv 3)) d_anil)))) (d_acons (d_tup d_anil) d_anil))) (d_acons (d_tup (d_acons (d_tup (d_acons (d_const pe_str fun _ => .str _) (d_acons (d_var (pv 0)) (d_acons (d_var (pv 1)) d_anil)))) (d_acons (d_tup (d_acons (d_const pe_str fun _ => .str _) (d_acons (d_const pe_str fun _ => .str _) d_anil))) d_anil))) (d_acons (d_tup (d_acons (d_tup (d_acons (d_const pe_str fun _ => .str _) (d_acons (d_var (pv 1)) (d_acons (d_var (pv 0)) d_anil)))) (d_acons (d_tup (d_acons (d_const pe_str fun _ => .str _) (d_acons (d_const pe_str fun _ => .str _) d_anil))) d_anil))) (d_acons (d_tup (d_acons (d_tup (d_acons (d_const pe_str fun _ => .str _) (d_acons (d_var (pv 1)) (d_acons (d_var (pv 0)) d_anil)))) (d_acons (d_const pe_str fun _ => .str _) d_anil))) (d_acons (d_tup (d_acons (d_tup (d_acons (d_const pe_str fun _ => .str _) (d_acons (d_var (pv 0)) (d_acons (d_const pe_str fun _ => .str _) d_anil)))) (d_acons (d_tup (d_acons (d_tup (d_acons (d_const pe_str fun _ => .str _) (d_acons (d_const pe_str fun _ => .str _) d_anil))) (d_acons (d_tup (d_acons (d_const pe_str fun _ => .str _) (d_acons (d_const pe_str fun _ => .str _) d_anil))) d_anil))) d_anil))) (d_acons (d_tup (d_acons (d_tup (d_acons (d_const pe_str fun _ => .str _) (d_acons (d_var (pv 0)) d_anil))) (d_acons (d_tup (d_acons (d_const pe_str fun _ => .str _) (d_acons (d_const pe_str fun _ => .str _) (d_acons (d_const pe_str fun _ => .str _) d_anil)))) d_anil))) (d_acons (d_tup (d_acons (d_tup (d_acons (d_const pe_str fun _ => .str _) (d_acons (d_const pe_str fun _ => .str _) d_anil))) (d_acons (d_tup (d_acons (d_const pe_str fun _ => .str _) (d_acons (d_const pe_str fun _ => .str _) (d_acons (d_const pe_str fun _ => .str _) d_anil)))) d_anil))) d_anil))))))))))))))))))))))
def N_told_letters : List Str := ["row", "words"]
def P_told_letters : List Str := ["row"]
theorem sc_told_letters : FnScope N_told_letters P_told_letters (defScope s_told_letters) := ⟨rfl, rfl, rfl, by decide +kernel, rfl, by decide +kernel, by decide +kernel⟩
theorem ok_told_letters (T : Facts K mg M) (Fu : Fun K "told_letters" "told_letters" s_told_letters fa fd) : FnG P w K mg base GT 1 fa fd P_told_letters (spD K (F_told_letters)) := by
  refine d_def (N := N_told_letters) (ps := P_told_letters) (G := G_told_letters) Fu sc_told_letters fun cdv A outer s H E C hr hg => ?_
  have nd := sc_told_letters.nd
  have hu := hr.units
  exact (d_cons (d_set (ps_set (i := 1) nd rfl (Or.inl rfl) (d_bm PySem.F.slot_str_split PySem.F.type_str_split mt_split m_split (d_var (pv 0)) (d_acons (d_const pe_str fun _ => .str _) d_anil)))) (d_cons (d_sif (PW.pt (d_or (t_ne hu (d_ix (d_var (pv 1)) (d_const pe_int fun _ => .int _) (fun _ _ => rfl)) (d_const pe_str fun _ => .str _)) (pw_or1 (t_ne hu (d_len rfl T.m_len (d_acons (d_var (pv 1)) d_anil)) (d_const pe_int fun _ => .int _))))) (d_one (d_ret (d_const pe_non fun _ => .non))) d_nil) (d_one (d_ret (d_ix (d_var (pv 1)) (d_const pe_int fun _ => .int _) (fun _ _ => rfl))))))
def N_told_state : List Str := ["row", "words", "numbers", "word"]
def P_told_state : List Str := ["row"]
theorem sc_told_state : FnScope N_told_state P_told_state (defScope s_told_state) := ⟨rfl, rfl, rfl, by decide +kernel, rfl, by decide +kernel, by decide +kernel⟩
theorem ok_told_state (T : Facts K mg M) (Fu : Fun K "told_state" "told_state" s_told_state fa fd) : FnG P w K mg base GT 1 fa fd P_told_state (spD K (F_told_state)) := by
  refine d_def (N := N_told_state) (ps := P_told_state) (G := G_told_state) Fu sc_told_state fun cdv A outer s H E C hr hg => ?_
  have nd := sc_told_state.nd
  have hu := hr.units
  exact (d_cons (d_set (ps_set (i := 1) nd rfl (Or.inl rfl) (d_bm PySem.F.slot_str_split PySem.F.type_str_split mt_split m_split (d_var (pv 0)) (d_acons (d_const pe_str fun _ => .str _) d_anil)))) (d_cons (d_sif (PW.pt (d_or (t_ne hu (d_ix (d_var (pv 1)) (d_const pe_int fun _ => .int _) (fun _ _ => rfl)) (d_const pe_str fun _ => .str _)) (pw_or1 (t_lt (d_len rfl T.m_len (d_acons (d_var (pv 1)) d_anil)) (d_const pe_int fun _ => .int _))))) (d_one (d_ret (d_const pe_non fun _ => .non))) d_nil) (d_cons (d_sif (d_not (d_tval (d_all rfl rfl T.m_all (d_acons (d_share (d_lc (ctg_name (i := 3) (by decide)) (pe_lc (own := [("word", 3)]) rfl nd (d_iany (d_slice (d_var (pv 1)) (d_osome (d_const pe_int fun _ => .int _)) d_ono)) (blkOk_by (N := N_told_state) (sc := defScope s_told_state) (by decide +kernel)) (fun _ _ _ _ _ => (pg_name (i := 3) nd rfl (Or.inl rfl))) (fun _ _ _ _ _ => d_tsany fun C => d_tsnil) (fun _ _ _ _ _ => d_any fun C => (d_eand (d_eq hu (d_len rfl T.m_len (d_acons (d_var (pv 3)) d_anil)) (d_const pe_int fun _ => .int _)) (pe_one (d_in (d_var (pv 3)) (d_stre rfl T.m_DIGITS)))))))) d_anil)) (fun _ => rfl))) (d_one (d_ret (d_const pe_non fun _ => .non))) d_nil) (d_cons (d_setF (d_setlc (ctg_name (i := 3) (by decide)) (ps_setLc (i := 2) (own := [("word", 3)]) rfl nd rfl rfl (sw_true rfl rfl rfl (by decide +kernel)) (d_iany (d_slice (d_var (pv 1)) (d_osome (d_const pe_int fun _ => .int _)) d_ono)) (blkOk_by (N := N_told_state) (sc := defScope s_told_state) (by decide +kernel)) (fun _ _ _ _ _ => (pg_name (i := 3) nd rfl (Or.inl rfl))) (fun _ _ _ _ _ => d_tsany fun C => d_tsnil) (fun _ _ _ _ _ => d_any fun C => (d_intT rfl T.m_int (d_acons (d_var (pv 3)) d_anil)))))) (d_one (d_ret (d_tup (d_acons (d_ix (d_var (pv 2)) (d_const pe_int fun _ => .int _) (fun _ _ => rfl)) (d_acons (d_tuple rfl T.m_tuple (d_acons (d_slice (d_var (pv 2)) (d_osome (d_const pe_int fun _ => .int _)) d_ono) d_anil)) d_anil)))))))))
def N_Machine_read : List Str := ["cls", "text", "rows", "letters", "states", "row"]
def P_Machine_read : List Str := ["cls", "text"]
theorem sc_Machine_read : FnScope N_Machine_read P_Machine_read (defScope s_Machine_read) := ⟨rfl, rfl, rfl, by decide +kernel, rfl, by decide +kernel, by decide +kernel⟩
theorem ok_Machine_read (T : Facts K mg M) (Fu : Fun K "read" "Machine.read" s_Machine_read fa fd) (H_told_letters : Has P w K mg base GT 1 "told_letters" P_told_letters (spD K (F_told_letters))) (H_told_state : Has P w K mg base GT 1 "told_state" P_told_state (spD K (F_told_state))) (H_is_letters : Has P w K mg base GT 1 "is_letters" P_is_letters (spD K (F_is_letters M))) (H_first_wrong_state : Has P w K mg base GT 3 "first_wrong_state" P_first_wrong_state (spD K (F_first_wrong_state M))) (H_Machine : HasM P w K mg base M) (HX_InvalidText : HasX P w K mg base "InvalidText" "given") : FnG P w K mg base GT 6 fa fd P_Machine_read (spD K (F_Machine_read M)) := by
  refine d_def (N := N_Machine_read) (ps := P_Machine_read) (G := G_Machine_read M) Fu sc_Machine_read fun cdv A outer s H E C hr hg => ?_
  have nd := sc_Machine_read.nd
  have hu := hr.units
  exact (d_cons (d_sif (d_not (d_tval (d_isi (.ty _) (fun _ _ h => kit_ty h) (fun A b h => T.own T.k_str h) rfl T.m_isinstance (d_acons (d_var (pv 1)) (d_acons (d_tyn rfl T.m_str (by decide +kernel)) d_anil))) (fun _ => rfl))) (d_one (d_raise HX_InvalidText (hr.mono (by decide)) rfl (takes_of rfl rfl rfl rfl) rfl (d_var (pv 1)))) d_nil) (d_cons (d_set (ps_set (i := 2) nd rfl (Or.inl rfl) (d_bm PySem.F.slot_str_split PySem.F.type_str_split mt_split m_split (d_var (pv 1)) (d_acons (d_const pe_str fun _ => .str _) d_anil)))) (d_cons (d_set (ps_set (i := 3) nd rfl (Or.inl rfl) (d_callH (k := 5) H_told_letters hr (by decide) trivial rfl (takes_of rfl rfl rfl rfl) (d_acons (d_ix (d_var (pv 2)) (d_const pe_int fun _ => .int _) (fun _ _ => rfl)) d_anil)))) (d_cons (d_set (ps_set (i := 4) nd rfl (Or.inl rfl) (d_tuple rfl T.m_tuple (d_acons (d_share (d_lc (ctg_name (i := 5) (by decide)) (pe_lc (own := [("row", 5)]) rfl nd (d_iany (d_slice (d_var (pv 2)) (d_osome (d_const pe_int fun _ => .int _)) d_ono)) (blkOk_by (N := N_Machine_read) (sc := defScope s_Machine_read) (by decide +kernel)) (fun _ _ _ _ _ => (pg_name (i := 5) nd rfl (Or.inl rfl))) (fun _ _ _ _ _ => d_tsany fun C => d_tsnil) (fun _ _ _ _ _ => d_any fun C => (d_callH (k := 5) H_told_state hr (by decide) trivial rfl takes0 (d_acons (d_var (pv 5)) d_anil)))))) d_anil)))) (d_cons (d_sif (PW.pt (d_or (d_not (d_tval (d_callH (k := 5) H_is_letters hr (by decide) trivial rfl (takes_of rfl rfl rfl rfl) (d_acons (d_var (pv 3)) d_anil)) (fun _ => rfl))) (d_or (t_eq hu (d_len rfl T.m_len (d_acons (d_var (pv 4)) d_anil)) (d_const pe_int fun _ => .int _)) (pw_or1 (t_ge (d_callH (k := 5) H_first_wrong_state hr (by decide) trivial rfl (takes_of rfl rfl rfl rfl) (d_acons (d_var (pv 3)) (d_acons (d_var (pv 4)) d_anil))) (d_const pe_int fun _ => .int _)))))) (d_one (d_raise HX_InvalidText (hr.mono (by decide)) rfl (takes_of rfl rfl rfl rfl) rfl (d_var (pv 1)))) d_nil) (d_one (d_ret (d_makeLH (i := 0) H_Machine hr (by decide) rfl (Or.inl rfl) (passes_call (takes_of rfl rfl rfl rfl) fun _ _ _ _ h => h) (d_acons (d_var (pv 3)) (d_acons (d_var (pv 4)) d_anil))))))))))
def HasCM (P : Program) (w : World) (K : PySem.W.Frag) (mg : Str → Option Value) (base : Heap) (M : Addr) : Prop := ∃ p f fd, ClX.CRead K M (.type "type") ∧ ClX.CMet K M (.type "type") "read" p f ∧ FnG P w K mg base GT 6 f fd P_Machine_read (spD K (F_Machine_read M)) ∧ Binds K fd P_Machine_read [] ∧ KBn K fd P_Machine_read 1 (["text"] : List Str) (fun us ws => us ++ pick [0] ws) (fun vs zs => vs ++ pick [0] zs)
theorem d_cmethHW {X : Cx} {C : Cq} {W : WX} {o e : Expr} {es : List Expr} {pos apos : Pos} {G : AF} {Fo : EF} {k : Nat} {pl : Sem Bool} (ho : PE X o (tD X.K C W Fo)) (h : HasCM X.prog X.w X.K X.mg X.base M) (hr : Room k X.A) (hj : 6 ≤ k) (tk : Takes X W) (ha : PA X (e :: es) (tDA X.K C W G))
    (hst : starEach (e :: es) X.env = (false, eval e X.env) :: starEach es X.env := by rfl) (hpl : (backTo pos (starEach es X.env)).any (·.1) = false := by rfl)
    (ht : eval (.Call (.Attribute o "read" apos) (e :: es) [] pos) X.env = (do
      let ov ← eval o X.env
      standAt apos.atName
      let (f, first) ← holding [ov] (getMethod ov "read" pl)
      callWith pos f first (backTo pos (starEach (e :: es) X.env)) (backToKw pos (keywordEach [] X.env))) := by rfl) :
    PE X (.Call (.Attribute o "read" apos) (e :: es) [] pos) (tD X.K C W (eCM M (F_Machine_read M) Fo G)) := by
  obtain ⟨p, f, fd, r, c, FO, hb, _⟩ := h
  exact d_cmethW ho r c FO hb (hr.mono hj) tk ha hst hpl ht
def N_machine_told : List Str := ["text"]
def P_machine_told : List Str := ["text"]
theorem sc_machine_told : FnScope N_machine_told P_machine_told (defScope s_machine_told) := ⟨rfl, rfl, rfl, by decide +kernel, rfl, by decide +kernel, by decide +kernel⟩
theorem ok_machine_told (T : Facts K mg M) (Fu : Fun K "machine_told" "machine_told" s_machine_told fa fd) (H_Machine_read : HasCM P w K mg base M) (HX_InvalidText : HasX P w K mg base "InvalidText" "given") (HE_InvalidText : ExM K "InvalidText" (fun c => List.lookup c [("InvalidText", true)])) : FnG P w K mg base GT 7 fa fd P_machine_told (spD K (F_machine_told M)) := by
  refine d_def (N := N_machine_told) (ps := P_machine_told) (G := G_machine_told M) Fu sc_machine_told fun cdv A outer s H E C hr hg => ?_
  have nd := sc_machine_told.nd
  have hu := hr.units
  exact (d_one (d_try HE_InvalidText rfl rfl ⟨rfl, by decide, .inl HX_InvalidText.1.gC⟩ (takes_of rfl rfl rfl rfl) (fun Wt pn_ xe_ tkt _ => (d_one (d_ret (d_cmethHW (k := 6) (d_clsn rfl T.m_Machine) H_Machine_read hr (by decide) tkt (d_acons (d_var (pv 0)) d_anil))))) (fun a_ oe_ pn_ => (d_one (d_ret (d_const pe_non fun _ => .non))))))
def N_is_spelled : List Str := ["letters", "value", "letter"]
def P_is_spelled : List Str := ["letters", "value"]
theorem sc_is_spelled : FnScope N_is_spelled P_is_spelled (defScope s_is_spelled) := ⟨rfl, rfl, rfl, by decide +kernel, rfl, by decide +kernel, by decide +kernel⟩
theorem ok_is_spelled (T : Facts K mg M) (Fu : Fun K "is_spelled" "is_spelled" s_is_spelled fa fd) : FnG P w K mg base GT 1 fa fd P_is_spelled (spD K (F_is_spelled M)) := by
  refine d_def (N := N_is_spelled) (ps := P_is_spelled) (G := G_is_spelled M) Fu sc_is_spelled fun cdv A outer s H E C hr hg => ?_
  have nd := sc_is_spelled.nd
  have hu := hr.units
  exact (d_one (d_ret (d_eand (d_isi (.ty _) (fun _ _ h => kit_ty h) (fun A b h => T.own T.k_str h) rfl T.m_isinstance (d_acons (d_var (pv 1)) (d_acons (d_tyn rfl T.m_str (by decide +kernel)) d_anil))) (pe_one (d_all rfl rfl T.m_all (d_acons (d_share (d_lc (ctg_name (i := 2) (by decide)) (pe_lc (own := [("letter", 2)]) rfl nd (d_iany (d_var (pv 1))) (blkOk_by (N := N_is_spelled) (sc := defScope s_is_spelled) (by decide +kernel)) (fun _ _ _ _ _ => (pg_name (i := 2) nd rfl (Or.inl rfl))) (fun _ _ _ _ _ => d_tsany fun C => d_tsnil) (fun _ _ _ _ _ => d_any fun C => (d_in (d_var (pv 2)) (d_var (pv 0))))))) d_anil))))))
def N_states_along : List Str := ["machine", "state", "word", "along", "letter", "following"]
def P_states_along : List Str := ["machine", "state", "word"]
theorem sc_states_along : FnScope N_states_along P_states_along (defScope s_states_along) := ⟨rfl, rfl, rfl, by decide +kernel, rfl, by decide +kernel, by decide +kernel⟩
theorem ok_states_along (T : Facts K mg M) (Fu : Fun K "states_along" "states_along" s_states_along fa fd) : FnG P w K mg base GT 3 fa fd P_states_along (spD K (F_states_along M)) := by
  refine d_def (N := N_states_along) (ps := P_states_along) (G := G_states_along M) Fu sc_states_along fun cdv A outer s H E C hr hg => ?_
  have nd := sc_states_along.nd
  have hu := hr.units
  exact (d_cons (d_own (ps_set (i := 3) nd rfl (Or.inl rfl) (d_lst d_anil))) (d_cons (d_for (passes_of rfl) rfl (d_iany (d_var (pv 2))) (d_gname (pg_name (i := 4) nd rfl (Or.inl rfl))) (d_cons (d_set (ps_set (i := 5) nd rfl (Or.inl rfl) (d_ix (d_ix (d_propG (k := 2) (d_var (pv 0)) T.cM T.g_states hr (by decide)) (d_var (pv 1)) (fun _ _ => rfl)) (d_const pe_int fun _ => .int _) (fun _ _ => rfl)))) (d_cons (d_set (ps_set (i := 1) nd rfl (Or.inl rfl) (d_ix (d_var (pv 5)) (d_bm PySem.F.slot_str_find PySem.F.type_str_find mt_find m_find (d_propG (k := 2) (d_var (pv 0)) T.cM T.g_letters hr (by decide)) (d_acons (d_var (pv 4)) d_anil)) (fun _ _ => rfl)))) (d_one (d_push (pv 3) (d_var (pv 1))))))) (d_one (d_freeze (i := 3) (d_ret (d_var (pv 3)))))))
def N_state_behind : List Str := ["machine", "state", "word"]
def P_state_behind : List Str := ["machine", "state", "word"]
theorem sc_state_behind : FnScope N_state_behind P_state_behind (defScope s_state_behind) := ⟨rfl, rfl, rfl, by decide +kernel, rfl, by decide +kernel, by decide +kernel⟩
theorem ok_state_behind (T : Facts K mg M) (Fu : Fun K "state_behind" "state_behind" s_state_behind fa fd) (H_states_along : Has P w K mg base GT 3 "states_along" P_states_along (spD K (F_states_along M))) : FnG P w K mg base GT 4 fa fd P_state_behind (spD K (F_state_behind M)) := by
  refine d_def (N := N_state_behind) (ps := P_state_behind) (G := G_state_behind M) Fu sc_state_behind fun cdv A outer s H E C hr hg => ?_
  have nd := sc_state_behind.nd
  have hu := hr.units
  exact (d_one (d_ret (d_ix (d_share (d_lst (d_acons (d_var (pv 1)) (d_astar (d_callH (k := 3) H_states_along hr (by decide) trivial rfl (takes_of rfl rfl rfl rfl) (d_acons (d_var (pv 0)) (d_acons (d_var (pv 1)) (d_acons (d_var (pv 2)) d_anil)))) d_anil)))) (d_neg (d_const pe_int fun _ => .int _)) (fun _ _ => rfl))))
def N_shows_turning : List Str := ["machine", "value", "evenness", "start", "turn", "around", "state", "low", "high", "word", "k"]
def P_shows_turning : List Str := ["machine", "value", "evenness"]
theorem sc_shows_turning : FnScope N_shows_turning P_shows_turning (defScope s_shows_turning) := ⟨rfl, rfl, rfl, by decide +kernel, rfl, by decide +kernel, by decide +kernel⟩
theorem ok_shows_turning (T : Facts K mg M) (Fu : Fun K "shows_turning" "shows_turning" s_shows_turning fa fd) (H_is_spelled : Has P w K mg base GT 1 "is_spelled" P_is_spelled (spD K (F_is_spelled M))) (H_state_behind : Has P w K mg base GT 4 "state_behind" P_state_behind (spD K (F_state_behind M))) (H_states_along : Has P w K mg base GT 3 "states_along" P_states_along (spD K (F_states_along M))) : FnG P w K mg base GT 5 fa fd P_shows_turning (spD K (F_shows_turning M)) := by
  refine d_def (N := N_shows_turning) (ps := P_shows_turning) (G := G_shows_turning M) Fu sc_shows_turning fun cdv A outer s H E C hr hg => ?_
  have nd := sc_shows_turning.nd
  have hu := hr.units
  exact (d_cons (d_sif (PW.pt (d_or (d_not (d_tval (d_isi (.ty _) (fun _ _ h => kit_ty h) (fun A b h => T.own T.k_tuple h) rfl T.m_isinstance (d_acons (d_var (pv 1)) (d_acons (d_tyn rfl T.m_tuple (by decide +kernel)) d_anil))) (fun _ => rfl))) (pw_or1 (t_ne hu (d_len rfl T.m_len (d_acons (d_var (pv 1)) d_anil)) (d_const pe_int fun _ => .int _))))) (d_one (d_ret (d_const pe_bl fun _ => .bl _))) d_nil) (d_cons (d_sif (d_not (d_tval (d_all rfl rfl T.m_all (d_acons (d_share (d_lc (ctg_name (i := 9) (by decide)) (pe_lc (own := [("word", 9)]) rfl nd (d_iany (d_var (pv 1))) (blkOk_by (N := N_shows_turning) (sc := defScope s_shows_turning) (by decide +kernel)) (fun _ _ _ _ _ => (pg_name (i := 9) nd rfl (Or.inl rfl))) (fun _ _ _ _ _ => d_tsany fun C => d_tsnil) (fun _ _ _ _ _ => d_any fun C => (d_callH (k := 4) H_is_spelled hr (by decide) trivial rfl takes0 (d_acons (d_propG (k := 4) (d_var (pv 0)) T.cM T.g_letters hr (by decide)) (d_acons (d_var (pv 9)) d_anil))))))) d_anil)) (fun _ => rfl))) (d_one (d_ret (d_const pe_bl fun _ => .bl _))) d_nil) (d_cons (d_asg (d_var (pv 1)) (d_gtup rfl (d_gcons (d_gname (pg_name (i := 3) nd rfl (Or.inl rfl))) (d_gcons (d_gname (pg_name (i := 4) nd rfl (Or.inl rfl))) (d_gcons (d_gname (pg_name (i := 5) nd rfl (Or.inl rfl))) d_gnil))))) (d_cons (d_set (ps_set (i := 6) nd rfl (Or.inl rfl) (d_callH (k := 4) H_state_behind hr (by decide) trivial rfl (takes_of rfl rfl rfl rfl) (d_acons (d_var (pv 0)) (d_acons (d_const pe_int fun _ => .int _) (d_acons (d_var (pv 3)) d_anil)))))) (d_cons (d_sif (PW.pt (d_or (t_eq hu (d_len rfl T.m_len (d_acons (d_var (pv 4)) d_anil)) (d_const pe_int fun _ => .int _)) (pw_or1 (t_ne hu (d_callH (k := 4) H_state_behind hr (by decide) trivial rfl (takes_of rfl rfl rfl rfl) (d_acons (d_var (pv 0)) (d_acons (d_var (pv 6)) (d_acons (d_var (pv 4)) d_anil)))) (d_var (pv 6)))))) (d_one (d_ret (d_const pe_bl fun _ => .bl _))) d_nil) (d_cons (d_sif (PW.pt (d_or (t_eq hu (d_len rfl T.m_len (d_acons (d_var (pv 5)) d_anil)) (d_const pe_int fun _ => .int _)) (pw_or1 (t_ne hu (d_callH (k := 4) H_state_behind hr (by decide) trivial rfl (takes_of rfl rfl rfl rfl) (d_acons (d_var (pv 0)) (d_acons (d_var (pv 6)) (d_acons (d_var (pv 5)) d_anil)))) (d_var (pv 6)))))) (d_one (d_ret (d_const pe_bl fun _ => .bl _))) d_nil) (d_cons (d_set (ps_set (i := 7) nd rfl (Or.inl rfl) (d_maxL rfl rfl T.m_max (d_acons (d_share (d_lc (ctg_name (i := 10) (by decide)) (pe_lc (own := [("k", 10)]) rfl nd (d_iany (d_callH (k := 4) H_states_along hr (by decide) trivial rfl (takes_of rfl rfl rfl rfl) (d_acons (d_var (pv 0)) (d_acons (d_var (pv 6)) (d_acons (d_var (pv 4)) d_anil))))) (blkOk_by (N := N_shows_turning) (sc := defScope s_shows_turning) (by decide +kernel)) (fun _ _ _ _ _ => (pg_name (i := 10) nd rfl (Or.inl rfl))) (fun _ _ _ _ _ => d_tsany fun C => d_tsnil) (fun _ _ _ _ _ => d_any fun C => (d_ix (d_ix (d_propG (k := 4) (d_var (pv 0)) T.cM T.g_states hr (by decide)) (d_var (pv 10)) (fun _ _ => rfl)) (d_const pe_int fun _ => .int _) (fun _ _ => rfl)))))) d_anil)))) (d_cons (d_set (ps_set (i := 8) nd rfl (Or.inl rfl) (d_maxL rfl rfl T.m_max (d_acons (d_share (d_lc (ctg_name (i := 10) (by decide)) (pe_lc (own := [("k", 10)]) rfl nd (d_iany (d_callH (k := 4) H_states_along hr (by decide) trivial rfl (takes_of rfl rfl rfl rfl) (d_acons (d_var (pv 0)) (d_acons (d_var (pv 6)) (d_acons (d_var (pv 5)) d_anil))))) (blkOk_by (N := N_shows_turning) (sc := defScope s_shows_turning) (by decide +kernel)) (fun _ _ _ _ _ => (pg_name (i := 10) nd rfl (Or.inl rfl))) (fun _ _ _ _ _ => d_tsany fun C => d_tsnil) (fun _ _ _ _ _ => d_any fun C => (d_ix (d_ix (d_propG (k := 4) (d_var (pv 0)) T.cM T.g_states hr (by decide)) (d_var (pv 10)) (fun _ _ => rfl)) (d_const pe_int fun _ => .int _) (fun _ _ => rfl)))))) d_anil)))) (d_one (d_ret (d_eand (d_lt (d_var (pv 7)) (d_var (pv 8))) (d_eand (d_eq hu (d_mod (d_var (pv 7)) (d_const pe_int fun _ => .int _)) (d_var (pv 2))) (pe_one (d_ne hu (d_mod (d_var (pv 8)) (d_const pe_int fun _ => .int _)) (d_var (pv 2))))))))))))))))
def N_accepts_one : List Str := ["word", "machine", "certificate"]
def P_accepts_one : List Str := ["word", "machine", "certificate"]
theorem sc_accepts_one : FnScope N_accepts_one P_accepts_one (defScope s_accepts_one) := ⟨rfl, rfl, rfl, by decide +kernel, rfl, by decide +kernel, by decide +kernel⟩
theorem ok_accepts_one (T : Facts K mg M) (Fu : Fun K "accepts_one" "accepts_one" s_accepts_one fa fd) (H_shows_turning : Has P w K mg base GT 5 "shows_turning" P_shows_turning (spD K (F_shows_turning M))) : FnG P w K mg base GT 6 fa fd P_accepts_one (spD K (F_accepts_one M)) := by
  refine d_def (N := N_accepts_one) (ps := P_accepts_one) (G := G_accepts_one M) Fu sc_accepts_one fun cdv A outer s H E C hr hg => ?_
  have nd := sc_accepts_one.nd
  have hu := hr.units
  exact (d_cons (d_sif (t_eq hu (d_var (pv 0)) (d_stre rfl T.m_NOT_AGAIN)) (d_one (d_ret (d_callH (k := 5) H_shows_turning hr (by decide) trivial rfl (takes_of rfl rfl rfl rfl) (d_acons (d_var (pv 1)) (d_acons (d_var (pv 2)) (d_acons (d_inte rfl T.m_EVEN) d_anil)))))) d_nil) (d_one (d_ret (d_eand (d_eq hu (d_var (pv 0)) (d_stre rfl T.m_NOT_STAYS)) (pe_one (d_callH (k := 5) H_shows_turning hr (by decide) trivial rfl (takes_of rfl rfl rfl rfl) (d_acons (d_var (pv 1)) (d_acons (d_var (pv 2)) (d_acons (d_inte rfl T.m_ODD) d_anil)))))))))
def N_is_empty : List Str := ["value"]
def P_is_empty : List Str := ["value"]
theorem sc_is_empty : FnScope N_is_empty P_is_empty (defScope s_is_empty) := ⟨rfl, rfl, rfl, by decide +kernel, rfl, by decide +kernel, by decide +kernel⟩
theorem ok_is_empty (T : Facts K mg M) (Fu : Fun K "is_empty" "is_empty" s_is_empty fa fd) : FnG P w K mg base GT 1 fa fd P_is_empty (spD K (F_is_empty M)) := by
  refine d_def (N := N_is_empty) (ps := P_is_empty) (G := G_is_empty M) Fu sc_is_empty fun cdv A outer s H E C hr hg => ?_
  have nd := sc_is_empty.nd
  have hu := hr.units
  exact (d_one (d_ret (d_eand (d_isi (.ty _) (fun _ _ h => kit_ty h) (fun A b h => T.own T.k_tuple h) rfl T.m_isinstance (d_acons (d_var (pv 0)) (d_acons (d_tyn rfl T.m_tuple (by decide +kernel)) d_anil))) (pe_one (d_eq hu (d_len rfl T.m_len (d_acons (d_var (pv 0)) d_anil)) (d_const pe_int fun _ => .int _))))))
def N_is_endless : List Str := ["letters", "value", "start", "turn"]
def P_is_endless : List Str := ["letters", "value"]
theorem sc_is_endless : FnScope N_is_endless P_is_endless (defScope s_is_endless) := ⟨rfl, rfl, rfl, by decide +kernel, rfl, by decide +kernel, by decide +kernel⟩
theorem ok_is_endless (T : Facts K mg M) (Fu : Fun K "is_endless" "is_endless" s_is_endless fa fd) (H_is_spelled : Has P w K mg base GT 1 "is_spelled" P_is_spelled (spD K (F_is_spelled M))) : FnG P w K mg base GT 2 fa fd P_is_endless (spD K (F_is_endless M)) := by
  refine d_def (N := N_is_endless) (ps := P_is_endless) (G := G_is_endless M) Fu sc_is_endless fun cdv A outer s H E C hr hg => ?_
  have nd := sc_is_endless.nd
  have hu := hr.units
  exact (d_cons (d_sif (PW.pt (d_or (d_not (d_tval (d_isi (.ty _) (fun _ _ h => kit_ty h) (fun A b h => T.own T.k_tuple h) rfl T.m_isinstance (d_acons (d_var (pv 1)) (d_acons (d_tyn rfl T.m_tuple (by decide +kernel)) d_anil))) (fun _ => rfl))) (pw_or1 (t_ne hu (d_len rfl T.m_len (d_acons (d_var (pv 1)) d_anil)) (d_const pe_int fun _ => .int _))))) (d_one (d_ret (d_const pe_bl fun _ => .bl _))) d_nil) (d_cons (d_asg (d_var (pv 1)) (d_gtup rfl (d_gcons (d_gname (pg_name (i := 2) nd rfl (Or.inl rfl))) (d_gcons (d_gname (pg_name (i := 3) nd rfl (Or.inl rfl))) d_gnil)))) (d_one (d_ret (d_eand (d_callH (k := 1) H_is_spelled hr (by decide) trivial rfl (takes_of rfl rfl rfl rfl) (d_acons (d_var (pv 0)) (d_acons (d_var (pv 2)) d_anil))) (d_eand (d_callH (k := 1) H_is_spelled hr (by decide) trivial rfl (takes_of rfl rfl rfl rfl) (d_acons (d_var (pv 0)) (d_acons (d_var (pv 3)) d_anil))) (pe_one (d_gt (d_len rfl T.m_len (d_acons (d_var (pv 3)) d_anil)) (d_const pe_int fun _ => .int _)))))))))
def N_is_lasso : List Str := ["letters", "value", "word"]
def P_is_lasso : List Str := ["letters", "value"]
theorem sc_is_lasso : FnScope N_is_lasso P_is_lasso (defScope s_is_lasso) := ⟨rfl, rfl, rfl, by decide +kernel, rfl, by decide +kernel, by decide +kernel⟩
theorem ok_is_lasso (T : Facts K mg M) (Fu : Fun K "is_lasso" "is_lasso" s_is_lasso fa fd) (H_is_endless : Has P w K mg base GT 2 "is_endless" P_is_endless (spD K (F_is_endless M))) : FnG P w K mg base GT 3 fa fd P_is_lasso (spD K (F_is_lasso M)) := by
  refine d_def (N := N_is_lasso) (ps := P_is_lasso) (G := G_is_lasso M) Fu sc_is_lasso fun cdv A outer s H E C hr hg => ?_
  have nd := sc_is_lasso.nd
  have hu := hr.units
  exact (d_one (d_ret (d_eand (d_callH (k := 2) H_is_endless hr (by decide) trivial rfl (takes_of rfl rfl rfl rfl) (d_acons (d_var (pv 0)) (d_acons (d_var (pv 1)) d_anil))) (pe_one (d_all rfl rfl T.m_all (d_acons (d_share (d_lc (ctg_name (i := 2) (by decide)) (pe_lc (own := [("word", 2)]) rfl nd (d_iany (d_var (pv 1))) (blkOk_by (N := N_is_lasso) (sc := defScope s_is_lasso) (by decide +kernel)) (fun _ _ _ _ _ => (pg_name (i := 2) nd rfl (Or.inl rfl))) (fun _ _ _ _ _ => d_tsany fun C => d_tsnil) (fun _ _ _ _ _ => d_any fun C => (d_le (d_len rfl T.m_len (d_acons (d_var (pv 2)) d_anil)) (d_inte rfl T.m_MOST_WORD)))))) d_anil))))))
def N_is_word : List Str := ["letters", "value"]
def P_is_word : List Str := ["letters", "value"]
theorem sc_is_word : FnScope N_is_word P_is_word (defScope s_is_word) := ⟨rfl, rfl, rfl, by decide +kernel, rfl, by decide +kernel, by decide +kernel⟩
theorem ok_is_word (T : Facts K mg M) (Fu : Fun K "is_word" "is_word" s_is_word fa fd) (H_is_spelled : Has P w K mg base GT 1 "is_spelled" P_is_spelled (spD K (F_is_spelled M))) : FnG P w K mg base GT 2 fa fd P_is_word (spD K (F_is_word M)) := by
  refine d_def (N := N_is_word) (ps := P_is_word) (G := G_is_word M) Fu sc_is_word fun cdv A outer s H E C hr hg => ?_
  have nd := sc_is_word.nd
  have hu := hr.units
  exact (d_one (d_ret (d_eand (d_callH (k := 1) H_is_spelled hr (by decide) trivial rfl (takes_of rfl rfl rfl rfl) (d_acons (d_var (pv 0)) (d_acons (d_var (pv 1)) d_anil))) (pe_one (d_le (d_len rfl T.m_len (d_acons (d_var (pv 1)) d_anil)) (d_inte rfl T.m_MOST_WORD))))))
def N_is_demand_form : List Str := ["letters", "value", "word", "asked"]
def P_is_demand_form : List Str := ["letters", "value"]
theorem sc_is_demand_form : FnScope N_is_demand_form P_is_demand_form (defScope s_is_demand_form) := ⟨rfl, rfl, rfl, by decide +kernel, rfl, by decide +kernel, by decide +kernel⟩
theorem ok_is_demand_form (T : Facts K mg M) (Fu : Fun K "is_demand_form" "is_demand_form" s_is_demand_form fa fd) (H_is_number : Has P w K mg base GT 1 "is_number" P_is_number (spD K (F_is_number M))) (H_is_lasso : Has P w K mg base GT 3 "is_lasso" P_is_lasso (spD K (F_is_lasso M))) (H_is_word : Has P w K mg base GT 2 "is_word" P_is_word (spD K (F_is_word M))) (H_machine_told : Has P w K mg base GT 7 "machine_told" P_machine_told (spD K (F_machine_told M))) : FnG P w K mg base GT 8 fa fd P_is_demand_form (spD K (F_is_demand_form M)) := by
  refine d_def (N := N_is_demand_form) (ps := P_is_demand_form) (G := G_is_demand_form M) Fu sc_is_demand_form fun cdv A outer s H E C hr hg => ?_
  have nd := sc_is_demand_form.nd
  have hu := hr.units
  exact (d_cons (d_sif (PW.pt (d_or (d_not (d_tval (d_isi (.ty _) (fun _ _ h => kit_ty h) (fun A b h => T.own T.k_tuple h) rfl T.m_isinstance (d_acons (d_var (pv 1)) (d_acons (d_tyn rfl T.m_tuple (by decide +kernel)) d_anil))) (fun _ => rfl))) (d_or (d_not (t_lele (d_const pe_int fun _ => .int _) (d_len rfl T.m_len (d_acons (d_var (pv 1)) d_anil)) (d_const pe_int fun _ => .int _))) (pw_or1 (d_not (d_tval (d_isi (.ty _) (fun _ _ h => kit_ty h) (fun A b h => T.own T.k_str h) rfl T.m_isinstance (d_acons (d_ix (d_var (pv 1)) (d_const pe_int fun _ => .int _) (fun _ _ => rfl)) (d_acons (d_tyn rfl T.m_str (by decide +kernel)) d_anil))) (fun _ => rfl))))))) (d_one (d_ret (d_const pe_bl fun _ => .bl _))) d_nil) (d_cons (d_sif (t_eq hu (d_len rfl T.m_len (d_acons (d_var (pv 1)) d_anil)) (d_const pe_int fun _ => .int _)) (d_one (d_ret (d_inKe (d_ix (d_var (pv 1)) (d_const pe_int fun _ => .int _) (fun _ _ => rfl)) rfl T.m_KINDS))) d_nil) (d_cons (d_asg (d_var (pv 1)) (d_gtup rfl (d_gcons (d_gname (pg_name (i := 2) nd rfl (Or.inl rfl))) (d_gcons (d_gname (pg_name (i := 3) nd rfl (Or.inl rfl))) d_gnil)))) (d_cons (d_sif (t_eq hu (d_var (pv 2)) (d_stre rfl T.m_DEPTH)) (d_one (d_ret (d_callH (k := 7) H_is_number hr (by decide) trivial rfl (takes_of rfl rfl rfl rfl) (d_acons (d_var (pv 3)) (d_acons (d_inte rfl T.m_MOST_COLOUR) d_anil))))) d_nil) (d_cons (d_sif (t_inq (d_var (pv 2)) (d_tup (d_acons (d_stre rfl T.m_IN) (d_acons (d_stre rfl T.m_OUT) d_anil)))) (d_one (d_ret (d_callH (k := 7) H_is_lasso hr (by decide) trivial rfl (takes_of rfl rfl rfl rfl) (d_acons (d_var (pv 0)) (d_acons (d_var (pv 3)) d_anil))))) d_nil) (d_cons (d_sif (t_inq (d_var (pv 2)) (d_tup (d_acons (d_stre rfl T.m_BAD) (d_acons (d_stre rfl T.m_GOOD) d_anil)))) (d_one (d_ret (d_callH (k := 7) H_is_word hr (by decide) trivial rfl (takes_of rfl rfl rfl rfl) (d_acons (d_var (pv 0)) (d_acons (d_var (pv 3)) d_anil))))) d_nil) (d_one (d_ret (d_eand (d_eq hu (d_var (pv 2)) (d_stre rfl T.m_LIKE)) (pe_one (d_notn (d_callH (k := 7) H_machine_told hr (by decide) trivial rfl (takes_of rfl rfl rfl rfl) (d_acons (d_var (pv 3)) d_anil)) (d_const pe_non fun _ => .non))))))))))))
def N_is_demand : List Str := ["machine", "value"]
def P_is_demand : List Str := ["machine", "value"]
theorem sc_is_demand : FnScope N_is_demand P_is_demand (defScope s_is_demand) := ⟨rfl, rfl, rfl, by decide +kernel, rfl, by decide +kernel, by decide +kernel⟩
theorem ok_is_demand (T : Facts K mg M) (Fu : Fun K "is_demand" "is_demand" s_is_demand fa fd) (H_is_demand_form : Has P w K mg base GT 8 "is_demand_form" P_is_demand_form (spD K (F_is_demand_form M))) (H_machine_told : Has P w K mg base GT 7 "machine_told" P_machine_told (spD K (F_machine_told M))) : FnG P w K mg base GT 9 fa fd P_is_demand (spD K (F_is_demand M)) := by
  refine d_def (N := N_is_demand) (ps := P_is_demand) (G := G_is_demand M) Fu sc_is_demand fun cdv A outer s H E C hr hg => ?_
  have nd := sc_is_demand.nd
  have hu := hr.units
  exact (d_cons (d_sif (d_not (d_tval (d_callH (k := 8) H_is_demand_form hr (by decide) trivial rfl (takes_of rfl rfl rfl rfl) (d_acons (d_propG (k := 8) (d_var (pv 0)) T.cM T.g_letters hr (by decide)) (d_acons (d_var (pv 1)) d_anil))) (fun _ => rfl))) (d_one (d_ret (d_const pe_bl fun _ => .bl _))) d_nil) (d_one (d_ret (d_eor (d_ne hu (d_ix (d_var (pv 1)) (d_const pe_int fun _ => .int _) (fun _ _ => rfl)) (d_stre rfl T.m_LIKE)) (pe_one (d_eq hu (d_propG (k := 8) (d_callH (k := 8) H_machine_told hr (by decide) trivial rfl (takes_of rfl rfl rfl rfl) (d_acons (d_ix (d_var (pv 1)) (d_const pe_int fun _ => .int _) (fun _ _ => rfl)) d_anil)) T.cM T.g_letters hr (by decide)) (d_propG (k := 8) (d_var (pv 0)) T.cM T.g_letters hr (by decide))))))))
def N_check_machine : List Str := ["value"]
def P_check_machine : List Str := ["value"]
theorem sc_check_machine : FnScope N_check_machine P_check_machine (defScope s_check_machine) := ⟨rfl, rfl, rfl, by decide +kernel, rfl, by decide +kernel, by decide +kernel⟩
theorem ok_check_machine (T : Facts K mg M) (Fu : Fun K "check_machine" "check_machine" s_check_machine fa fd) (HX_NotAMachine : HasX P w K mg base "NotAMachine" "given") : FnG P w K mg base GT 3 fa fd P_check_machine (spD K (F_check_machine M)) := by
  refine d_def (N := N_check_machine) (ps := P_check_machine) (G := G_check_machine M) Fu sc_check_machine fun cdv A outer s H E C hr hg => ?_
  have nd := sc_check_machine.nd
  have hu := hr.units
  exact (d_one (d_sif (d_not (d_tval (d_isi (.own _) (fun _ _ h => T.kitM h) (fun A b h => T.ownM h) rfl T.m_isinstance (d_acons (d_var (pv 0)) (d_acons (d_clsn rfl T.m_Machine) d_anil))) (fun _ => rfl))) (d_one (d_raise HX_NotAMachine (hr.mono (by decide)) rfl (takes_of rfl rfl rfl rfl) rfl (d_var (pv 0)))) d_nil))
def N_Machine_len_ : List Str := ["self"]
def P_Machine_len_ : List Str := ["self"]
theorem sc_Machine_len_ : FnScope N_Machine_len_ P_Machine_len_ (defScope s_Machine_len_) := ⟨rfl, rfl, rfl, by decide +kernel, rfl, by decide +kernel, by decide +kernel⟩
theorem ok_Machine_len_ (T : Facts K mg M) (Fu : Fun K "__len__" "Machine.__len__" s_Machine_len_ fa fd) : FnG P w K mg base GT 1 fa fd P_Machine_len_ (spD K (F_Machine_len_ M)) := by
  refine d_def (N := N_Machine_len_) (ps := P_Machine_len_) (G := G_Machine_len_ M) Fu sc_Machine_len_ fun cdv A outer s H E C hr hg => ?_
  have nd := sc_Machine_len_.nd
  have hu := hr.units
  exact (d_one (d_ret (d_len rfl T.m_len (d_acons (d_fld (d_var (pv 0)) T.cM T.n_states) d_anil))))
def HasLen (P : Program) (w : World) (K : PySem.W.Frag) (mg : Str → Option Value) (base : Heap) (M : Addr) : Prop := ∃ f fd, PySem.W.findIn K (.ref M) "__len__" = some (some (.ref f)) ∧ PySem.W.isFn K (.ref f) = true ∧ FnG P w K mg base GT 1 f fd P_Machine_len_ (spD K (F_Machine_len_ M)) ∧ Binds K fd P_Machine_len_ []
theorem d_lenH {X : Cx} {C : Cq} {W : WX} {a : Expr} {pos p : Pos} {G : AF} {k : Nat} (h : HasLen X.prog X.w X.K X.mg X.base M) (hr : Room k X.A) (hj : 2 ≤ k) (hg : Gl X "len") (hm : X.mg "len" = none) (ha : PA X [a] (tDA X.K C W G)) (he : starEach [a] X.env = (false, eval a X.env) :: starEach [] X.env := by rfl)
    (hpl : (backTo pos (starEach [] X.env)).any (·.1) = false := by rfl) : PE X (.Call (.Name "len" p) [a] [] pos) (tD X.K C W (eLenO M (F_Machine_len_ M) G)) := by
  obtain ⟨f, fd, hs, hf, FO, hb⟩ := h
  exact d_lenO hs hf FO.fnok (hr.mono hj) hb hg hm ha he hpl
def N_arrows_of : List Str := ["machine", "state"]
def P_arrows_of : List Str := ["machine"]
theorem sc_arrows_of : FnScope N_arrows_of P_arrows_of (defScope s_arrows_of) := ⟨rfl, rfl, rfl, by decide +kernel, rfl, by decide +kernel, by decide +kernel⟩
theorem ok_arrows_of (T : Facts K mg M) (Fu : Fun K "arrows_of" "arrows_of" s_arrows_of fa fd) : FnG P w K mg base GT 3 fa fd P_arrows_of (spD K (F_arrows_of M)) := by
  refine d_def (N := N_arrows_of) (ps := P_arrows_of) (G := G_arrows_of M) Fu sc_arrows_of fun cdv A outer s H E C hr hg => ?_
  have nd := sc_arrows_of.nd
  have hu := hr.units
  exact (d_one (d_ret (d_share (d_lc (ctg_name (i := 1) (by decide)) (pe_lc (own := [("state", 1)]) rfl nd (d_iany (d_propG (k := 2) (d_var (pv 0)) T.cM T.g_states hr (by decide))) (blkOk_by (N := N_arrows_of) (sc := defScope s_arrows_of) (by decide +kernel)) (fun _ _ _ _ _ => (pg_name (i := 1) nd rfl (Or.inl rfl))) (fun _ _ _ _ _ => d_tsany fun C => d_tsnil) (fun _ _ _ _ _ => d_any fun C => (d_ix (d_var (pv 1)) (d_const pe_int fun _ => .int _) (fun _ _ => rfl))))))))
def N_colours_of : List Str := ["machine", "state"]
def P_colours_of : List Str := ["machine"]
theorem sc_colours_of : FnScope N_colours_of P_colours_of (defScope s_colours_of) := ⟨rfl, rfl, rfl, by decide +kernel, rfl, by decide +kernel, by decide +kernel⟩
theorem ok_colours_of (T : Facts K mg M) (Fu : Fun K "colours_of" "colours_of" s_colours_of fa fd) : FnG P w K mg base GT 3 fa fd P_colours_of (spD K (F_colours_of M)) := by
  refine d_def (N := N_colours_of) (ps := P_colours_of) (G := G_colours_of M) Fu sc_colours_of fun cdv A outer s H E C hr hg => ?_
  have nd := sc_colours_of.nd
  have hu := hr.units
  exact (d_one (d_ret (d_share (d_lc (ctg_name (i := 1) (by decide)) (pe_lc (own := [("state", 1)]) rfl nd (d_iany (d_propG (k := 2) (d_var (pv 0)) T.cM T.g_states hr (by decide))) (blkOk_by (N := N_colours_of) (sc := defScope s_colours_of) (by decide +kernel)) (fun _ _ _ _ _ => (pg_name (i := 1) nd rfl (Or.inl rfl))) (fun _ _ _ _ _ => d_tsany fun C => d_tsnil) (fun _ _ _ _ _ => d_any fun C => (d_ix (d_var (pv 1)) (d_const pe_int fun _ => .int _) (fun _ _ => rfl))))))))
def N_bits_ahead : List Str := ["arrows", "numbers", "bits", "number", "between", "k"]
def P_bits_ahead : List Str := ["arrows", "numbers"]
theorem sc_bits_ahead : FnScope N_bits_ahead P_bits_ahead (defScope s_bits_ahead) := ⟨rfl, rfl, rfl, by decide +kernel, rfl, by decide +kernel, by decide +kernel⟩
theorem ok_bits_ahead (T : Facts K mg M) (Fu : Fun K "bits_ahead" "bits_ahead" s_bits_ahead fa fd) : FnG P w K mg base GT 1 fa fd P_bits_ahead (spD K (F_bits_ahead)) := by
  refine d_def (N := N_bits_ahead) (ps := P_bits_ahead) (G := G_bits_ahead) Fu sc_bits_ahead fun cdv A outer s H E C hr hg => ?_
  have nd := sc_bits_ahead.nd
  have hu := hr.units
  exact (d_cons (d_own (ps_set (i := 2) nd rfl (Or.inl rfl) d_dnew)) (d_cons (d_for (passes_of rfl) rfl (d_iany (d_var (pv 1))) (d_gname (pg_name (i := 3) nd rfl (Or.inr rfl))) (d_one (d_dput (hu1 hu) (pv 2) (d_var (pv 3)) (d_sum rfl rfl T.m_sum (d_acons (d_share (d_lc (ctg_name (i := 5) (by decide)) (pe_lc (own := [("k", 5)]) rfl nd (d_iany (d_var (pv 1))) (blkOk_by (N := N_bits_ahead) (sc := defScope s_bits_ahead) (by decide +kernel)) (fun _ _ _ _ _ => (pg_name (i := 5) nd rfl (Or.inl rfl))) (fun _ _ _ _ _ => d_tsany fun C => (d_tsone (t_inq (d_var (pv 5)) (d_ix (d_var (pv 0)) (d_var (pv 3)) (fun _ _ => rfl))))) (fun _ _ _ _ _ => d_any fun C => (d_shl (d_const pe_int fun _ => .int _) (d_var (pv 5))))))) d_anil))))) (d_cons (d_for (passes_of rfl) rfl (d_iany (d_var (pv 1))) (d_gname (pg_name (i := 4) nd rfl (Or.inl rfl))) (d_one (d_for (passes_of rfl) rfl (d_iany (d_var (pv 1))) (d_gname (pg_name (i := 3) nd rfl (Or.inr rfl))) (d_one (d_sif (d_truth (d_band (d_shr (d_dgOw (hu1 hu) (pv 2) (d_var (pv 3)) (fun _ _ => rfl)) (d_var (pv 4))) (d_const pe_int fun _ => .int _))) (d_one (d_dput (hu1 hu) (pv 2) (d_var (pv 3)) (d_bor (d_dgOw (hu1 hu) (pv 2) (d_var (pv 3)) (fun _ _ => rfl)) (d_dgOw (hu1 hu) (pv 2) (d_var (pv 4)) (fun _ _ => rfl))))) d_nil))))) (d_one (d_freeze (i := 2) (d_ret (d_var (pv 2))))))))
def N_greatest_loops : List Str := ["arrows", "numbers", "bits", "found", "number", "loop", "k"]
def P_greatest_loops : List Str := ["arrows", "numbers"]
theorem sc_greatest_loops : FnScope N_greatest_loops P_greatest_loops (defScope s_greatest_loops) := ⟨rfl, rfl, rfl, by decide +kernel, rfl, by decide +kernel, by decide +kernel⟩
theorem ok_greatest_loops (T : Facts K mg M) (Fu : Fun K "greatest_loops" "greatest_loops" s_greatest_loops fa fd) (H_bits_ahead : Has P w K mg base GT 1 "bits_ahead" P_bits_ahead (spD K (F_bits_ahead))) : FnG P w K mg base GT 2 fa fd P_greatest_loops (spD K (F_greatest_loops)) := by
  refine d_def (N := N_greatest_loops) (ps := P_greatest_loops) (G := G_greatest_loops) Fu sc_greatest_loops fun cdv A outer s H E C hr hg => ?_
  have nd := sc_greatest_loops.nd
  have hu := hr.units
  exact (d_cons (d_set (ps_set (i := 2) nd rfl (Or.inr rfl) (d_callH (k := 1) H_bits_ahead hr (by decide) trivial rfl (takes_of rfl rfl rfl rfl) (d_acons (d_var (pv 0)) (d_acons (d_var (pv 1)) d_anil))))) (d_cons (d_own (ps_set (i := 3) nd rfl (Or.inl rfl) (d_lst d_anil))) (d_cons (d_for (passes_of rfl) rfl (d_iany (d_var (pv 1))) (d_gname (pg_name (i := 4) nd rfl (Or.inr rfl))) (d_cons (d_setF (d_setlc (ctg_name (i := 6) (by decide)) (ps_setLc (i := 5) (own := [("k", 6)]) rfl nd rfl rfl (sw_true rfl rfl rfl (by decide +kernel)) (d_iany (d_var (pv 1))) (blkOk_by (N := N_greatest_loops) (sc := defScope s_greatest_loops) (by decide +kernel)) (fun _ _ _ _ _ => (pg_name (i := 6) nd rfl (Or.inl rfl))) (fun _ _ _ _ _ => d_tsany fun C => (d_tsone (d_truth (d_band (d_band (d_shr (d_dg (hu1 hu) (d_var (pv 2)) (d_var (pv 4)) (fun _ _ => rfl)) (d_var (pv 6))) (d_shr (d_dg (hu1 hu) (d_var (pv 2)) (d_var (pv 6)) (fun _ _ => rfl)) (d_var (pv 4)))) (d_const pe_int fun _ => .int _))))) (fun _ _ _ _ _ => d_any fun C => (d_var (pv 6)))))) (d_one (d_sif (PW.pt (d_and (d_truth (d_var (pv 5))) (pw_and1 (t_eq hu (d_ix (d_var (pv 5)) (d_const pe_int fun _ => .int _) (fun _ _ => rfl)) (d_var (pv 4)))))) (d_one (d_push (pv 3) (d_var (pv 5)))) d_nil)))) (d_one (d_freeze (i := 3) (d_ret (d_var (pv 3))))))))
def N_without_wrong_top : List Str := ["loop", "asked", "colours", "evenness", "top", "k"]
def P_without_wrong_top : List Str := ["loop", "asked"]
theorem sc_without_wrong_top : FnScope N_without_wrong_top P_without_wrong_top (defScope s_without_wrong_top) := ⟨rfl, rfl, rfl, by decide +kernel, rfl, by decide +kernel, by decide +kernel⟩
theorem ok_without_wrong_top (T : Facts K mg M) (Fu : Fun K "without_wrong_top" "without_wrong_top" s_without_wrong_top fa fd) : FnG P w K mg base GT 1 fa fd P_without_wrong_top (spD K (F_without_wrong_top)) := by
  refine d_def (N := N_without_wrong_top) (ps := P_without_wrong_top) (G := G_without_wrong_top) Fu sc_without_wrong_top fun cdv A outer s H E C hr hg => ?_
  have nd := sc_without_wrong_top.nd
  have hu := hr.units
  exact (d_cons (d_for (passes_of rfl) rfl (d_iany (d_var (pv 1))) (d_gtup rfl (d_gcons (d_gname (pg_name (i := 2) nd rfl (Or.inr rfl))) (d_gcons (d_gname (pg_name (i := 3) nd rfl (Or.inl rfl))) d_gnil))) (d_cons (d_set (ps_set (i := 4) nd rfl (Or.inr rfl) (d_maxL rfl rfl T.m_max (d_acons (d_share (d_lc (ctg_name (i := 5) (by decide)) (pe_lc (own := [("k", 5)]) rfl nd (d_iany (d_var (pv 0))) (blkOk_by (N := N_without_wrong_top) (sc := defScope s_without_wrong_top) (by decide +kernel)) (fun _ _ _ _ _ => (pg_name (i := 5) nd rfl (Or.inl rfl))) (fun _ _ _ _ _ => d_tsany fun C => d_tsnil) (fun _ _ _ _ _ => d_any fun C => (d_ix (d_var (pv 2)) (d_var (pv 5)) (fun _ _ => rfl)))))) d_anil)))) (d_one (d_sif (t_ne hu (d_mod (d_var (pv 4)) (d_const pe_int fun _ => .int _)) (d_var (pv 3))) (d_one (d_ret (d_share (d_lc (ctg_name (i := 5) (by decide)) (pe_lc (own := [("k", 5)]) rfl nd (d_iany (d_var (pv 0))) (blkOk_by (N := N_without_wrong_top) (sc := defScope s_without_wrong_top) (by decide +kernel)) (fun _ _ _ _ _ => (pg_name (i := 5) nd rfl (Or.inl rfl))) (fun _ _ _ _ _ => d_tsany fun C => (d_tsone (t_lt (d_ix (d_var (pv 2)) (d_var (pv 5)) (fun _ _ => rfl)) (d_var (pv 4))))) (fun _ _ _ _ _ => d_any fun C => (d_var (pv 5)))))))) d_nil)))) (d_one (d_ret (d_var (pv 0)))))
def N_loops_as_asked : List Str := ["arrows", "numbers", "asked", "found", "waiting", "rest", "loop", "left"]
def P_loops_as_asked : List Str := ["arrows", "numbers", "asked"]
theorem sc_loops_as_asked : FnScope N_loops_as_asked P_loops_as_asked (defScope s_loops_as_asked) := ⟨rfl, rfl, rfl, by decide +kernel, rfl, by decide +kernel, by decide +kernel⟩
theorem ok_loops_as_asked (T : Facts K mg M) (Fu : Fun K "loops_as_asked" "loops_as_asked" s_loops_as_asked fa fd) (H_greatest_loops : Has P w K mg base GT 2 "greatest_loops" P_greatest_loops (spD K (F_greatest_loops))) (H_without_wrong_top : Has P w K mg base GT 1 "without_wrong_top" P_without_wrong_top (spD K (F_without_wrong_top))) : FnG P w K mg base GT 3 fa fd P_loops_as_asked (spD K (F_loops_as_asked)) := by
  refine d_def (N := N_loops_as_asked) (ps := P_loops_as_asked) (G := G_loops_as_asked) Fu sc_loops_as_asked fun cdv A outer s H E C hr hg => ?_
  have nd := sc_loops_as_asked.nd
  have hu := hr.units
  exact (d_cons (d_own (ps_set (i := 3) nd rfl (Or.inl rfl) (d_lst d_anil))) (d_cons (d_own (ps_set (i := 4) nd rfl (Or.inl rfl) (d_lst (d_acons (d_var (pv 1)) d_anil)))) (d_cons (d_while (passes_of rfl) (t_ow (pv 4)) (d_cons (d_pop (ps_set (i := 5) nd rfl (Or.inl rfl) (pe_bm0 PySem.F.plainAttrs_list PySem.F.slot_list_pop PySem.F.type_list_pop mt_pop (pv 4)))) (d_one (d_for (passes_of rfl) rfl (d_iany (d_callH (k := 2) H_greatest_loops hr (by decide) trivial rfl (takes_of rfl rfl rfl rfl) (d_acons (d_var (pv 0)) (d_acons (d_var (pv 5)) d_anil)))) (d_gname (pg_name (i := 6) nd rfl (Or.inl rfl))) (d_cons (d_set (ps_set (i := 7) nd rfl (Or.inl rfl) (d_callH (k := 2) H_without_wrong_top hr (by decide) trivial rfl (takes_of rfl rfl rfl rfl) (d_acons (d_var (pv 6)) (d_acons (d_var (pv 2)) d_anil))))) (d_one (d_sif (t_eq hu (d_len rfl T.m_len (d_acons (d_var (pv 7)) d_anil)) (d_len rfl T.m_len (d_acons (d_var (pv 6)) d_anil))) (d_one (d_push (pv 3) (d_var (pv 6)))) (d_one (d_push (pv 4) (d_var (pv 7))))))))))) (d_one (d_freeze (i := 3) (d_ret (d_var (pv 3))))))))
def N_leading_to : List Str := ["arrows", "goals", "leads", "_", "number", "k"]
def P_leading_to : List Str := ["arrows", "goals"]
theorem sc_leading_to : FnScope N_leading_to P_leading_to (defScope s_leading_to) := ⟨rfl, rfl, rfl, by decide +kernel, rfl, by decide +kernel, by decide +kernel⟩
theorem ok_leading_to (T : Facts K mg M) (Fu : Fun K "leading_to" "leading_to" s_leading_to fa fd) : FnG P w K mg base GT 1 fa fd P_leading_to (spD K (F_leading_to)) := by
  refine d_def (N := N_leading_to) (ps := P_leading_to) (G := G_leading_to) Fu sc_leading_to fun cdv A outer s H E C hr hg => ?_
  have nd := sc_leading_to.nd
  have hu := hr.units
  exact (d_cons (d_setF (ps_set (i := 2) nd rfl (Or.inr rfl) (d_lc (ctg_name (i := 4) (by decide)) (pe_lc (own := [("number", 4)]) rfl nd (d_irange rfl T.m_range (d_acons (d_len rfl T.m_len (d_acons (d_var (pv 0)) d_anil)) d_anil)) (blkOk_by (N := N_leading_to) (sc := defScope s_leading_to) (by decide +kernel)) (fun _ _ _ _ _ => (pg_name (i := 4) nd rfl (Or.inl rfl))) (fun _ _ _ _ _ => d_tsany fun C => d_tsnil) (fun _ _ _ _ _ => d_any fun C => (d_inq (d_var (pv 4)) (d_var (pv 1)))))))) (d_cons (d_for (passes_of rfl) rfl (d_iany (d_var (pv 0))) (d_gname (pg_name (i := 3) nd rfl (Or.inl rfl))) (d_one (d_setF (ps_set (i := 2) nd rfl (Or.inr rfl) (d_lc (ctg_name (i := 4) (by decide)) (pe_lc (own := [("number", 4)]) rfl nd (d_irange rfl T.m_range (d_acons (d_len rfl T.m_len (d_acons (d_var (pv 0)) d_anil)) d_anil)) (blkOk_by (N := N_leading_to) (sc := defScope s_leading_to) (by decide +kernel)) (fun _ _ _ _ _ => (pg_name (i := 4) nd rfl (Or.inl rfl))) (fun _ _ _ _ _ => d_tsany fun C => d_tsnil) (fun _ _ _ _ _ => d_any fun C => (d_eor (d_ix (d_var (pv 2)) (d_var (pv 4)) (fun _ _ => rfl)) (pe_one (d_any' rfl rfl T.m_any (d_acons (d_share (d_lc (ctg_name (i := 5) (by decide)) (pe_lc (own := [("k", 5)]) rfl nd (d_iany (d_ix (d_var (pv 0)) (d_var (pv 4)) (fun _ _ => rfl))) (blkOk_by (by kernel_rfl)) (fun _ _ _ _ _ => (pg_name (i := 5) nd rfl (Or.inl rfl))) (fun _ _ _ _ _ => d_tsany fun C => d_tsnil) (fun _ _ _ _ _ => d_any fun C => (d_ix (d_var (pv 2)) (d_var (pv 5)) (fun _ _ => rfl)))))) d_anil))))))))))) (d_one (d_ret (d_share (d_lc (ctg_name (i := 4) (by decide)) (pe_lc (own := [("number", 4)]) rfl nd (d_irange rfl T.m_range (d_acons (d_len rfl T.m_len (d_acons (d_var (pv 0)) d_anil)) d_anil)) (blkOk_by (N := N_leading_to) (sc := defScope s_leading_to) (by decide +kernel)) (fun _ _ _ _ _ => (pg_name (i := 4) nd rfl (Or.inl rfl))) (fun _ _ _ _ _ => d_tsany fun C => (d_tsone (d_tval (d_ix (d_var (pv 2)) (d_var (pv 4)) (fun _ _ => rfl)) (fun _ => rfl)))) (fun _ _ _ _ _ => d_any fun C => (d_var (pv 4))))))))))
def N_leading_to_loops : List Str := ["machine", "evenness", "arrows", "loops", "loop", "k"]
def P_leading_to_loops : List Str := ["machine", "evenness"]
theorem sc_leading_to_loops : FnScope N_leading_to_loops P_leading_to_loops (defScope s_leading_to_loops) := ⟨rfl, rfl, rfl, by decide +kernel, rfl, by decide +kernel, by decide +kernel⟩
theorem ok_leading_to_loops (T : Facts K mg M) (Fu : Fun K "leading_to_loops" "leading_to_loops" s_leading_to_loops fa fd) (H_arrows_of : Has P w K mg base GT 3 "arrows_of" P_arrows_of (spD K (F_arrows_of M))) (H_colours_of : Has P w K mg base GT 3 "colours_of" P_colours_of (spD K (F_colours_of M))) (H_loops_as_asked : Has P w K mg base GT 3 "loops_as_asked" P_loops_as_asked (spD K (F_loops_as_asked))) (H_leading_to : Has P w K mg base GT 1 "leading_to" P_leading_to (spD K (F_leading_to))) (H_len : HasLen P w K mg base M) : FnG P w K mg base GT 4 fa fd P_leading_to_loops (spD K (F_leading_to_loops M)) := by
  refine d_def (N := N_leading_to_loops) (ps := P_leading_to_loops) (G := G_leading_to_loops M) Fu sc_leading_to_loops fun cdv A outer s H E C hr hg => ?_
  have nd := sc_leading_to_loops.nd
  have hu := hr.units
  exact (d_cons (d_set (ps_set (i := 2) nd rfl (Or.inl rfl) (d_callH (k := 3) H_arrows_of hr (by decide) trivial rfl (takes_of rfl rfl rfl rfl) (d_acons (d_var (pv 0)) d_anil)))) (d_cons (d_set (ps_set (i := 3) nd rfl (Or.inl rfl) (d_callH (k := 3) H_loops_as_asked hr (by decide) trivial rfl (takes_of rfl rfl rfl rfl) (d_acons (d_var (pv 2)) (d_acons (d_share (d_listRg rfl rfl T.m_list rfl T.m_range (d_lenH (k := 3) H_len hr (by decide) rfl T.m_len (d_acons (d_var (pv 0)) d_anil)))) (d_acons (d_share (d_lst (d_acons (d_tup (d_acons (d_callH (k := 3) H_colours_of hr (by decide) trivial rfl (takes_of rfl rfl rfl rfl) (d_acons (d_var (pv 0)) d_anil)) (d_acons (d_var (pv 1)) d_anil))) d_anil))) d_anil)))))) (d_one (d_ret (d_callH (k := 3) H_leading_to hr (by decide) trivial rfl (takes_of rfl rfl rfl rfl) (d_acons (d_var (pv 2)) (d_acons (d_share (d_lc2 (ctg_name (i := 4) (by decide)) (ctg_name (i := 5) (by decide)) (pe_lc2 (own := [("loop", 4), ("k", 5)]) rfl nd (d_iany (d_var (pv 3))) (blkOk_by (N := N_leading_to_loops) (sc := defScope s_leading_to_loops) (by decide +kernel)) (by decide) (fun _ _ _ _ _ => (pg_name (i := 4) nd rfl (Or.inl rfl))) (fun _ _ _ _ _ => d_tsany fun C => d_tsnil) (fun _ _ _ _ _ => d_iany2 fun C => (d_iany (d_var (pv 4)))) (fun _ _ _ _ _ => (pg_name (i := 5) nd rfl (Or.inl rfl))) (fun _ _ _ _ _ => d_tsany fun C => d_tsnil) (fun _ _ _ _ _ => d_any fun C => (d_var (pv 5)))))) d_anil)))))))
def N_live : List Str := ["machine"]
def P_live : List Str := ["machine"]
theorem sc_live : FnScope N_live P_live (defScope s_live) := ⟨rfl, rfl, rfl, by decide +kernel, rfl, by decide +kernel, by decide +kernel⟩
theorem ok_live (T : Facts K mg M) (Fu : Fun K "live" "live" s_live fa fd) (H_check_machine : Has P w K mg base GT 3 "check_machine" P_check_machine (spD K (F_check_machine M))) (H_leading_to_loops : Has P w K mg base GT 4 "leading_to_loops" P_leading_to_loops (spD K (F_leading_to_loops M))) : FnG P w K mg base GT 5 fa fd P_live (spD K (F_live M)) := by
  refine d_def (N := N_live) (ps := P_live) (G := G_live M) Fu sc_live fun cdv A outer s H E C hr hg => ?_
  have nd := sc_live.nd
  have hu := hr.units
  exact (d_cons (d_expr (d_callH (k := 4) H_check_machine hr (by decide) trivial rfl (takes_of rfl rfl rfl rfl) (d_acons (d_var (pv 0)) d_anil))) (d_one (d_ret (d_tuple rfl T.m_tuple (d_acons (d_callH (k := 4) H_leading_to_loops hr (by decide) trivial rfl (takes_of rfl rfl rfl rfl) (d_acons (d_var (pv 0)) (d_acons (d_inte rfl T.m_EVEN) d_anil))) d_anil)))))
def N_words_from : List Str := ["letters", "arrows", "begin", "inside", "words", "order", "at", "number", "row", "letter", "following"]
def P_words_from : List Str := ["letters", "arrows", "begin", "inside"]
theorem sc_words_from : FnScope N_words_from P_words_from (defScope s_words_from) := ⟨rfl, rfl, rfl, by decide +kernel, rfl, by decide +kernel, by decide +kernel⟩
theorem ok_words_from (T : Facts K mg M) (Fu : Fun K "words_from" "words_from" s_words_from fa fd) : FnG P w K mg base GT 1 fa fd P_words_from (spD K (F_words_from)) := by
  refine d_def (N := N_words_from) (ps := P_words_from) (G := G_words_from) Fu sc_words_from fun cdv A outer s H E C hr hg => ?_
  have nd := sc_words_from.nd
  have hu := hr.units
  exact (d_cons (d_own (ps_set (i := 4) nd rfl (Or.inl rfl) (d_done (fun C => (d_var (pv 2))) (fun C => (d_const pe_str fun _ => .str _))))) (d_cons (d_own (ps_set (i := 5) nd rfl (Or.inl rfl) (d_lst (d_acons (d_var (pv 2)) d_anil)))) (d_cons (d_set (ps_set (i := 6) nd rfl (Or.inl rfl) (d_const pe_int fun _ => .int _))) (d_cons (d_while (passes_of rfl) (t_lt (d_var (pv 6)) (d_lenOw rfl T.m_len (pv 5))) (d_cons (d_set (ps_set (i := 7) nd rfl (Or.inl rfl) (d_ixOw (pv 5) (d_var (pv 6)) (fun _ _ => rfl)))) (d_cons (d_set (ps_set (i := 8) nd rfl (Or.inl rfl) (d_ix (d_var (pv 1)) (d_var (pv 7)) (fun _ _ => rfl)))) (d_cons (d_for (passes_of rfl) rfl (d_izipX rfl T.m_zip (d_acons (d_var (pv 0)) (d_acons (d_var (pv 8)) d_anil))) (d_gtup rfl (d_gcons (d_gname (pg_name (i := 9) nd rfl (Or.inl rfl))) (d_gcons (d_gname (pg_name (i := 10) nd rfl (Or.inl rfl))) d_gnil))) (d_one (d_sif (PW.pt (d_and (t_inq (d_var (pv 10)) (d_var (pv 3))) (pw_and1 (t_ninDOw (hu1 hu) (d_var (pv 10)) (pv 4))))) (d_cons (d_dput (hu1 hu) (pv 4) (d_var (pv 10)) (d_add (d_dgOw (hu1 hu) (pv 4) (d_var (pv 7)) (fun _ _ => rfl)) (d_var (pv 9)))) (d_one (d_push (pv 5) (d_var (pv 10))))) d_nil))) (d_one (d_aug (ps_aug (i := 6) nd rfl (Or.inl rfl) (d_const pe_int fun _ => .int _) ip_add))))))) (d_one (d_freeze (i := 4) (d_ret (d_var (pv 4)))))))))
def N_first_words : List Str := ["machine"]
def P_first_words : List Str := ["machine"]
theorem sc_first_words : FnScope N_first_words P_first_words (defScope s_first_words) := ⟨rfl, rfl, rfl, by decide +kernel, rfl, by decide +kernel, by decide +kernel⟩
theorem ok_first_words (T : Facts K mg M) (Fu : Fun K "first_words" "first_words" s_first_words fa fd) (H_arrows_of : Has P w K mg base GT 3 "arrows_of" P_arrows_of (spD K (F_arrows_of M))) (H_words_from : Has P w K mg base GT 1 "words_from" P_words_from (spD K (F_words_from))) (H_len : HasLen P w K mg base M) : FnG P w K mg base GT 4 fa fd P_first_words (spD K (F_first_words M)) := by
  refine d_def (N := N_first_words) (ps := P_first_words) (G := G_first_words M) Fu sc_first_words fun cdv A outer s H E C hr hg => ?_
  have nd := sc_first_words.nd
  have hu := hr.units
  exact (d_one (d_ret (d_callH (k := 3) H_words_from hr (by decide) trivial rfl (takes_of rfl rfl rfl rfl) (d_acons (d_propG (k := 3) (d_var (pv 0)) T.cM T.g_letters hr (by decide)) (d_acons (d_callH (k := 3) H_arrows_of hr (by decide) trivial rfl (takes_of rfl rfl rfl rfl) (d_acons (d_var (pv 0)) d_anil)) (d_acons (d_const pe_int fun _ => .int _) (d_acons (d_share (d_listRg rfl rfl T.m_list rfl T.m_range (d_lenH (k := 3) H_len hr (by decide) rfl T.m_len (d_acons (d_var (pv 0)) d_anil)))) d_anil)))))))
def N_reached : List Str := ["machine"]
def P_reached : List Str := ["machine"]
theorem sc_reached : FnScope N_reached P_reached (defScope s_reached) := ⟨rfl, rfl, rfl, by decide +kernel, rfl, by decide +kernel, by decide +kernel⟩
theorem ok_reached (T : Facts K mg M) (Fu : Fun K "reached" "reached" s_reached fa fd) (H_first_words : Has P w K mg base GT 4 "first_words" P_first_words (spD K (F_first_words M))) : FnG P w K mg base GT 5 fa fd P_reached (spD K (F_reached M)) := by
  refine d_def (N := N_reached) (ps := P_reached) (G := G_reached M) Fu sc_reached fun cdv A outer s H E C hr hg => ?_
  have nd := sc_reached.nd
  have hu := hr.units
  exact (d_one (d_ret (d_share (d_lstD rfl rfl T.m_list (d_callH (k := 4) H_first_words hr (by decide) trivial rfl (takes_of rfl rfl rfl rfl) (d_acons (d_var (pv 0)) d_anil))))))
def N_has_loop : List Str := ["machine", "states", "evenness"]
def P_has_loop : List Str := ["machine", "states", "evenness"]
theorem sc_has_loop : FnScope N_has_loop P_has_loop (defScope s_has_loop) := ⟨rfl, rfl, rfl, by decide +kernel, rfl, by decide +kernel, by decide +kernel⟩
theorem ok_has_loop (T : Facts K mg M) (Fu : Fun K "has_loop" "has_loop" s_has_loop fa fd) (H_colours_of : Has P w K mg base GT 3 "colours_of" P_colours_of (spD K (F_colours_of M))) (H_arrows_of : Has P w K mg base GT 3 "arrows_of" P_arrows_of (spD K (F_arrows_of M))) (H_loops_as_asked : Has P w K mg base GT 3 "loops_as_asked" P_loops_as_asked (spD K (F_loops_as_asked))) : FnG P w K mg base GT 4 fa fd P_has_loop (spD K (F_has_loop M)) := by
  refine d_def (N := N_has_loop) (ps := P_has_loop) (G := G_has_loop M) Fu sc_has_loop fun cdv A outer s H E C hr hg => ?_
  have nd := sc_has_loop.nd
  have hu := hr.units
  exact (d_one (d_ret (d_gt (d_len rfl T.m_len (d_acons (d_callH (k := 3) H_loops_as_asked hr (by decide) trivial rfl (takes_of rfl rfl rfl rfl) (d_acons (d_callH (k := 3) H_arrows_of hr (by decide) trivial rfl (takes_of rfl rfl rfl rfl) (d_acons (d_var (pv 0)) d_anil)) (d_acons (d_var (pv 1)) (d_acons (d_share (d_lst (d_acons (d_tup (d_acons (d_callH (k := 3) H_colours_of hr (by decide) trivial rfl (takes_of rfl rfl rfl rfl) (d_acons (d_var (pv 0)) d_anil)) (d_acons (d_var (pv 2)) d_anil))) d_anil))) d_anil)))) d_anil)) (d_const pe_int fun _ => .int _))))
def N_is_guard : List Str := ["machine", "living", "state"]
def P_is_guard : List Str := ["machine"]
theorem sc_is_guard : FnScope N_is_guard P_is_guard (defScope s_is_guard) := ⟨rfl, rfl, rfl, by decide +kernel, rfl, by decide +kernel, by decide +kernel⟩
theorem ok_is_guard (T : Facts K mg M) (Fu : Fun K "is_guard" "is_guard" s_is_guard fa fd) (H_check_machine : Has P w K mg base GT 3 "check_machine" P_check_machine (spD K (F_check_machine M))) (H_live : Has P w K mg base GT 5 "live" P_live (spD K (F_live M))) (H_reached : Has P w K mg base GT 5 "reached" P_reached (spD K (F_reached M))) (H_has_loop : Has P w K mg base GT 4 "has_loop" P_has_loop (spD K (F_has_loop M))) : FnG P w K mg base GT 6 fa fd P_is_guard (spD K (F_is_guard M)) := by
  refine d_def (N := N_is_guard) (ps := P_is_guard) (G := G_is_guard M) Fu sc_is_guard fun cdv A outer s H E C hr hg => ?_
  have nd := sc_is_guard.nd
  have hu := hr.units
  exact (d_cons (d_expr (d_callH (k := 5) H_check_machine hr (by decide) trivial rfl (takes_of rfl rfl rfl rfl) (d_acons (d_var (pv 0)) d_anil))) (d_cons (d_set (ps_set (i := 1) nd rfl (Or.inr rfl) (d_callH (k := 5) H_live hr (by decide) trivial rfl (takes_of rfl rfl rfl rfl) (d_acons (d_var (pv 0)) d_anil)))) (d_one (d_ret (d_enot (d_callH (k := 5) H_has_loop hr (by decide) trivial rfl (takes_of rfl rfl rfl rfl) (d_acons (d_var (pv 0)) (d_acons (d_share (d_lc (ctg_name (i := 2) (by decide)) (pe_lc (own := [("state", 2)]) rfl nd (d_iany (d_callH (k := 5) H_reached hr (by decide) trivial rfl (takes_of rfl rfl rfl rfl) (d_acons (d_var (pv 0)) d_anil))) (blkOk_by (N := N_is_guard) (sc := defScope s_is_guard) (by decide +kernel)) (fun _ _ _ _ _ => (pg_name (i := 2) nd rfl (Or.inl rfl))) (fun _ _ _ _ _ => d_tsany fun C => (d_tsone (t_inq (d_var (pv 2)) (d_var (pv 1))))) (fun _ _ _ _ _ => d_any fun C => (d_var (pv 2)))))) (d_acons (d_inte rfl T.m_ODD) d_anil)))))))))
def N_is_hope : List Str := ["machine", "living", "state"]
def P_is_hope : List Str := ["machine"]
theorem sc_is_hope : FnScope N_is_hope P_is_hope (defScope s_is_hope) := ⟨rfl, rfl, rfl, by decide +kernel, rfl, by decide +kernel, by decide +kernel⟩
theorem ok_is_hope (T : Facts K mg M) (Fu : Fun K "is_hope" "is_hope" s_is_hope fa fd) (H_check_machine : Has P w K mg base GT 3 "check_machine" P_check_machine (spD K (F_check_machine M))) (H_live : Has P w K mg base GT 5 "live" P_live (spD K (F_live M))) (H_reached : Has P w K mg base GT 5 "reached" P_reached (spD K (F_reached M))) : FnG P w K mg base GT 6 fa fd P_is_hope (spD K (F_is_hope M)) := by
  refine d_def (N := N_is_hope) (ps := P_is_hope) (G := G_is_hope M) Fu sc_is_hope fun cdv A outer s H E C hr hg => ?_
  have nd := sc_is_hope.nd
  have hu := hr.units
  exact (d_cons (d_expr (d_callH (k := 5) H_check_machine hr (by decide) trivial rfl (takes_of rfl rfl rfl rfl) (d_acons (d_var (pv 0)) d_anil))) (d_cons (d_set (ps_set (i := 1) nd rfl (Or.inr rfl) (d_callH (k := 5) H_live hr (by decide) trivial rfl (takes_of rfl rfl rfl rfl) (d_acons (d_var (pv 0)) d_anil)))) (d_one (d_ret (d_all rfl rfl T.m_all (d_acons (d_share (d_lc (ctg_name (i := 2) (by decide)) (pe_lc (own := [("state", 2)]) rfl nd (d_iany (d_callH (k := 5) H_reached hr (by decide) trivial rfl (takes_of rfl rfl rfl rfl) (d_acons (d_var (pv 0)) d_anil))) (blkOk_by (N := N_is_hope) (sc := defScope s_is_hope) (by decide +kernel)) (fun _ _ _ _ _ => (pg_name (i := 2) nd rfl (Or.inl rfl))) (fun _ _ _ _ _ => d_tsany fun C => d_tsnil) (fun _ _ _ _ _ => d_any fun C => (d_inq (d_var (pv 2)) (d_var (pv 1))))))) d_anil))))))
def N_sure : List Str := ["machine", "unsure", "k"]
def P_sure : List Str := ["machine"]
theorem sc_sure : FnScope N_sure P_sure (defScope s_sure) := ⟨rfl, rfl, rfl, by decide +kernel, rfl, by decide +kernel, by decide +kernel⟩
theorem ok_sure (T : Facts K mg M) (Fu : Fun K "sure" "sure" s_sure fa fd) (H_check_machine : Has P w K mg base GT 3 "check_machine" P_check_machine (spD K (F_check_machine M))) (H_leading_to_loops : Has P w K mg base GT 4 "leading_to_loops" P_leading_to_loops (spD K (F_leading_to_loops M))) (H_len : HasLen P w K mg base M) : FnG P w K mg base GT 5 fa fd P_sure (spD K (F_sure M)) := by
  refine d_def (N := N_sure) (ps := P_sure) (G := G_sure M) Fu sc_sure fun cdv A outer s H E C hr hg => ?_
  have nd := sc_sure.nd
  have hu := hr.units
  exact (d_cons (d_expr (d_callH (k := 4) H_check_machine hr (by decide) trivial rfl (takes_of rfl rfl rfl rfl) (d_acons (d_var (pv 0)) d_anil))) (d_cons (d_set (ps_set (i := 1) nd rfl (Or.inr rfl) (d_callH (k := 4) H_leading_to_loops hr (by decide) trivial rfl (takes_of rfl rfl rfl rfl) (d_acons (d_var (pv 0)) (d_acons (d_inte rfl T.m_ODD) d_anil))))) (d_one (d_ret (d_tuple rfl T.m_tuple (d_acons (d_share (d_lc (ctg_name (i := 2) (by decide)) (pe_lc (own := [("k", 2)]) rfl nd (d_irange rfl T.m_range (d_acons (d_lenH (k := 4) H_len hr (by decide) rfl T.m_len (d_acons (d_var (pv 0)) d_anil)) d_anil)) (blkOk_by (N := N_sure) (sc := defScope s_sure) (by decide +kernel)) (fun _ _ _ _ _ => (pg_name (i := 2) nd rfl (Or.inl rfl))) (fun _ _ _ _ _ => d_tsany fun C => (d_tsone (t_ninq (d_var (pv 2)) (d_var (pv 1))))) (fun _ _ _ _ _ => d_any fun C => (d_var (pv 2)))))) d_anil))))))
def N_is_promise : List Str := ["machine", "safe", "state"]
def P_is_promise : List Str := ["machine"]
theorem sc_is_promise : FnScope N_is_promise P_is_promise (defScope s_is_promise) := ⟨rfl, rfl, rfl, by decide +kernel, rfl, by decide +kernel, by decide +kernel⟩
theorem ok_is_promise (T : Facts K mg M) (Fu : Fun K "is_promise" "is_promise" s_is_promise fa fd) (H_check_machine : Has P w K mg base GT 3 "check_machine" P_check_machine (spD K (F_check_machine M))) (H_sure : Has P w K mg base GT 5 "sure" P_sure (spD K (F_sure M))) (H_reached : Has P w K mg base GT 5 "reached" P_reached (spD K (F_reached M))) (H_has_loop : Has P w K mg base GT 4 "has_loop" P_has_loop (spD K (F_has_loop M))) : FnG P w K mg base GT 6 fa fd P_is_promise (spD K (F_is_promise M)) := by
  refine d_def (N := N_is_promise) (ps := P_is_promise) (G := G_is_promise M) Fu sc_is_promise fun cdv A outer s H E C hr hg => ?_
  have nd := sc_is_promise.nd
  have hu := hr.units
  exact (d_cons (d_expr (d_callH (k := 5) H_check_machine hr (by decide) trivial rfl (takes_of rfl rfl rfl rfl) (d_acons (d_var (pv 0)) d_anil))) (d_cons (d_set (ps_set (i := 1) nd rfl (Or.inr rfl) (d_callH (k := 5) H_sure hr (by decide) trivial rfl (takes_of rfl rfl rfl rfl) (d_acons (d_var (pv 0)) d_anil)))) (d_one (d_ret (d_enot (d_callH (k := 5) H_has_loop hr (by decide) trivial rfl (takes_of rfl rfl rfl rfl) (d_acons (d_var (pv 0)) (d_acons (d_share (d_lc (ctg_name (i := 2) (by decide)) (pe_lc (own := [("state", 2)]) rfl nd (d_iany (d_callH (k := 5) H_reached hr (by decide) trivial rfl (takes_of rfl rfl rfl rfl) (d_acons (d_var (pv 0)) d_anil))) (blkOk_by (N := N_is_promise) (sc := defScope s_is_promise) (by decide +kernel)) (fun _ _ _ _ _ => (pg_name (i := 2) nd rfl (Or.inl rfl))) (fun _ _ _ _ _ => d_tsany fun C => (d_tsone (t_ninq (d_var (pv 2)) (d_var (pv 1))))) (fun _ _ _ _ _ => d_any fun C => (d_var (pv 2)))))) (d_acons (d_inte rfl T.m_EVEN) d_anil)))))))))
def N_nested_loops : List Str := ["machine", "inner", "outer", "arrows", "colours", "around", "loop"]
def P_nested_loops : List Str := ["machine", "inner", "outer"]
theorem sc_nested_loops : FnScope N_nested_loops P_nested_loops (defScope s_nested_loops) := ⟨rfl, rfl, rfl, by decide +kernel, rfl, by decide +kernel, by decide +kernel⟩
theorem ok_nested_loops (T : Facts K mg M) (Fu : Fun K "nested_loops" "nested_loops" s_nested_loops fa fd) (H_arrows_of : Has P w K mg base GT 3 "arrows_of" P_arrows_of (spD K (F_arrows_of M))) (H_colours_of : Has P w K mg base GT 3 "colours_of" P_colours_of (spD K (F_colours_of M))) (H_reached : Has P w K mg base GT 5 "reached" P_reached (spD K (F_reached M))) (H_loops_as_asked : Has P w K mg base GT 3 "loops_as_asked" P_loops_as_asked (spD K (F_loops_as_asked))) : FnG P w K mg base GT 6 fa fd P_nested_loops (spD K (F_nested_loops M)) := by
  refine d_def (N := N_nested_loops) (ps := P_nested_loops) (G := G_nested_loops M) Fu sc_nested_loops fun cdv A outer s H E C hr hg => ?_
  have nd := sc_nested_loops.nd
  have hu := hr.units
  exact (d_cons (d_set (ps_set (i := 3) nd rfl (Or.inl rfl) (d_callH (k := 5) H_arrows_of hr (by decide) trivial rfl (takes_of rfl rfl rfl rfl) (d_acons (d_var (pv 0)) d_anil)))) (d_cons (d_set (ps_set (i := 4) nd rfl (Or.inl rfl) (d_callH (k := 5) H_colours_of hr (by decide) trivial rfl (takes_of rfl rfl rfl rfl) (d_acons (d_var (pv 0)) d_anil)))) (d_cons (d_for (passes_of rfl) rfl (d_iany (d_callH (k := 5) H_loops_as_asked hr (by decide) trivial rfl (takes_of rfl rfl rfl rfl) (d_acons (d_var (pv 3)) (d_acons (d_callH (k := 5) H_reached hr (by decide) trivial rfl (takes_of rfl rfl rfl rfl) (d_acons (d_var (pv 0)) d_anil)) (d_acons (d_share (d_lst (d_acons (d_tup (d_acons (d_var (pv 4)) (d_acons (d_var (pv 2)) d_anil))) d_anil))) d_anil))))) (d_gname (pg_name (i := 5) nd rfl (Or.inl rfl))) (d_one (d_for (passes_of rfl) rfl (d_iany (d_callH (k := 5) H_loops_as_asked hr (by decide) trivial rfl (takes_of rfl rfl rfl rfl) (d_acons (d_var (pv 3)) (d_acons (d_var (pv 5)) (d_acons (d_share (d_lst (d_acons (d_tup (d_acons (d_var (pv 4)) (d_acons (d_var (pv 1)) d_anil))) d_anil))) d_anil))))) (d_gname (pg_name (i := 6) nd rfl (Or.inl rfl))) (d_one (d_ret (d_tup (d_acons (d_var (pv 6)) (d_acons (d_var (pv 5)) d_anil)))))))) (d_one (d_ret (d_const pe_non fun _ => .non))))))
def N_comes_again : List Str := ["machine"]
def P_comes_again : List Str := ["machine"]
theorem sc_comes_again : FnScope N_comes_again P_comes_again (defScope s_comes_again) := ⟨rfl, rfl, rfl, by decide +kernel, rfl, by decide +kernel, by decide +kernel⟩
theorem ok_comes_again (T : Facts K mg M) (Fu : Fun K "comes_again" "comes_again" s_comes_again fa fd) (H_check_machine : Has P w K mg base GT 3 "check_machine" P_check_machine (spD K (F_check_machine M))) (H_nested_loops : Has P w K mg base GT 6 "nested_loops" P_nested_loops (spD K (F_nested_loops M))) : FnG P w K mg base GT 7 fa fd P_comes_again (spD K (F_comes_again M)) := by
  refine d_def (N := N_comes_again) (ps := P_comes_again) (G := G_comes_again M) Fu sc_comes_again fun cdv A outer s H E C hr hg => ?_
  have nd := sc_comes_again.nd
  have hu := hr.units
  exact (d_cons (d_expr (d_callH (k := 6) H_check_machine hr (by decide) trivial rfl (takes_of rfl rfl rfl rfl) (d_acons (d_var (pv 0)) d_anil))) (d_one (d_ret (d_isn (d_callH (k := 6) H_nested_loops hr (by decide) trivial rfl (takes_of rfl rfl rfl rfl) (d_acons (d_var (pv 0)) (d_acons (d_inte rfl T.m_EVEN) (d_acons (d_inte rfl T.m_ODD) d_anil)))) (d_const pe_non fun _ => .non)))))
def N_does_stay : List Str := ["machine"]
def P_does_stay : List Str := ["machine"]
theorem sc_does_stay : FnScope N_does_stay P_does_stay (defScope s_does_stay) := ⟨rfl, rfl, rfl, by decide +kernel, rfl, by decide +kernel, by decide +kernel⟩
theorem ok_does_stay (T : Facts K mg M) (Fu : Fun K "does_stay" "does_stay" s_does_stay fa fd) (H_check_machine : Has P w K mg base GT 3 "check_machine" P_check_machine (spD K (F_check_machine M))) (H_nested_loops : Has P w K mg base GT 6 "nested_loops" P_nested_loops (spD K (F_nested_loops M))) : FnG P w K mg base GT 7 fa fd P_does_stay (spD K (F_does_stay M)) := by
  refine d_def (N := N_does_stay) (ps := P_does_stay) (G := G_does_stay M) Fu sc_does_stay fun cdv A outer s H E C hr hg => ?_
  have nd := sc_does_stay.nd
  have hu := hr.units
  exact (d_cons (d_expr (d_callH (k := 6) H_check_machine hr (by decide) trivial rfl (takes_of rfl rfl rfl rfl) (d_acons (d_var (pv 0)) d_anil))) (d_one (d_ret (d_isn (d_callH (k := 6) H_nested_loops hr (by decide) trivial rfl (takes_of rfl rfl rfl rfl) (d_acons (d_var (pv 0)) (d_acons (d_inte rfl T.m_ODD) (d_acons (d_inte rfl T.m_EVEN) d_anil)))) (d_const pe_non fun _ => .non)))))
def N_is_duty : List Str := ["machine"]
def P_is_duty : List Str := ["machine"]
theorem sc_is_duty : FnScope N_is_duty P_is_duty (defScope s_is_duty) := ⟨rfl, rfl, rfl, by decide +kernel, rfl, by decide +kernel, by decide +kernel⟩
theorem ok_is_duty (T : Facts K mg M) (Fu : Fun K "is_duty" "is_duty" s_is_duty fa fd) (H_comes_again : Has P w K mg base GT 7 "comes_again" P_comes_again (spD K (F_comes_again M))) (H_does_stay : Has P w K mg base GT 7 "does_stay" P_does_stay (spD K (F_does_stay M))) : FnG P w K mg base GT 8 fa fd P_is_duty (spD K (F_is_duty M)) := by
  refine d_def (N := N_is_duty) (ps := P_is_duty) (G := G_is_duty M) Fu sc_is_duty fun cdv A outer s H E C hr hg => ?_
  have nd := sc_is_duty.nd
  have hu := hr.units
  exact (d_one (d_ret (d_eand (d_callH (k := 7) H_comes_again hr (by decide) trivial rfl (takes_of rfl rfl rfl rfl) (d_acons (d_var (pv 0)) d_anil)) (pe_one (d_callH (k := 7) H_does_stay hr (by decide) trivial rfl (takes_of rfl rfl rfl rfl) (d_acons (d_var (pv 0)) d_anil))))))
def N_dead : List Str := ["machine", "living", "k"]
def P_dead : List Str := ["machine"]
theorem sc_dead : FnScope N_dead P_dead (defScope s_dead) := ⟨rfl, rfl, rfl, by decide +kernel, rfl, by decide +kernel, by decide +kernel⟩
theorem ok_dead (T : Facts K mg M) (Fu : Fun K "dead" "dead" s_dead fa fd) (H_live : Has P w K mg base GT 5 "live" P_live (spD K (F_live M))) (H_len : HasLen P w K mg base M) : FnG P w K mg base GT 6 fa fd P_dead (spD K (F_dead M)) := by
  refine d_def (N := N_dead) (ps := P_dead) (G := G_dead M) Fu sc_dead fun cdv A outer s H E C hr hg => ?_
  have nd := sc_dead.nd
  have hu := hr.units
  exact (d_cons (d_set (ps_set (i := 1) nd rfl (Or.inr rfl) (d_callH (k := 5) H_live hr (by decide) trivial rfl (takes_of rfl rfl rfl rfl) (d_acons (d_var (pv 0)) d_anil)))) (d_one (d_ret (d_share (d_lc (ctg_name (i := 2) (by decide)) (pe_lc (own := [("k", 2)]) rfl nd (d_irange rfl T.m_range (d_acons (d_lenH (k := 5) H_len hr (by decide) rfl T.m_len (d_acons (d_var (pv 0)) d_anil)) d_anil)) (blkOk_by (N := N_dead) (sc := defScope s_dead) (by decide +kernel)) (fun _ _ _ _ _ => (pg_name (i := 2) nd rfl (Or.inl rfl))) (fun _ _ _ _ _ => d_tsany fun C => (d_tsone (t_ninq (d_var (pv 2)) (d_var (pv 1))))) (fun _ _ _ _ _ => d_any fun C => (d_var (pv 2)))))))))
def N_is_watchable : List Str := ["machine", "told", "state"]
def P_is_watchable : List Str := ["machine"]
theorem sc_is_watchable : FnScope N_is_watchable P_is_watchable (defScope s_is_watchable) := ⟨rfl, rfl, rfl, by decide +kernel, rfl, by decide +kernel, by decide +kernel⟩
theorem ok_is_watchable (T : Facts K mg M) (Fu : Fun K "is_watchable" "is_watchable" s_is_watchable fa fd) (H_check_machine : Has P w K mg base GT 3 "check_machine" P_check_machine (spD K (F_check_machine M))) (H_sure : Has P w K mg base GT 5 "sure" P_sure (spD K (F_sure M))) (H_dead : Has P w K mg base GT 6 "dead" P_dead (spD K (F_dead M))) (H_arrows_of : Has P w K mg base GT 3 "arrows_of" P_arrows_of (spD K (F_arrows_of M))) (H_leading_to : Has P w K mg base GT 1 "leading_to" P_leading_to (spD K (F_leading_to))) (H_reached : Has P w K mg base GT 5 "reached" P_reached (spD K (F_reached M))) : FnG P w K mg base GT 7 fa fd P_is_watchable (spD K (F_is_watchable M)) := by
  refine d_def (N := N_is_watchable) (ps := P_is_watchable) (G := G_is_watchable M) Fu sc_is_watchable fun cdv A outer s H E C hr hg => ?_
  have nd := sc_is_watchable.nd
  have hu := hr.units
  exact (d_cons (d_expr (d_callH (k := 6) H_check_machine hr (by decide) trivial rfl (takes_of rfl rfl rfl rfl) (d_acons (d_var (pv 0)) d_anil))) (d_cons (d_set (ps_set (i := 1) nd rfl (Or.inr rfl) (d_callH (k := 6) H_leading_to hr (by decide) trivial rfl (takes_of rfl rfl rfl rfl) (d_acons (d_callH (k := 6) H_arrows_of hr (by decide) trivial rfl (takes_of rfl rfl rfl rfl) (d_acons (d_var (pv 0)) d_anil)) (d_acons (d_share (d_lst (d_astar (d_callH (k := 6) H_dead hr (by decide) trivial rfl (takes_of rfl rfl rfl rfl) (d_acons (d_var (pv 0)) d_anil)) (d_astar (d_callH (k := 6) H_sure hr (by decide) trivial rfl (takes_of rfl rfl rfl rfl) (d_acons (d_var (pv 0)) d_anil)) d_anil)))) d_anil))))) (d_one (d_ret (d_all rfl rfl T.m_all (d_acons (d_share (d_lc (ctg_name (i := 2) (by decide)) (pe_lc (own := [("state", 2)]) rfl nd (d_iany (d_callH (k := 6) H_reached hr (by decide) trivial rfl (takes_of rfl rfl rfl rfl) (d_acons (d_var (pv 0)) d_anil))) (blkOk_by (N := N_is_watchable) (sc := defScope s_is_watchable) (by decide +kernel)) (fun _ _ _ _ _ => (pg_name (i := 2) nd rfl (Or.inl rfl))) (fun _ _ _ _ _ => d_tsany fun C => d_tsnil) (fun _ _ _ _ _ => d_any fun C => (d_inq (d_var (pv 2)) (d_var (pv 1))))))) d_anil))))))
def N_is_kind : List Str := ["machine", "kind"]
def P_is_kind : List Str := ["machine", "kind"]
theorem sc_is_kind : FnScope N_is_kind P_is_kind (defScope s_is_kind) := ⟨rfl, rfl, rfl, by decide +kernel, rfl, by decide +kernel, by decide +kernel⟩
theorem ok_is_kind (T : Facts K mg M) (Fu : Fun K "is_kind" "is_kind" s_is_kind fa fd) (H_is_guard : Has P w K mg base GT 6 "is_guard" P_is_guard (spD K (F_is_guard M))) (H_is_hope : Has P w K mg base GT 6 "is_hope" P_is_hope (spD K (F_is_hope M))) (H_is_promise : Has P w K mg base GT 6 "is_promise" P_is_promise (spD K (F_is_promise M))) (H_is_duty : Has P w K mg base GT 8 "is_duty" P_is_duty (spD K (F_is_duty M))) (H_comes_again : Has P w K mg base GT 7 "comes_again" P_comes_again (spD K (F_comes_again M))) (H_does_stay : Has P w K mg base GT 7 "does_stay" P_does_stay (spD K (F_does_stay M))) (H_is_watchable : Has P w K mg base GT 7 "is_watchable" P_is_watchable (spD K (F_is_watchable M))) : FnG P w K mg base GT 9 fa fd P_is_kind (spD K (F_is_kind M)) := by
  refine d_def (N := N_is_kind) (ps := P_is_kind) (G := G_is_kind M) Fu sc_is_kind fun cdv A outer s H E C hr hg => ?_
  have nd := sc_is_kind.nd
  have hu := hr.units
  exact (d_cons (d_sif (t_eq hu (d_var (pv 1)) (d_const pe_str fun _ => .str _)) (d_one (d_ret (d_callH (k := 8) H_is_guard hr (by decide) trivial rfl (takes_of rfl rfl rfl rfl) (d_acons (d_var (pv 0)) d_anil)))) d_nil) (d_cons (d_sif (t_eq hu (d_var (pv 1)) (d_const pe_str fun _ => .str _)) (d_one (d_ret (d_callH (k := 8) H_is_hope hr (by decide) trivial rfl (takes_of rfl rfl rfl rfl) (d_acons (d_var (pv 0)) d_anil)))) d_nil) (d_cons (d_sif (t_eq hu (d_var (pv 1)) (d_const pe_str fun _ => .str _)) (d_one (d_ret (d_callH (k := 8) H_is_promise hr (by decide) trivial rfl (takes_of rfl rfl rfl rfl) (d_acons (d_var (pv 0)) d_anil)))) d_nil) (d_cons (d_sif (t_eq hu (d_var (pv 1)) (d_const pe_str fun _ => .str _)) (d_one (d_ret (d_callH (k := 8) H_is_duty hr (by decide) trivial rfl (takes_of rfl rfl rfl rfl) (d_acons (d_var (pv 0)) d_anil)))) d_nil) (d_cons (d_sif (t_eq hu (d_var (pv 1)) (d_const pe_str fun _ => .str _)) (d_one (d_ret (d_callH (k := 8) H_comes_again hr (by decide) trivial rfl (takes_of rfl rfl rfl rfl) (d_acons (d_var (pv 0)) d_anil)))) d_nil) (d_cons (d_sif (t_eq hu (d_var (pv 1)) (d_const pe_str fun _ => .str _)) (d_one (d_ret (d_callH (k := 8) H_does_stay hr (by decide) trivial rfl (takes_of rfl rfl rfl rfl) (d_acons (d_var (pv 0)) d_anil)))) d_nil) (d_one (d_ret (d_callH (k := 8) H_is_watchable hr (by decide) trivial rfl (takes_of rfl rfl rfl rfl) (d_acons (d_var (pv 0)) d_anil))))))))))
def N_least_colours : List Str := ["arrows", "colours", "numbers", "k", "least", "loop", "top", "below", "most", "least_top"]
def P_least_colours : List Str := ["arrows", "colours", "numbers"]
theorem sc_least_colours : FnScope N_least_colours P_least_colours (defScope s_least_colours) := ⟨rfl, rfl, rfl, by decide +kernel, rfl, by decide +kernel, by decide +kernel⟩
theorem ok_least_colours (T : Facts K mg M) (Fu : Fun K "least_colours" "least_colours" s_least_colours fa fd) {n : Nat} (hn : 2 ≤ n) {F_least_colours : DFn} (H_greatest_loops : Has P w K mg base GT 2 "greatest_loops" P_greatest_loops (spD K (F_greatest_loops))) (H_least_colours : Has P w K mg base GT n "least_colours" P_least_colours (spD K (F_least_colours))) : FnG P w K mg base GT (n + 1) fa fd P_least_colours (spD K (runD 10 3 (G_least_colours F_least_colours))) := by
  refine d_def (N := N_least_colours) (ps := P_least_colours) (G := G_least_colours F_least_colours) Fu sc_least_colours fun cdv A outer s H E C hr hg => ?_
  have nd := sc_least_colours.nd
  have hu := hr.units
  exact (d_cons (d_own (d_setdc (ctg_name (i := 3) (by decide)) (ps_setDc (i := 4) (own := [("k", 3)]) rfl nd rfl rfl (sw_trueD rfl rfl rfl (by decide +kernel)) (d_iany (d_var (pv 2))) (blkOk_by (N := N_least_colours) (sc := defScope s_least_colours) (by decide +kernel)) (fun _ _ _ _ _ => (pg_name (i := 3) nd rfl (Or.inl rfl))) (fun _ _ _ _ _ => d_tsany fun C => d_tsnil) (fun _ _ _ _ _ => d_any fun C => (d_var (pv 3))) (fun _ _ _ _ _ => d_any fun C => (d_const pe_int fun _ => .int _))))) (d_cons (d_for (passes_of rfl) rfl (d_iany (d_callH (k := n) H_greatest_loops hr (by omega) trivial rfl (takes_of rfl rfl rfl rfl) (d_acons (d_var (pv 0)) (d_acons (d_var (pv 2)) d_anil)))) (d_gname (pg_name (i := 5) nd rfl (Or.inl rfl))) (d_cons (d_set (ps_set (i := 6) nd rfl (Or.inr rfl) (d_maxL rfl rfl T.m_max (d_acons (d_share (d_lc (ctg_name (i := 3) (by decide)) (pe_lc (own := [("k", 3)]) rfl nd (d_iany (d_var (pv 5))) (blkOk_by (N := N_least_colours) (sc := defScope s_least_colours) (by decide +kernel)) (fun _ _ _ _ _ => (pg_name (i := 3) nd rfl (Or.inl rfl))) (fun _ _ _ _ _ => d_tsany fun C => d_tsnil) (fun _ _ _ _ _ => d_any fun C => (d_ix (d_var (pv 1)) (d_var (pv 3)) (fun _ _ => rfl)))))) d_anil)))) (d_cons (d_set (ps_set (i := 7) nd rfl (Or.inl rfl) (d_callH (k := n) H_least_colours hr (by omega) trivial rfl (takes_of rfl rfl rfl rfl) (d_acons (d_var (pv 0)) (d_acons (d_var (pv 1)) (d_acons (d_share (d_lc (ctg_name (i := 3) (by decide)) (pe_lc (own := [("k", 3)]) rfl nd (d_iany (d_var (pv 5))) (blkOk_by (N := N_least_colours) (sc := defScope s_least_colours) (by decide +kernel)) (fun _ _ _ _ _ => (pg_name (i := 3) nd rfl (Or.inl rfl))) (fun _ _ _ _ _ => d_tsany fun C => (d_tsone (t_lt (d_ix (d_var (pv 1)) (d_var (pv 3)) (fun _ _ => rfl)) (d_var (pv 6))))) (fun _ _ _ _ _ => d_any fun C => (d_var (pv 3)))))) d_anil)))))) (d_cons (d_set (ps_set (i := 8) nd rfl (Or.inl rfl) (d_maxL rfl rfl T.m_max (d_acons (d_share (d_lst (d_acons (d_const pe_int fun _ => .int _) (d_astar (d_share (d_listV rfl (d_var (pv 7)) rfl T.m_list)) d_anil)))) d_anil)))) (d_cons (d_set (ps_set (i := 9) nd rfl (Or.inl rfl) (d_add (d_var (pv 8)) (d_mod (d_add (d_var (pv 8)) (d_var (pv 6))) (d_const pe_int fun _ => .int _))))) (d_one (d_for (passes_of rfl) rfl (d_iany (d_var (pv 5))) (d_gname (pg_name (i := 3) nd rfl (Or.inl rfl))) (d_one (d_dput (hu1 hu) (pv 4) (d_var (pv 3)) (d_get2 (hu1 hu) (d_var (pv 7)) (d_var (pv 3)) (d_var (pv 9)) ⟨rfl, rfl, rfl, rfl⟩)))))))))) (d_one (d_freeze (i := 4) (d_ret (d_var (pv 4)))))))
def N_with_colours : List Str := ["machine", "colours", "k", "state"]
def P_with_colours : List Str := ["machine", "colours"]
theorem sc_with_colours : FnScope N_with_colours P_with_colours (defScope s_with_colours) := ⟨rfl, rfl, rfl, by decide +kernel, rfl, by decide +kernel, by decide +kernel⟩
theorem ok_with_colours (T : Facts K mg M) (Fu : Fun K "with_colours" "with_colours" s_with_colours fa fd) (H_Machine : HasM P w K mg base M) : FnG P w K mg base GT 6 fa fd P_with_colours (spD K (F_with_colours M)) := by
  refine d_def (N := N_with_colours) (ps := P_with_colours) (G := G_with_colours M) Fu sc_with_colours fun cdv A outer s H E C hr hg => ?_
  have nd := sc_with_colours.nd
  have hu := hr.units
  exact (d_one (d_ret (d_makeH H_Machine hr (by decide) rfl T.m_Machine (passes_call (takes_of rfl rfl rfl rfl) fun _ _ _ _ h => h) (d_acons (d_propG (k := 5) (d_var (pv 0)) T.cM T.g_letters hr (by decide)) (d_acons (d_tuple rfl T.m_tuple (d_acons (d_share (d_lc (ctg_pair (i := 2) (j := 3) (by decide) (by decide)) (pe_lc (own := [("k", 2), ("state", 3)]) rfl nd (d_ienumT rfl T.m_enumerate (d_acons (d_propG (k := 5) (d_var (pv 0)) T.cM T.g_states hr (by decide)) d_anil)) (blkOk_by (N := N_with_colours) (sc := defScope s_with_colours) (by decide +kernel)) (fun _ _ _ _ _ => (pg_tup rfl (pgs_cons (pg_name (i := 2) nd rfl (Or.inl rfl)) (pgs_cons (pg_name (i := 3) nd rfl (Or.inl rfl)) pgs_nil rfl) rfl) rfl rfl)) (fun _ _ _ _ _ => d_tsany fun C => d_tsnil) (fun _ _ _ _ _ => d_any fun C => (d_tup (d_acons (d_ix (d_var (pv 1)) (d_var (pv 2)) (fun _ _ => rfl)) (d_acons (d_ix (d_var (pv 3)) (d_const pe_int fun _ => .int _) (fun _ _ => rfl)) d_anil))))))) d_anil)) d_anil)))))
def N_recoloured : List Str := ["machine", "least", "k"]
def P_recoloured : List Str := ["machine"]
theorem sc_recoloured : FnScope N_recoloured P_recoloured (defScope s_recoloured) := ⟨rfl, rfl, rfl, by decide +kernel, rfl, by decide +kernel, by decide +kernel⟩
theorem ok_recoloured (T : Facts K mg M) (Fu : Fun K "recoloured" "recoloured" s_recoloured fa fd) (H_check_machine : Has P w K mg base GT 3 "check_machine" P_check_machine (spD K (F_check_machine M))) (H_reached : Has P w K mg base GT 5 "reached" P_reached (spD K (F_reached M))) (H_colours_of : Has P w K mg base GT 3 "colours_of" P_colours_of (spD K (F_colours_of M))) (H_arrows_of : Has P w K mg base GT 3 "arrows_of" P_arrows_of (spD K (F_arrows_of M))) (H_least_colours : Has P w K mg base GT 10 "least_colours" P_least_colours (spD K (F_least_colours))) (H_with_colours : Has P w K mg base GT 6 "with_colours" P_with_colours (spD K (F_with_colours M))) (H_len : HasLen P w K mg base M) : FnG P w K mg base GT 11 fa fd P_recoloured (spD K (F_recoloured M)) := by
  refine d_def (N := N_recoloured) (ps := P_recoloured) (G := G_recoloured M) Fu sc_recoloured fun cdv A outer s H E C hr hg => ?_
  have nd := sc_recoloured.nd
  have hu := hr.units
  exact (d_cons (d_expr (d_callH (k := 10) H_check_machine hr (by decide) trivial rfl (takes_of rfl rfl rfl rfl) (d_acons (d_var (pv 0)) d_anil))) (d_cons (d_set (ps_set (i := 1) nd rfl (Or.inr rfl) (d_callH (k := 10) H_least_colours hr (by decide) trivial rfl (takes_of rfl rfl rfl rfl) (d_acons (d_callH (k := 10) H_arrows_of hr (by decide) trivial rfl (takes_of rfl rfl rfl rfl) (d_acons (d_var (pv 0)) d_anil)) (d_acons (d_callH (k := 10) H_colours_of hr (by decide) trivial rfl (takes_of rfl rfl rfl rfl) (d_acons (d_var (pv 0)) d_anil)) (d_acons (d_callH (k := 10) H_reached hr (by decide) trivial rfl (takes_of rfl rfl rfl rfl) (d_acons (d_var (pv 0)) d_anil)) d_anil)))))) (d_one (d_ret (d_callH (k := 10) H_with_colours hr (by decide) trivial rfl (takes_of rfl rfl rfl rfl) (d_acons (d_var (pv 0)) (d_acons (d_share (d_lc (ctg_name (i := 2) (by decide)) (pe_lc (own := [("k", 2)]) rfl nd (d_irange rfl T.m_range (d_acons (d_lenH (k := 10) H_len hr (by decide) rfl T.m_len (d_acons (d_var (pv 0)) d_anil)) d_anil)) (blkOk_by (N := N_recoloured) (sc := defScope s_recoloured) (by decide +kernel)) (fun _ _ _ _ _ => (pg_name (i := 2) nd rfl (Or.inl rfl))) (fun _ _ _ _ _ => d_tsany fun C => d_tsnil) (fun _ _ _ _ _ => d_any fun C => (d_get2 (hu1 hu) (d_var (pv 1)) (d_var (pv 2)) (d_const pe_int fun _ => .int _) ⟨rfl, rfl, rfl, rfl⟩))))) d_anil)))))))
def N_depth : List Str := ["machine"]
def P_depth : List Str := ["machine"]
theorem sc_depth : FnScope N_depth P_depth (defScope s_depth) := ⟨rfl, rfl, rfl, by decide +kernel, rfl, by decide +kernel, by decide +kernel⟩
theorem ok_depth (T : Facts K mg M) (Fu : Fun K "depth" "depth" s_depth fa fd) (H_check_machine : Has P w K mg base GT 3 "check_machine" P_check_machine (spD K (F_check_machine M))) (H_recoloured : Has P w K mg base GT 11 "recoloured" P_recoloured (spD K (F_recoloured M))) (H_colours_of : Has P w K mg base GT 3 "colours_of" P_colours_of (spD K (F_colours_of M))) : FnG P w K mg base GT 12 fa fd P_depth (spD K (F_depth M)) := by
  refine d_def (N := N_depth) (ps := P_depth) (G := G_depth M) Fu sc_depth fun cdv A outer s H E C hr hg => ?_
  have nd := sc_depth.nd
  have hu := hr.units
  exact (d_cons (d_expr (d_callH (k := 11) H_check_machine hr (by decide) trivial rfl (takes_of rfl rfl rfl rfl) (d_acons (d_var (pv 0)) d_anil))) (d_one (d_ret (d_maxL rfl rfl T.m_max (d_acons (d_callH (k := 11) H_colours_of hr (by decide) trivial rfl (takes_of rfl rfl rfl rfl) (d_acons (d_callH (k := 11) H_recoloured hr (by decide) trivial rfl (takes_of rfl rfl rfl rfl) (d_acons (d_var (pv 0)) d_anil)) d_anil)) d_anil)))))
def N_state_after : List Str := ["machine", "word"]
def P_state_after : List Str := ["machine", "word"]
theorem sc_state_after : FnScope N_state_after P_state_after (defScope s_state_after) := ⟨rfl, rfl, rfl, by decide +kernel, rfl, by decide +kernel, by decide +kernel⟩
theorem ok_state_after (T : Facts K mg M) (Fu : Fun K "state_after" "state_after" s_state_after fa fd) (H_check_machine : Has P w K mg base GT 3 "check_machine" P_check_machine (spD K (F_check_machine M))) (H_is_word : Has P w K mg base GT 2 "is_word" P_is_word (spD K (F_is_word M))) (H_state_behind : Has P w K mg base GT 4 "state_behind" P_state_behind (spD K (F_state_behind M))) (HX_InvalidWord : HasX P w K mg base "InvalidWord" "given") : FnG P w K mg base GT 5 fa fd P_state_after (spD K (F_state_after M)) := by
  refine d_def (N := N_state_after) (ps := P_state_after) (G := G_state_after M) Fu sc_state_after fun cdv A outer s H E C hr hg => ?_
  have nd := sc_state_after.nd
  have hu := hr.units
  exact (d_cons (d_expr (d_callH (k := 4) H_check_machine hr (by decide) trivial rfl (takes_of rfl rfl rfl rfl) (d_acons (d_var (pv 0)) d_anil))) (d_cons (d_sif (d_not (d_tval (d_callH (k := 4) H_is_word hr (by decide) trivial rfl (takes_of rfl rfl rfl rfl) (d_acons (d_propG (k := 4) (d_var (pv 0)) T.cM T.g_letters hr (by decide)) (d_acons (d_var (pv 1)) d_anil))) (fun _ => rfl))) (d_one (d_raise HX_InvalidWord (hr.mono (by decide)) rfl (takes_of rfl rfl rfl rfl) rfl (d_var (pv 1)))) d_nil) (d_one (d_ret (d_callH (k := 4) H_state_behind hr (by decide) trivial rfl (takes_of rfl rfl rfl rfl) (d_acons (d_var (pv 0)) (d_acons (d_const pe_int fun _ => .int _) (d_acons (d_var (pv 1)) d_anil))))))))
def N_verdict_at : List Str := ["machine", "state"]
def P_verdict_at : List Str := ["machine", "state"]
theorem sc_verdict_at : FnScope N_verdict_at P_verdict_at (defScope s_verdict_at) := ⟨rfl, rfl, rfl, by decide +kernel, rfl, by decide +kernel, by decide +kernel⟩
theorem ok_verdict_at (T : Facts K mg M) (Fu : Fun K "verdict_at" "verdict_at" s_verdict_at fa fd) (H_dead : Has P w K mg base GT 6 "dead" P_dead (spD K (F_dead M))) (H_sure : Has P w K mg base GT 5 "sure" P_sure (spD K (F_sure M))) : FnG P w K mg base GT 7 fa fd P_verdict_at (spD K (F_verdict_at M)) := by
  refine d_def (N := N_verdict_at) (ps := P_verdict_at) (G := G_verdict_at M) Fu sc_verdict_at fun cdv A outer s H E C hr hg => ?_
  have nd := sc_verdict_at.nd
  have hu := hr.units
  exact (d_cons (d_sif (t_inq (d_var (pv 1)) (d_callH (k := 6) H_dead hr (by decide) trivial rfl (takes_of rfl rfl rfl rfl) (d_acons (d_var (pv 0)) d_anil))) (d_one (d_ret (d_stre rfl T.m_BAD))) d_nil) (d_one (d_ret (d_if (t_inq (d_var (pv 1)) (d_callH (k := 6) H_sure hr (by decide) trivial rfl (takes_of rfl rfl rfl rfl) (d_acons (d_var (pv 0)) d_anil))) (d_stre rfl T.m_GOOD) (d_stre rfl T.m_OPEN)))))
def N_verdict : List Str := ["machine", "word"]
def P_verdict : List Str := ["machine", "word"]
theorem sc_verdict : FnScope N_verdict P_verdict (defScope s_verdict) := ⟨rfl, rfl, rfl, by decide +kernel, rfl, by decide +kernel, by decide +kernel⟩
theorem ok_verdict (T : Facts K mg M) (Fu : Fun K "verdict" "verdict" s_verdict fa fd) (H_state_after : Has P w K mg base GT 5 "state_after" P_state_after (spD K (F_state_after M))) (H_verdict_at : Has P w K mg base GT 7 "verdict_at" P_verdict_at (spD K (F_verdict_at M))) : FnG P w K mg base GT 8 fa fd P_verdict (spD K (F_verdict M)) := by
  refine d_def (N := N_verdict) (ps := P_verdict) (G := G_verdict M) Fu sc_verdict fun cdv A outer s H E C hr hg => ?_
  have nd := sc_verdict.nd
  have hu := hr.units
  exact (d_one (d_ret (d_callH (k := 7) H_verdict_at hr (by decide) trivial rfl (takes_of rfl rfl rfl rfl) (d_acons (d_var (pv 0)) (d_acons (d_callH (k := 7) H_state_after hr (by decide) trivial rfl (takes_of rfl rfl rfl rfl) (d_acons (d_var (pv 0)) (d_acons (d_var (pv 1)) d_anil))) d_anil)))))
def N_check_pair : List Str := ["one", "other"]
def P_check_pair : List Str := ["one", "other"]
theorem sc_check_pair : FnScope N_check_pair P_check_pair (defScope s_check_pair) := ⟨rfl, rfl, rfl, by decide +kernel, rfl, by decide +kernel, by decide +kernel⟩
theorem ok_check_pair (T : Facts K mg M) (Fu : Fun K "check_pair" "check_pair" s_check_pair fa fd) (H_check_machine : Has P w K mg base GT 3 "check_machine" P_check_machine (spD K (F_check_machine M))) (HX_OtherLetters : HasX P w K mg base "OtherLetters" "given") : FnG P w K mg base GT 4 fa fd P_check_pair (spD K (F_check_pair M)) := by
  refine d_def (N := N_check_pair) (ps := P_check_pair) (G := G_check_pair M) Fu sc_check_pair fun cdv A outer s H E C hr hg => ?_
  have nd := sc_check_pair.nd
  have hu := hr.units
  exact (d_cons (d_expr (d_callH (k := 3) H_check_machine hr (by decide) trivial rfl (takes_of rfl rfl rfl rfl) (d_acons (d_var (pv 0)) d_anil))) (d_cons (d_expr (d_callH (k := 3) H_check_machine hr (by decide) trivial rfl (takes_of rfl rfl rfl rfl) (d_acons (d_var (pv 1)) d_anil))) (d_one (d_sif (t_ne hu (d_propG (k := 3) (d_var (pv 0)) T.cM T.g_letters hr (by decide)) (d_propG (k := 3) (d_var (pv 1)) T.cM T.g_letters hr (by decide))) (d_one (d_raise HX_OtherLetters (hr.mono (by decide)) rfl (takes_of rfl rfl rfl rfl) rfl (d_var (pv 1)))) d_nil))))
def N_pair_colours : List Str := ["one", "other", "pairs", "state", "beside", "pair"]
def P_pair_colours : List Str := ["one", "other"]
theorem sc_pair_colours : FnScope N_pair_colours P_pair_colours (defScope s_pair_colours) := ⟨rfl, rfl, rfl, by decide +kernel, rfl, by decide +kernel, by decide +kernel⟩
theorem ok_pair_colours (T : Facts K mg M) (Fu : Fun K "pair_colours" "pair_colours" s_pair_colours fa fd) : FnG P w K mg base GT 3 fa fd P_pair_colours (spD K (F_pair_colours M)) := by
  refine d_def (N := N_pair_colours) (ps := P_pair_colours) (G := G_pair_colours M) Fu sc_pair_colours fun cdv A outer s H E C hr hg => ?_
  have nd := sc_pair_colours.nd
  have hu := hr.units
  exact (d_cons (d_setF (d_setlc2 (ctg_name (i := 3) (by decide)) (ctg_name (i := 4) (by decide)) (ps_setLc2 (i := 2) (own := [("state", 3), ("beside", 4)]) rfl nd rfl rfl (sw_true rfl rfl rfl (by decide +kernel)) (d_iany (d_propG (k := 2) (d_var (pv 0)) T.cM T.g_states hr (by decide))) (blkOk_by (N := N_pair_colours) (sc := defScope s_pair_colours) (by decide +kernel)) (by decide) (fun _ _ _ _ _ => (pg_name (i := 3) nd rfl (Or.inl rfl))) (fun _ _ _ _ _ => d_tsany fun C => d_tsnil) (fun _ _ _ _ _ => d_iany2 fun C => (d_iany (d_propG (k := 2) (d_var (pv 1)) T.cM T.g_states hr (by decide)))) (fun _ _ _ _ _ => (pg_name (i := 4) nd rfl (Or.inl rfl))) (fun _ _ _ _ _ => d_tsany fun C => d_tsnil) (fun _ _ _ _ _ => d_any fun C => (d_tup (d_acons (d_ix (d_var (pv 3)) (d_const pe_int fun _ => .int _) (fun _ _ => rfl)) (d_acons (d_ix (d_var (pv 4)) (d_const pe_int fun _ => .int _) (fun _ _ => rfl)) d_anil))))))) (d_one (d_ret (d_tup (d_acons (d_share (d_lc (ctg_name (i := 5) (by decide)) (pe_lc (own := [("pair", 5)]) rfl nd (d_iany (d_var (pv 2))) (blkOk_by (N := N_pair_colours) (sc := defScope s_pair_colours) (by decide +kernel)) (fun _ _ _ _ _ => (pg_name (i := 5) nd rfl (Or.inl rfl))) (fun _ _ _ _ _ => d_tsany fun C => d_tsnil) (fun _ _ _ _ _ => d_any fun C => (d_ix (d_var (pv 5)) (d_const pe_int fun _ => .int _) (fun _ _ => rfl)))))) (d_acons (d_share (d_lc (ctg_name (i := 5) (by decide)) (pe_lc (own := [("pair", 5)]) rfl nd (d_iany (d_var (pv 2))) (blkOk_by (N := N_pair_colours) (sc := defScope s_pair_colours) (by decide +kernel)) (fun _ _ _ _ _ => (pg_name (i := 5) nd rfl (Or.inl rfl))) (fun _ _ _ _ _ => d_tsany fun C => d_tsnil) (fun _ _ _ _ _ => d_any fun C => (d_ix (d_var (pv 5)) (d_const pe_int fun _ => .int _) (fun _ _ => rfl)))))) d_anil))))))
def N_pair_arrows : List Str := ["one", "other", "many", "state", "beside", "low", "high"]
def P_pair_arrows : List Str := ["one", "other"]
theorem sc_pair_arrows : FnScope N_pair_arrows P_pair_arrows (defScope s_pair_arrows) := ⟨rfl, rfl, rfl, by decide +kernel, rfl, by decide +kernel, by decide +kernel⟩
theorem ok_pair_arrows (T : Facts K mg M) (Fu : Fun K "pair_arrows" "pair_arrows" s_pair_arrows fa fd) (H_len : HasLen P w K mg base M) : FnG P w K mg base GT 3 fa fd P_pair_arrows (spD K (F_pair_arrows M)) := by
  refine d_def (N := N_pair_arrows) (ps := P_pair_arrows) (G := G_pair_arrows M) Fu sc_pair_arrows fun cdv A outer s H E C hr hg => ?_
  have nd := sc_pair_arrows.nd
  have hu := hr.units
  exact (d_cons (d_set (ps_set (i := 2) nd rfl (Or.inr rfl) (d_lenH (k := 2) H_len hr (by decide) rfl T.m_len (d_acons (d_var (pv 1)) d_anil)))) (d_one (d_ret (d_share (d_lc2 (ctg_name (i := 3) (by decide)) (ctg_name (i := 4) (by decide)) (pe_lc2 (own := [("state", 3), ("beside", 4)]) rfl nd (d_iany (d_propG (k := 2) (d_var (pv 0)) T.cM T.g_states hr (by decide))) (blkOk_by (N := N_pair_arrows) (sc := defScope s_pair_arrows) (by decide +kernel)) (by decide) (fun _ _ _ _ _ => (pg_name (i := 3) nd rfl (Or.inl rfl))) (fun _ _ _ _ _ => d_tsany fun C => d_tsnil) (fun _ _ _ _ _ => d_iany2 fun C => (d_iany (d_propG (k := 2) (d_var (pv 1)) T.cM T.g_states hr (by decide)))) (fun _ _ _ _ _ => (pg_name (i := 4) nd rfl (Or.inl rfl))) (fun _ _ _ _ _ => d_tsany fun C => d_tsnil) (fun _ _ _ _ _ => d_any fun C => (d_share (d_lc (ctg_pair (i := 5) (j := 6) (by decide) (by decide)) (pe_lc (own := [("low", 5), ("high", 6)]) rfl nd (d_izip rfl T.m_zip (d_acons (d_ix (d_var (pv 3)) (d_const pe_int fun _ => .int _) (fun _ _ => rfl)) (d_acons (d_ix (d_var (pv 4)) (d_const pe_int fun _ => .int _) (fun _ _ => rfl)) d_anil))) (blkOk_by (by kernel_rfl)) (fun _ _ _ _ _ => (pg_tup rfl (pgs_cons (pg_name (i := 5) nd rfl (Or.inl rfl)) (pgs_cons (pg_name (i := 6) nd rfl (Or.inl rfl)) pgs_nil rfl) rfl) rfl rfl)) (fun _ _ _ _ _ => d_tsany fun C => d_tsnil) (fun _ _ _ _ _ => d_any fun C => (d_add (d_mul (d_var (pv 5)) (d_var (pv 2))) (d_var (pv 6))))))))))))))
def N_top_of : List Str := ["colours", "loop", "top", "k"]
def P_top_of : List Str := ["colours", "loop"]
theorem sc_top_of : FnScope N_top_of P_top_of (defScope s_top_of) := ⟨rfl, rfl, rfl, by decide +kernel, rfl, by decide +kernel, by decide +kernel⟩
theorem ok_top_of (T : Facts K mg M) (Fu : Fun K "top_of" "top_of" s_top_of fa fd) : FnG P w K mg base GT 1 fa fd P_top_of (spD K (F_top_of)) := by
  refine d_def (N := N_top_of) (ps := P_top_of) (G := G_top_of) Fu sc_top_of fun cdv A outer s H E C hr hg => ?_
  have nd := sc_top_of.nd
  have hu := hr.units
  exact (d_cons (d_set (ps_set (i := 2) nd rfl (Or.inr rfl) (d_maxL rfl rfl T.m_max (d_acons (d_share (d_lc (ctg_name (i := 3) (by decide)) (pe_lc (own := [("k", 3)]) rfl nd (d_iany (d_var (pv 1))) (blkOk_by (N := N_top_of) (sc := defScope s_top_of) (by decide +kernel)) (fun _ _ _ _ _ => (pg_name (i := 3) nd rfl (Or.inl rfl))) (fun _ _ _ _ _ => d_tsany fun C => d_tsnil) (fun _ _ _ _ _ => d_any fun C => (d_ix (d_var (pv 0)) (d_var (pv 3)) (fun _ _ => rfl)))))) d_anil)))) (d_one (d_ret (d_ix (d_share (d_lc (ctg_name (i := 3) (by decide)) (pe_lc (own := [("k", 3)]) rfl nd (d_iany (d_var (pv 1))) (blkOk_by (N := N_top_of) (sc := defScope s_top_of) (by decide +kernel)) (fun _ _ _ _ _ => (pg_name (i := 3) nd rfl (Or.inl rfl))) (fun _ _ _ _ _ => d_tsany fun C => (d_tsone (t_eq hu (d_ix (d_var (pv 0)) (d_var (pv 3)) (fun _ _ => rfl)) (d_var (pv 2))))) (fun _ _ _ _ _ => d_any fun C => (d_var (pv 3)))))) (d_const pe_int fun _ => .int _) (fun _ _ => rfl)))))
def N_word_round : List Str := ["letters", "arrows", "loop", "stops", "word", "state", "stop", "letter", "k"]
def P_word_round : List Str := ["letters", "arrows", "loop", "stops"]
theorem sc_word_round : FnScope N_word_round P_word_round (defScope s_word_round) := ⟨rfl, rfl, rfl, by decide +kernel, rfl, by decide +kernel, by decide +kernel⟩
theorem ok_word_round (T : Facts K mg M) (Fu : Fun K "word_round" "word_round" s_word_round fa fd) (H_words_from : Has P w K mg base GT 1 "words_from" P_words_from (spD K (F_words_from))) : FnG P w K mg base GT 2 fa fd P_word_round (spD K (F_word_round)) := by
  refine d_def (N := N_word_round) (ps := P_word_round) (G := G_word_round) Fu sc_word_round fun cdv A outer s H E C hr hg => ?_
  have nd := sc_word_round.nd
  have hu := hr.units
  exact (d_cons (d_asg (d_ix (d_share (d_lc (ctg_pair (i := 7) (j := 8) (by decide) (by decide)) (pe_lc (own := [("letter", 7), ("k", 8)]) rfl nd (d_izipX rfl T.m_zip (d_acons (d_var (pv 0)) (d_acons (d_ix (d_var (pv 1)) (d_ix (d_var (pv 3)) (d_const pe_int fun _ => .int _) (fun _ _ => rfl)) (fun _ _ => rfl)) d_anil))) (blkOk_by (N := N_word_round) (sc := defScope s_word_round) (by decide +kernel)) (fun _ _ _ _ _ => (pg_tup rfl (pgs_cons (pg_name (i := 7) nd rfl (Or.inl rfl)) (pgs_cons (pg_name (i := 8) nd rfl (Or.inl rfl)) pgs_nil rfl) rfl) rfl rfl)) (fun _ _ _ _ _ => d_tsany fun C => (d_tsone (t_inq (d_var (pv 8)) (d_var (pv 2))))) (fun _ _ _ _ _ => d_any fun C => (d_tup (d_acons (d_var (pv 7)) (d_acons (d_var (pv 8)) d_anil))))))) (d_const pe_int fun _ => .int _) (fun _ _ => rfl)) (d_gtup rfl (d_gcons (d_gname (pg_name (i := 4) nd rfl (Or.inl rfl))) (d_gcons (d_gname (pg_name (i := 5) nd rfl (Or.inl rfl))) d_gnil)))) (d_cons (d_for (passes_of rfl) rfl (d_iany (d_tup (d_astar (d_slice (d_var (pv 3)) (d_osome (d_const pe_int fun _ => .int _)) d_ono) (d_acons (d_ix (d_var (pv 3)) (d_const pe_int fun _ => .int _) (fun _ _ => rfl)) d_anil)))) (d_gname (pg_name (i := 6) nd rfl (Or.inl rfl))) (d_cons (d_set (ps_set (i := 4) nd rfl (Or.inl rfl) (d_add (d_var (pv 4)) (d_dg (hu1 hu) (d_callH (k := 1) H_words_from hr (by decide) trivial rfl (takes_of rfl rfl rfl rfl) (d_acons (d_var (pv 0)) (d_acons (d_var (pv 1)) (d_acons (d_var (pv 5)) (d_acons (d_var (pv 2)) d_anil))))) (d_var (pv 6)) (fun _ _ => rfl))))) (d_one (d_set (ps_set (i := 5) nd rfl (Or.inl rfl) (d_var (pv 6))))))) (d_one (d_ret (d_var (pv 4))))))
def N_lasso_from : List Str := ["letters", "arrows", "begin", "asked", "words", "loops", "loop", "stops", "pair"]
def P_lasso_from : List Str := ["letters", "arrows", "begin", "asked"]
theorem sc_lasso_from : FnScope N_lasso_from P_lasso_from (defScope s_lasso_from) := ⟨rfl, rfl, rfl, by decide +kernel, rfl, by decide +kernel, by decide +kernel⟩
theorem ok_lasso_from (T : Facts K mg M) (Fu : Fun K "lasso_from" "lasso_from" s_lasso_from fa fd) (H_words_from : Has P w K mg base GT 1 "words_from" P_words_from (spD K (F_words_from))) (H_loops_as_asked : Has P w K mg base GT 3 "loops_as_asked" P_loops_as_asked (spD K (F_loops_as_asked))) (H_top_of : Has P w K mg base GT 1 "top_of" P_top_of (spD K (F_top_of))) (H_word_round : Has P w K mg base GT 2 "word_round" P_word_round (spD K (F_word_round))) : FnG P w K mg base GT 4 fa fd P_lasso_from (spD K (F_lasso_from)) := by
  refine d_def (N := N_lasso_from) (ps := P_lasso_from) (G := G_lasso_from) Fu sc_lasso_from fun cdv A outer s H E C hr hg => ?_
  have nd := sc_lasso_from.nd
  have hu := hr.units
  exact (d_cons (d_set (ps_set (i := 4) nd rfl (Or.inl rfl) (d_callH (k := 3) H_words_from hr (by decide) trivial rfl (takes_of rfl rfl rfl rfl) (d_acons (d_var (pv 0)) (d_acons (d_var (pv 1)) (d_acons (d_var (pv 2)) (d_acons (d_share (d_listRg rfl rfl T.m_list rfl T.m_range (d_len rfl T.m_len (d_acons (d_var (pv 1)) d_anil)))) d_anil))))))) (d_cons (d_set (ps_set (i := 5) nd rfl (Or.inl rfl) (d_callH (k := 3) H_loops_as_asked hr (by decide) trivial rfl (takes_of rfl rfl rfl rfl) (d_acons (d_var (pv 1)) (d_acons (d_share (d_lstD rfl rfl T.m_list (d_var (pv 4)))) (d_acons (d_var (pv 3)) d_anil)))))) (d_cons (d_sif (d_not (d_truth (d_var (pv 5)))) (d_one (d_ret (d_const pe_non fun _ => .non))) d_nil) (d_cons (d_set (ps_set (i := 6) nd rfl (Or.inr rfl) (d_ix (d_var (pv 5)) (d_const pe_int fun _ => .int _) (fun _ _ => rfl)))) (d_cons (d_setF (ps_set (i := 7) nd rfl (Or.inl rfl) (d_lst (d_acons (d_ix (d_var (pv 6)) (d_const pe_int fun _ => .int _) (fun _ _ => rfl)) (d_astar (d_share (d_lc (ctg_name (i := 8) (by decide)) (pe_lc (own := [("pair", 8)]) rfl nd (d_iany (d_var (pv 3))) (blkOk_by (N := N_lasso_from) (sc := defScope s_lasso_from) (by decide +kernel)) (fun _ _ _ _ _ => (pg_name (i := 8) nd rfl (Or.inl rfl))) (fun _ _ _ _ _ => d_tsany fun C => d_tsnil) (fun _ _ _ _ _ => d_any fun C => (d_callH (k := 3) H_top_of hr (by decide) trivial rfl takes0 (d_acons (d_ix (d_var (pv 8)) (d_const pe_int fun _ => .int _) (fun _ _ => rfl)) (d_acons (d_var (pv 6)) d_anil))))))) d_anil))))) (d_one (d_ret (d_tup (d_acons (d_dg (hu1 hu) (d_var (pv 4)) (d_ix (d_var (pv 6)) (d_const pe_int fun _ => .int _) (fun _ _ => rfl)) (fun _ _ => rfl)) (d_acons (d_callH (k := 3) H_word_round hr (by decide) trivial rfl (takes_of rfl rfl rfl rfl) (d_acons (d_var (pv 0)) (d_acons (d_var (pv 1)) (d_acons (d_var (pv 6)) (d_acons (d_var (pv 7)) d_anil))))) d_anil))))))))))
def N_lasso_between : List Str := ["one", "other", "evenness", "beside", "colours", "others"]
def P_lasso_between : List Str := ["one", "other", "evenness", "beside"]
theorem sc_lasso_between : FnScope N_lasso_between P_lasso_between (defScope s_lasso_between) := ⟨rfl, rfl, rfl, by decide +kernel, rfl, by decide +kernel, by decide +kernel⟩
theorem ok_lasso_between (T : Facts K mg M) (Fu : Fun K "lasso_between" "lasso_between" s_lasso_between fa fd) (H_pair_colours : Has P w K mg base GT 3 "pair_colours" P_pair_colours (spD K (F_pair_colours M))) (H_pair_arrows : Has P w K mg base GT 3 "pair_arrows" P_pair_arrows (spD K (F_pair_arrows M))) (H_lasso_from : Has P w K mg base GT 4 "lasso_from" P_lasso_from (spD K (F_lasso_from))) : FnG P w K mg base GT 5 fa fd P_lasso_between (spD K (F_lasso_between M)) := by
  refine d_def (N := N_lasso_between) (ps := P_lasso_between) (G := G_lasso_between M) Fu sc_lasso_between fun cdv A outer s H E C hr hg => ?_
  have nd := sc_lasso_between.nd
  have hu := hr.units
  exact (d_cons (d_asg (d_callH (k := 4) H_pair_colours hr (by decide) trivial rfl (takes_of rfl rfl rfl rfl) (d_acons (d_var (pv 0)) (d_acons (d_var (pv 1)) d_anil))) (d_gtup rfl (d_gcons (d_gname (pg_name (i := 4) nd rfl (Or.inl rfl))) (d_gcons (d_gname (pg_name (i := 5) nd rfl (Or.inl rfl))) d_gnil)))) (d_one (d_ret (d_callH (k := 4) H_lasso_from hr (by decide) trivial rfl (takes_of rfl rfl rfl rfl) (d_acons (d_propG (k := 4) (d_var (pv 0)) T.cM T.g_letters hr (by decide)) (d_acons (d_callH (k := 4) H_pair_arrows hr (by decide) trivial rfl (takes_of rfl rfl rfl rfl) (d_acons (d_var (pv 0)) (d_acons (d_var (pv 1)) d_anil))) (d_acons (d_const pe_int fun _ => .int _) (d_acons (d_share (d_lst (d_acons (d_tup (d_acons (d_var (pv 4)) (d_acons (d_var (pv 2)) d_anil))) (d_acons (d_tup (d_acons (d_var (pv 5)) (d_acons (d_var (pv 3)) d_anil))) d_anil)))) d_anil))))))))
def N_parting : List Str := ["one", "other", "lasso"]
def P_parting : List Str := ["one", "other"]
theorem sc_parting : FnScope N_parting P_parting (defScope s_parting) := ⟨rfl, rfl, rfl, by decide +kernel, rfl, by decide +kernel, by decide +kernel⟩
theorem ok_parting (T : Facts K mg M) (Fu : Fun K "parting" "parting" s_parting fa fd) (H_check_pair : Has P w K mg base GT 4 "check_pair" P_check_pair (spD K (F_check_pair M))) (H_lasso_between : Has P w K mg base GT 5 "lasso_between" P_lasso_between (spD K (F_lasso_between M))) : FnG P w K mg base GT 6 fa fd P_parting (spD K (F_parting M)) := by
  refine d_def (N := N_parting) (ps := P_parting) (G := G_parting M) Fu sc_parting fun cdv A outer s H E C hr hg => ?_
  have nd := sc_parting.nd
  have hu := hr.units
  exact (d_cons (d_expr (d_callH (k := 5) H_check_pair hr (by decide) trivial rfl (takes_of rfl rfl rfl rfl) (d_acons (d_var (pv 0)) (d_acons (d_var (pv 1)) d_anil)))) (d_cons (d_set (ps_set (i := 2) nd rfl (Or.inl rfl) (d_callH (k := 5) H_lasso_between hr (by decide) trivial rfl (takes_of rfl rfl rfl rfl) (d_acons (d_var (pv 0)) (d_acons (d_var (pv 1)) (d_acons (d_inte rfl T.m_EVEN) (d_acons (d_inte rfl T.m_ODD) d_anil))))))) (d_one (d_ret (d_if (t_isn (d_var (pv 2)) (d_const pe_non fun _ => .non)) (d_callH (k := 5) H_lasso_between hr (by decide) trivial rfl (takes_of rfl rfl rfl rfl) (d_acons (d_var (pv 0)) (d_acons (d_var (pv 1)) (d_acons (d_inte rfl T.m_ODD) (d_acons (d_inte rfl T.m_EVEN) d_anil))))) (d_var (pv 2)))))))
def N_alike : List Str := ["one", "other"]
def P_alike : List Str := ["one", "other"]
theorem sc_alike : FnScope N_alike P_alike (defScope s_alike) := ⟨rfl, rfl, rfl, by decide +kernel, rfl, by decide +kernel, by decide +kernel⟩
theorem ok_alike (T : Facts K mg M) (Fu : Fun K "alike" "alike" s_alike fa fd) (H_parting : Has P w K mg base GT 6 "parting" P_parting (spD K (F_parting M))) : FnG P w K mg base GT 7 fa fd P_alike (spD K (F_alike M)) := by
  refine d_def (N := N_alike) (ps := P_alike) (G := G_alike M) Fu sc_alike fun cdv A outer s H E C hr hg => ?_
  have nd := sc_alike.nd
  have hu := hr.units
  exact (d_one (d_ret (d_isn (d_callH (k := 6) H_parting hr (by decide) trivial rfl (takes_of rfl rfl rfl rfl) (d_acons (d_var (pv 0)) (d_acons (d_var (pv 1)) d_anil))) (d_const pe_non fun _ => .non))))
def N_takes : List Str := ["machine", "lasso", "start", "turn", "rounds", "state", "k"]
def P_takes : List Str := ["machine", "lasso"]
theorem sc_takes : FnScope N_takes P_takes (defScope s_takes) := ⟨rfl, rfl, rfl, by decide +kernel, rfl, by decide +kernel, by decide +kernel⟩
theorem ok_takes (T : Facts K mg M) (Fu : Fun K "takes" "takes" s_takes fa fd) (H_state_behind : Has P w K mg base GT 4 "state_behind" P_state_behind (spD K (F_state_behind M))) (H_states_along : Has P w K mg base GT 3 "states_along" P_states_along (spD K (F_states_along M))) (H_len : HasLen P w K mg base M) : FnG P w K mg base GT 5 fa fd P_takes (spD K (F_takes M)) := by
  refine d_def (N := N_takes) (ps := P_takes) (G := G_takes M) Fu sc_takes fun cdv A outer s H E C hr hg => ?_
  have nd := sc_takes.nd
  have hu := hr.units
  exact (d_cons (d_asg (d_var (pv 1)) (d_gtup rfl (d_gcons (d_gname (pg_name (i := 2) nd rfl (Or.inl rfl))) (d_gcons (d_gname (pg_name (i := 3) nd rfl (Or.inl rfl))) d_gnil)))) (d_cons (d_set (ps_set (i := 4) nd rfl (Or.inl rfl) (d_mul (d_var (pv 3)) (d_lenH (k := 4) H_len hr (by decide) rfl T.m_len (d_acons (d_var (pv 0)) d_anil))))) (d_cons (d_set (ps_set (i := 5) nd rfl (Or.inl rfl) (d_callH (k := 4) H_state_behind hr (by decide) trivial rfl (takes_of rfl rfl rfl rfl) (d_acons (d_var (pv 0)) (d_acons (d_const pe_int fun _ => .int _) (d_acons (d_add (d_var (pv 2)) (d_var (pv 4))) d_anil)))))) (d_one (d_ret (d_eq hu (d_mod (d_maxL rfl rfl T.m_max (d_acons (d_share (d_lc (ctg_name (i := 6) (by decide)) (pe_lc (own := [("k", 6)]) rfl nd (d_iany (d_callH (k := 4) H_states_along hr (by decide) trivial rfl (takes_of rfl rfl rfl rfl) (d_acons (d_var (pv 0)) (d_acons (d_var (pv 5)) (d_acons (d_var (pv 4)) d_anil))))) (blkOk_by (N := N_takes) (sc := defScope s_takes) (by decide +kernel)) (fun _ _ _ _ _ => (pg_name (i := 6) nd rfl (Or.inl rfl))) (fun _ _ _ _ _ => d_tsany fun C => d_tsnil) (fun _ _ _ _ _ => d_any fun C => (d_ix (d_ix (d_propG (k := 4) (d_var (pv 0)) T.cM T.g_states hr (by decide)) (d_var (pv 6)) (fun _ _ => rfl)) (d_const pe_int fun _ => .int _) (fun _ _ => rfl)))))) d_anil)) (d_const pe_int fun _ => .int _)) (d_const pe_int fun _ => .int _)))))))
def N_lies_in : List Str := ["machine", "lasso"]
def P_lies_in : List Str := ["machine", "lasso"]
theorem sc_lies_in : FnScope N_lies_in P_lies_in (defScope s_lies_in) := ⟨rfl, rfl, rfl, by decide +kernel, rfl, by decide +kernel, by decide +kernel⟩
theorem ok_lies_in (T : Facts K mg M) (Fu : Fun K "lies_in" "lies_in" s_lies_in fa fd) (H_check_machine : Has P w K mg base GT 3 "check_machine" P_check_machine (spD K (F_check_machine M))) (H_is_lasso : Has P w K mg base GT 3 "is_lasso" P_is_lasso (spD K (F_is_lasso M))) (H_takes : Has P w K mg base GT 5 "takes" P_takes (spD K (F_takes M))) (HX_InvalidLasso : HasX P w K mg base "InvalidLasso" "given") : FnG P w K mg base GT 6 fa fd P_lies_in (spD K (F_lies_in M)) := by
  refine d_def (N := N_lies_in) (ps := P_lies_in) (G := G_lies_in M) Fu sc_lies_in fun cdv A outer s H E C hr hg => ?_
  have nd := sc_lies_in.nd
  have hu := hr.units
  exact (d_cons (d_expr (d_callH (k := 5) H_check_machine hr (by decide) trivial rfl (takes_of rfl rfl rfl rfl) (d_acons (d_var (pv 0)) d_anil))) (d_cons (d_sif (d_not (d_tval (d_callH (k := 5) H_is_lasso hr (by decide) trivial rfl (takes_of rfl rfl rfl rfl) (d_acons (d_propG (k := 5) (d_var (pv 0)) T.cM T.g_letters hr (by decide)) (d_acons (d_var (pv 1)) d_anil))) (fun _ => rfl))) (d_one (d_raise HX_InvalidLasso (hr.mono (by decide)) rfl (takes_of rfl rfl rfl rfl) rfl (d_var (pv 1)))) d_nil) (d_one (d_ret (d_callH (k := 5) H_takes hr (by decide) trivial rfl (takes_of rfl rfl rfl rfl) (d_acons (d_var (pv 0)) (d_acons (d_var (pv 1)) d_anil)))))))
def N_holds : List Str := ["machine", "demand", "word", "asked"]
def P_holds : List Str := ["machine", "demand"]
theorem sc_holds : FnScope N_holds P_holds (defScope s_holds) := ⟨rfl, rfl, rfl, by decide +kernel, rfl, by decide +kernel, by decide +kernel⟩
theorem ok_holds (T : Facts K mg M) (Fu : Fun K "holds" "holds" s_holds fa fd) (H_check_machine : Has P w K mg base GT 3 "check_machine" P_check_machine (spD K (F_check_machine M))) (H_is_demand : Has P w K mg base GT 9 "is_demand" P_is_demand (spD K (F_is_demand M))) (H_is_kind : Has P w K mg base GT 9 "is_kind" P_is_kind (spD K (F_is_kind M))) (H_depth : Has P w K mg base GT 12 "depth" P_depth (spD K (F_depth M))) (H_verdict : Has P w K mg base GT 8 "verdict" P_verdict (spD K (F_verdict M))) (H_machine_told : Has P w K mg base GT 7 "machine_told" P_machine_told (spD K (F_machine_told M))) (H_alike : Has P w K mg base GT 7 "alike" P_alike (spD K (F_alike M))) (H_lies_in : Has P w K mg base GT 6 "lies_in" P_lies_in (spD K (F_lies_in M))) (HX_InvalidDemand : HasX P w K mg base "InvalidDemand" "given") : FnG P w K mg base GT 13 fa fd P_holds (spD K (F_holds M)) := by
  refine d_def (N := N_holds) (ps := P_holds) (G := G_holds M) Fu sc_holds fun cdv A outer s H E C hr hg => ?_
  have nd := sc_holds.nd
  have hu := hr.units
  exact (d_cons (d_expr (d_callH (k := 12) H_check_machine hr (by decide) trivial rfl (takes_of rfl rfl rfl rfl) (d_acons (d_var (pv 0)) d_anil))) (d_cons (d_sif (d_not (d_tval (d_callH (k := 12) H_is_demand hr (by decide) trivial rfl (takes_of rfl rfl rfl rfl) (d_acons (d_var (pv 0)) (d_acons (d_var (pv 1)) d_anil))) (fun _ => rfl))) (d_one (d_raise HX_InvalidDemand (hr.mono (by decide)) rfl (takes_of rfl rfl rfl rfl) rfl (d_var (pv 1)))) d_nil) (d_cons (d_sif (t_eq hu (d_len rfl T.m_len (d_acons (d_var (pv 1)) d_anil)) (d_const pe_int fun _ => .int _)) (d_one (d_ret (d_callH (k := 12) H_is_kind hr (by decide) trivial rfl (takes_of rfl rfl rfl rfl) (d_acons (d_var (pv 0)) (d_acons (d_ix (d_var (pv 1)) (d_const pe_int fun _ => .int _) (fun _ _ => rfl)) d_anil))))) d_nil) (d_cons (d_asg (d_var (pv 1)) (d_gtup rfl (d_gcons (d_gname (pg_name (i := 2) nd rfl (Or.inl rfl))) (d_gcons (d_gname (pg_name (i := 3) nd rfl (Or.inl rfl))) d_gnil)))) (d_cons (d_sif (t_eq hu (d_var (pv 2)) (d_stre rfl T.m_DEPTH)) (d_one (d_ret (d_le (d_callH (k := 12) H_depth hr (by decide) trivial rfl (takes_of rfl rfl rfl rfl) (d_acons (d_var (pv 0)) d_anil)) (d_var (pv 3))))) d_nil) (d_cons (d_sif (t_inq (d_var (pv 2)) (d_tup (d_acons (d_stre rfl T.m_BAD) (d_acons (d_stre rfl T.m_GOOD) d_anil)))) (d_one (d_ret (d_eq hu (d_callH (k := 12) H_verdict hr (by decide) trivial rfl (takes_of rfl rfl rfl rfl) (d_acons (d_var (pv 0)) (d_acons (d_var (pv 3)) d_anil))) (d_var (pv 2))))) d_nil) (d_cons (d_sif (t_eq hu (d_var (pv 2)) (d_stre rfl T.m_LIKE)) (d_one (d_ret (d_callH (k := 12) H_alike hr (by decide) trivial rfl (takes_of rfl rfl rfl rfl) (d_acons (d_var (pv 0)) (d_acons (d_callH (k := 12) H_machine_told hr (by decide) trivial rfl (takes_of rfl rfl rfl rfl) (d_acons (d_var (pv 3)) d_anil)) d_anil))))) d_nil) (d_one (d_ret (d_eq hu (d_callH (k := 12) H_lies_in hr (by decide) trivial rfl (takes_of rfl rfl rfl rfl) (d_acons (d_var (pv 0)) (d_acons (d_var (pv 3)) d_anil))) (d_eq hu (d_var (pv 2)) (d_stre rfl T.m_IN))))))))))))
def N_accepts_demand : List Str := ["word", "machine", "demand", "certificate"]
def P_accepts_demand : List Str := ["word", "machine", "demand", "certificate"]
theorem sc_accepts_demand : FnScope N_accepts_demand P_accepts_demand (defScope s_accepts_demand) := ⟨rfl, rfl, rfl, by decide +kernel, rfl, by decide +kernel, by decide +kernel⟩
theorem ok_accepts_demand (T : Facts K mg M) (Fu : Fun K "accepts_demand" "accepts_demand" s_accepts_demand fa fd) (H_is_empty : Has P w K mg base GT 1 "is_empty" P_is_empty (spD K (F_is_empty M))) (H_is_demand : Has P w K mg base GT 9 "is_demand" P_is_demand (spD K (F_is_demand M))) (H_holds : Has P w K mg base GT 13 "holds" P_holds (spD K (F_holds M))) : FnG P w K mg base GT 14 fa fd P_accepts_demand (spD K (F_accepts_demand M)) := by
  refine d_def (N := N_accepts_demand) (ps := P_accepts_demand) (G := G_accepts_demand M) Fu sc_accepts_demand fun cdv A outer s H E C hr hg => ?_
  have nd := sc_accepts_demand.nd
  have hu := hr.units
  exact (d_cons (d_sif (PW.pt (d_or (d_not (d_tval (d_callH (k := 13) H_is_empty hr (by decide) trivial rfl (takes_of rfl rfl rfl rfl) (d_acons (d_var (pv 3)) d_anil)) (fun _ => rfl))) (pw_or1 (d_not (d_tval (d_callH (k := 13) H_is_demand hr (by decide) trivial rfl (takes_of rfl rfl rfl rfl) (d_acons (d_var (pv 1)) (d_acons (d_var (pv 2)) d_anil))) (fun _ => rfl)))))) (d_one (d_ret (d_const pe_bl fun _ => .bl _))) d_nil) (d_one (d_ret (d_eq hu (d_callH (k := 13) H_holds hr (by decide) trivial rfl (takes_of rfl rfl rfl rfl) (d_acons (d_var (pv 1)) (d_acons (d_var (pv 2)) d_anil))) (d_eq hu (d_var (pv 0)) (d_stre rfl T.m_HOLDS))))))
def N_shows_open : List Str := ["machine", "word", "value", "lasso"]
def P_shows_open : List Str := ["machine", "word", "value"]
theorem sc_shows_open : FnScope N_shows_open P_shows_open (defScope s_shows_open) := ⟨rfl, rfl, rfl, by decide +kernel, rfl, by decide +kernel, by decide +kernel⟩
theorem ok_shows_open (T : Facts K mg M) (Fu : Fun K "shows_open" "shows_open" s_shows_open fa fd) (H_is_word : Has P w K mg base GT 2 "is_word" P_is_word (spD K (F_is_word M))) (H_is_endless : Has P w K mg base GT 2 "is_endless" P_is_endless (spD K (F_is_endless M))) (H_takes : Has P w K mg base GT 5 "takes" P_takes (spD K (F_takes M))) : FnG P w K mg base GT 6 fa fd P_shows_open (spD K (F_shows_open M)) := by
  refine d_def (N := N_shows_open) (ps := P_shows_open) (G := G_shows_open M) Fu sc_shows_open fun cdv A outer s H E C hr hg => ?_
  have nd := sc_shows_open.nd
  have hu := hr.units
  exact (d_cons (d_sif (PW.pt (d_or (d_not (d_tval (d_callH (k := 5) H_is_word hr (by decide) trivial rfl (takes_of rfl rfl rfl rfl) (d_acons (d_propG (k := 5) (d_var (pv 0)) T.cM T.g_letters hr (by decide)) (d_acons (d_var (pv 1)) d_anil))) (fun _ => rfl))) (d_or (d_not (d_tval (d_isi (.ty _) (fun _ _ h => kit_ty h) (fun A b h => T.own T.k_tuple h) rfl T.m_isinstance (d_acons (d_var (pv 2)) (d_acons (d_tyn rfl T.m_tuple (by decide +kernel)) d_anil))) (fun _ => rfl))) (pw_or1 (t_ne hu (d_len rfl T.m_len (d_acons (d_var (pv 2)) d_anil)) (d_const pe_int fun _ => .int _)))))) (d_one (d_ret (d_const pe_bl fun _ => .bl _))) d_nil) (d_cons (d_sif (d_not (d_tval (d_all rfl rfl T.m_all (d_acons (d_share (d_lc (ctg_name (i := 3) (by decide)) (pe_lc (own := [("lasso", 3)]) rfl nd (d_iany (d_var (pv 2))) (blkOk_by (N := N_shows_open) (sc := defScope s_shows_open) (by decide +kernel)) (fun _ _ _ _ _ => (pg_name (i := 3) nd rfl (Or.inl rfl))) (fun _ _ _ _ _ => d_tsany fun C => d_tsnil) (fun _ _ _ _ _ => d_any fun C => (d_eand (d_callH (k := 5) H_is_endless hr (by decide) trivial rfl takes0 (d_acons (d_propG (k := 5) (d_var (pv 0)) T.cM T.g_letters hr (by decide)) (d_acons (d_var (pv 3)) d_anil))) (pe_one (d_bm PySem.F.slot_str_startswith PySem.F.type_str_startswith mt_startswith m_start (d_ix (d_var (pv 3)) (d_const pe_int fun _ => .int _) (fun _ _ => rfl)) (d_acons (d_var (pv 1)) d_anil)))))))) d_anil)) (fun _ => rfl))) (d_one (d_ret (d_const pe_bl fun _ => .bl _))) d_nil) (d_one (d_ret (d_eand (d_callH (k := 5) H_takes hr (by decide) trivial rfl (takes_of rfl rfl rfl rfl) (d_acons (d_var (pv 0)) (d_acons (d_ix (d_var (pv 2)) (d_const pe_int fun _ => .int _) (fun _ _ => rfl)) d_anil))) (pe_one (d_enot (d_callH (k := 5) H_takes hr (by decide) trivial rfl (takes_of rfl rfl rfl rfl) (d_acons (d_var (pv 0)) (d_acons (d_ix (d_var (pv 2)) (d_const pe_int fun _ => .int _) (fun _ _ => rfl)) d_anil))))))))))
def N_breaking : List Str := ["one", "other"]
def P_breaking : List Str := ["one", "other"]
theorem sc_breaking : FnScope N_breaking P_breaking (defScope s_breaking) := ⟨rfl, rfl, rfl, by decide +kernel, rfl, by decide +kernel, by decide +kernel⟩
theorem ok_breaking (T : Facts K mg M) (Fu : Fun K "breaking" "breaking" s_breaking fa fd) (H_check_pair : Has P w K mg base GT 4 "check_pair" P_check_pair (spD K (F_check_pair M))) (H_lasso_between : Has P w K mg base GT 5 "lasso_between" P_lasso_between (spD K (F_lasso_between M))) : FnG P w K mg base GT 6 fa fd P_breaking (spD K (F_breaking M)) := by
  refine d_def (N := N_breaking) (ps := P_breaking) (G := G_breaking M) Fu sc_breaking fun cdv A outer s H E C hr hg => ?_
  have nd := sc_breaking.nd
  have hu := hr.units
  exact (d_cons (d_expr (d_callH (k := 5) H_check_pair hr (by decide) trivial rfl (takes_of rfl rfl rfl rfl) (d_acons (d_var (pv 0)) (d_acons (d_var (pv 1)) d_anil)))) (d_one (d_ret (d_callH (k := 5) H_lasso_between hr (by decide) trivial rfl (takes_of rfl rfl rfl rfl) (d_acons (d_var (pv 0)) (d_acons (d_var (pv 1)) (d_acons (d_inte rfl T.m_EVEN) (d_acons (d_inte rfl T.m_ODD) d_anil))))))))
def N_within : List Str := ["one", "other"]
def P_within : List Str := ["one", "other"]
theorem sc_within : FnScope N_within P_within (defScope s_within) := ⟨rfl, rfl, rfl, by decide +kernel, rfl, by decide +kernel, by decide +kernel⟩
theorem ok_within (T : Facts K mg M) (Fu : Fun K "within" "within" s_within fa fd) (H_breaking : Has P w K mg base GT 6 "breaking" P_breaking (spD K (F_breaking M))) : FnG P w K mg base GT 7 fa fd P_within (spD K (F_within M)) := by
  refine d_def (N := N_within) (ps := P_within) (G := G_within M) Fu sc_within fun cdv A outer s H E C hr hg => ?_
  have nd := sc_within.nd
  have hu := hr.units
  exact (d_one (d_ret (d_isn (d_callH (k := 6) H_breaking hr (by decide) trivial rfl (takes_of rfl rfl rfl rfl) (d_acons (d_var (pv 0)) (d_acons (d_var (pv 1)) d_anil))) (d_const pe_non fun _ => .non))))
def N_stuck_pairs : List Str := ["one", "other", "arrows", "colours", "others", "loops", "free", "living", "loop", "k"]
def P_stuck_pairs : List Str := ["one", "other"]
theorem sc_stuck_pairs : FnScope N_stuck_pairs P_stuck_pairs (defScope s_stuck_pairs) := ⟨rfl, rfl, rfl, by decide +kernel, rfl, by decide +kernel, by decide +kernel⟩
theorem ok_stuck_pairs (T : Facts K mg M) (Fu : Fun K "stuck_pairs" "stuck_pairs" s_stuck_pairs fa fd) (H_pair_arrows : Has P w K mg base GT 3 "pair_arrows" P_pair_arrows (spD K (F_pair_arrows M))) (H_pair_colours : Has P w K mg base GT 3 "pair_colours" P_pair_colours (spD K (F_pair_colours M))) (H_loops_as_asked : Has P w K mg base GT 3 "loops_as_asked" P_loops_as_asked (spD K (F_loops_as_asked))) (H_leading_to : Has P w K mg base GT 1 "leading_to" P_leading_to (spD K (F_leading_to))) (H_live : Has P w K mg base GT 5 "live" P_live (spD K (F_live M))) (H_len : HasLen P w K mg base M) : FnG P w K mg base GT 6 fa fd P_stuck_pairs (spD K (F_stuck_pairs M)) := by
  refine d_def (N := N_stuck_pairs) (ps := P_stuck_pairs) (G := G_stuck_pairs M) Fu sc_stuck_pairs fun cdv A outer s H E C hr hg => ?_
  have nd := sc_stuck_pairs.nd
  have hu := hr.units
  exact (d_cons (d_set (ps_set (i := 2) nd rfl (Or.inl rfl) (d_callH (k := 5) H_pair_arrows hr (by decide) trivial rfl (takes_of rfl rfl rfl rfl) (d_acons (d_var (pv 0)) (d_acons (d_var (pv 1)) d_anil))))) (d_cons (d_asg (d_callH (k := 5) H_pair_colours hr (by decide) trivial rfl (takes_of rfl rfl rfl rfl) (d_acons (d_var (pv 0)) (d_acons (d_var (pv 1)) d_anil))) (d_gtup rfl (d_gcons (d_gname (pg_name (i := 3) nd rfl (Or.inl rfl))) (d_gcons (d_gname (pg_name (i := 4) nd rfl (Or.inl rfl))) d_gnil)))) (d_cons (d_set (ps_set (i := 5) nd rfl (Or.inl rfl) (d_callH (k := 5) H_loops_as_asked hr (by decide) trivial rfl (takes_of rfl rfl rfl rfl) (d_acons (d_var (pv 2)) (d_acons (d_share (d_listRg rfl rfl T.m_list rfl T.m_range (d_len rfl T.m_len (d_acons (d_var (pv 2)) d_anil)))) (d_acons (d_share (d_lst (d_acons (d_tup (d_acons (d_var (pv 3)) (d_acons (d_inte rfl T.m_EVEN) d_anil))) (d_acons (d_tup (d_acons (d_var (pv 4)) (d_acons (d_inte rfl T.m_EVEN) d_anil))) d_anil)))) d_anil)))))) (d_cons (d_set (ps_set (i := 6) nd rfl (Or.inr rfl) (d_callH (k := 5) H_leading_to hr (by decide) trivial rfl (takes_of rfl rfl rfl rfl) (d_acons (d_var (pv 2)) (d_acons (d_share (d_lc2 (ctg_name (i := 8) (by decide)) (ctg_name (i := 9) (by decide)) (pe_lc2 (own := [("loop", 8), ("k", 9)]) rfl nd (d_iany (d_var (pv 5))) (blkOk_by (N := N_stuck_pairs) (sc := defScope s_stuck_pairs) (by decide +kernel)) (by decide) (fun _ _ _ _ _ => (pg_name (i := 8) nd rfl (Or.inl rfl))) (fun _ _ _ _ _ => d_tsany fun C => d_tsnil) (fun _ _ _ _ _ => d_iany2 fun C => (d_iany (d_var (pv 8)))) (fun _ _ _ _ _ => (pg_name (i := 9) nd rfl (Or.inl rfl))) (fun _ _ _ _ _ => d_tsany fun C => d_tsnil) (fun _ _ _ _ _ => d_any fun C => (d_var (pv 9)))))) d_anil))))) (d_cons (d_set (ps_set (i := 7) nd rfl (Or.inr rfl) (d_callH (k := 5) H_live hr (by decide) trivial rfl (takes_of rfl rfl rfl rfl) (d_acons (d_var (pv 0)) d_anil)))) (d_one (d_ret (d_share (d_lc (ctg_name (i := 9) (by decide)) (pe_lc (own := [("k", 9)]) rfl nd (d_irange rfl T.m_range (d_acons (d_len rfl T.m_len (d_acons (d_var (pv 2)) d_anil)) d_anil)) (blkOk_by (N := N_stuck_pairs) (sc := defScope s_stuck_pairs) (by decide +kernel)) (fun _ _ _ _ _ => (pg_name (i := 9) nd rfl (Or.inl rfl))) (fun _ _ _ _ _ => d_tsany fun C => (d_tsone (PW.pt (d_and (t_inq (d_fdiv (d_var (pv 9)) (d_lenH (k := 5) H_len hr (by decide) rfl T.m_len (d_acons (d_var (pv 1)) d_anil))) (d_var (pv 7))) (pw_and1 (t_ninq (d_var (pv 9)) (d_var (pv 6)))))))) (fun _ _ _ _ _ => d_any fun C => (d_var (pv 9)))))))))))))
def N_first_word_to : List Str := ["letters", "arrows", "begin", "goals", "words", "found", "number", "word"]
def P_first_word_to : List Str := ["letters", "arrows", "begin", "goals"]
theorem sc_first_word_to : FnScope N_first_word_to P_first_word_to (defScope s_first_word_to) := ⟨rfl, rfl, rfl, by decide +kernel, rfl, by decide +kernel, by decide +kernel⟩
theorem ok_first_word_to (T : Facts K mg M) (Fu : Fun K "first_word_to" "first_word_to" s_first_word_to fa fd) (H_words_from : Has P w K mg base GT 1 "words_from" P_words_from (spD K (F_words_from))) : FnG P w K mg base GT 2 fa fd P_first_word_to (spD K (F_first_word_to)) := by
  refine d_def (N := N_first_word_to) (ps := P_first_word_to) (G := G_first_word_to) Fu sc_first_word_to fun cdv A outer s H E C hr hg => ?_
  have nd := sc_first_word_to.nd
  have hu := hr.units
  exact (d_cons (d_set (ps_set (i := 4) nd rfl (Or.inl rfl) (d_callH (k := 1) H_words_from hr (by decide) trivial rfl (takes_of rfl rfl rfl rfl) (d_acons (d_var (pv 0)) (d_acons (d_var (pv 1)) (d_acons (d_var (pv 2)) (d_acons (d_share (d_listRg rfl rfl T.m_list rfl T.m_range (d_len rfl T.m_len (d_acons (d_var (pv 1)) d_anil)))) d_anil))))))) (d_cons (d_setF (d_setlc (ctg_pair (i := 6) (j := 7) (by decide) (by decide)) (ps_setLc (i := 5) (own := [("number", 6), ("word", 7)]) rfl nd rfl rfl (sw_true rfl rfl rfl (by decide +kernel)) (d_items (d_var (pv 4))) (blkOk_by (N := N_first_word_to) (sc := defScope s_first_word_to) (by decide +kernel)) (fun _ _ _ _ _ => (pg_tup rfl (pgs_cons (pg_name (i := 6) nd rfl (Or.inl rfl)) (pgs_cons (pg_name (i := 7) nd rfl (Or.inl rfl)) pgs_nil rfl) rfl) rfl rfl)) (fun _ _ _ _ _ => d_tsany fun C => (d_tsone (t_inq (d_var (pv 6)) (d_var (pv 3))))) (fun _ _ _ _ _ => d_any fun C => (d_var (pv 7)))))) (d_one (d_ret (d_if (d_truth (d_var (pv 5))) (d_ix (d_var (pv 5)) (d_const pe_int fun _ => .int _) (fun _ _ => rfl)) (d_const pe_non fun _ => .non))))))
def N_jam : List Str := ["one", "other"]
def P_jam : List Str := ["one", "other"]
theorem sc_jam : FnScope N_jam P_jam (defScope s_jam) := ⟨rfl, rfl, rfl, by decide +kernel, rfl, by decide +kernel, by decide +kernel⟩
theorem ok_jam (T : Facts K mg M) (Fu : Fun K "jam" "jam" s_jam fa fd) (H_check_pair : Has P w K mg base GT 4 "check_pair" P_check_pair (spD K (F_check_pair M))) (H_stuck_pairs : Has P w K mg base GT 6 "stuck_pairs" P_stuck_pairs (spD K (F_stuck_pairs M))) (H_pair_arrows : Has P w K mg base GT 3 "pair_arrows" P_pair_arrows (spD K (F_pair_arrows M))) (H_first_word_to : Has P w K mg base GT 2 "first_word_to" P_first_word_to (spD K (F_first_word_to))) : FnG P w K mg base GT 7 fa fd P_jam (spD K (F_jam M)) := by
  refine d_def (N := N_jam) (ps := P_jam) (G := G_jam M) Fu sc_jam fun cdv A outer s H E C hr hg => ?_
  have nd := sc_jam.nd
  have hu := hr.units
  exact (d_cons (d_expr (d_callH (k := 6) H_check_pair hr (by decide) trivial rfl (takes_of rfl rfl rfl rfl) (d_acons (d_var (pv 0)) (d_acons (d_var (pv 1)) d_anil)))) (d_one (d_ret (d_callH (k := 6) H_first_word_to hr (by decide) trivial rfl (takes_of rfl rfl rfl rfl) (d_acons (d_propG (k := 6) (d_var (pv 0)) T.cM T.g_letters hr (by decide)) (d_acons (d_callH (k := 6) H_pair_arrows hr (by decide) trivial rfl (takes_of rfl rfl rfl rfl) (d_acons (d_var (pv 0)) (d_acons (d_var (pv 1)) d_anil))) (d_acons (d_const pe_int fun _ => .int _) (d_acons (d_callH (k := 6) H_stuck_pairs hr (by decide) trivial rfl (takes_of rfl rfl rfl rfl) (d_acons (d_var (pv 0)) (d_acons (d_var (pv 1)) d_anil))) d_anil))))))))
def N_in_step : List Str := ["one", "other"]
def P_in_step : List Str := ["one", "other"]
theorem sc_in_step : FnScope N_in_step P_in_step (defScope s_in_step) := ⟨rfl, rfl, rfl, by decide +kernel, rfl, by decide +kernel, by decide +kernel⟩
theorem ok_in_step (T : Facts K mg M) (Fu : Fun K "in_step" "in_step" s_in_step fa fd) (H_jam : Has P w K mg base GT 7 "jam" P_jam (spD K (F_jam M))) : FnG P w K mg base GT 8 fa fd P_in_step (spD K (F_in_step M)) := by
  refine d_def (N := N_in_step) (ps := P_in_step) (G := G_in_step M) Fu sc_in_step fun cdv A outer s H E C hr hg => ?_
  have nd := sc_in_step.nd
  have hu := hr.units
  exact (d_one (d_ret (d_isn (d_callH (k := 7) H_jam hr (by decide) trivial rfl (takes_of rfl rfl rfl rfl) (d_acons (d_var (pv 0)) (d_acons (d_var (pv 1)) d_anil))) (d_const pe_non fun _ => .non))))
def N_is_jam : List Str := ["one", "other", "word", "pair"]
def P_is_jam : List Str := ["one", "other", "word"]
theorem sc_is_jam : FnScope N_is_jam P_is_jam (defScope s_is_jam) := ⟨rfl, rfl, rfl, by decide +kernel, rfl, by decide +kernel, by decide +kernel⟩
theorem ok_is_jam (T : Facts K mg M) (Fu : Fun K "is_jam" "is_jam" s_is_jam fa fd) (H_state_behind : Has P w K mg base GT 4 "state_behind" P_state_behind (spD K (F_state_behind M))) (H_stuck_pairs : Has P w K mg base GT 6 "stuck_pairs" P_stuck_pairs (spD K (F_stuck_pairs M))) (H_len : HasLen P w K mg base M) : FnG P w K mg base GT 7 fa fd P_is_jam (spD K (F_is_jam M)) := by
  refine d_def (N := N_is_jam) (ps := P_is_jam) (G := G_is_jam M) Fu sc_is_jam fun cdv A outer s H E C hr hg => ?_
  have nd := sc_is_jam.nd
  have hu := hr.units
  exact (d_cons (d_set (ps_set (i := 3) nd rfl (Or.inl rfl) (d_add (d_mul (d_callH (k := 6) H_state_behind hr (by decide) trivial rfl (takes_of rfl rfl rfl rfl) (d_acons (d_var (pv 0)) (d_acons (d_const pe_int fun _ => .int _) (d_acons (d_var (pv 2)) d_anil)))) (d_lenH (k := 6) H_len hr (by decide) rfl T.m_len (d_acons (d_var (pv 1)) d_anil))) (d_callH (k := 6) H_state_behind hr (by decide) trivial rfl (takes_of rfl rfl rfl rfl) (d_acons (d_var (pv 1)) (d_acons (d_const pe_int fun _ => .int _) (d_acons (d_var (pv 2)) d_anil))))))) (d_one (d_ret (d_inq (d_var (pv 3)) (d_callH (k := 6) H_stuck_pairs hr (by decide) trivial rfl (takes_of rfl rfl rfl rfl) (d_acons (d_var (pv 0)) (d_acons (d_var (pv 1)) d_anil)))))))
def N_accepts_pair : List Str := ["word", "one", "other", "certificate"]
def P_accepts_pair : List Str := ["word", "one", "other", "certificate"]
theorem sc_accepts_pair : FnScope N_accepts_pair P_accepts_pair (defScope s_accepts_pair) := ⟨rfl, rfl, rfl, by decide +kernel, rfl, by decide +kernel, by decide +kernel⟩
theorem ok_accepts_pair (T : Facts K mg M) (Fu : Fun K "accepts_pair" "accepts_pair" s_accepts_pair fa fd) (H_is_empty : Has P w K mg base GT 1 "is_empty" P_is_empty (spD K (F_is_empty M))) (H_alike : Has P w K mg base GT 7 "alike" P_alike (spD K (F_alike M))) (H_within : Has P w K mg base GT 7 "within" P_within (spD K (F_within M))) (H_in_step : Has P w K mg base GT 8 "in_step" P_in_step (spD K (F_in_step M))) (H_is_spelled : Has P w K mg base GT 1 "is_spelled" P_is_spelled (spD K (F_is_spelled M))) (H_is_jam : Has P w K mg base GT 7 "is_jam" P_is_jam (spD K (F_is_jam M))) (H_is_endless : Has P w K mg base GT 2 "is_endless" P_is_endless (spD K (F_is_endless M))) (H_takes : Has P w K mg base GT 5 "takes" P_takes (spD K (F_takes M))) : FnG P w K mg base GT 9 fa fd P_accepts_pair (spD K (F_accepts_pair M)) := by
  refine d_def (N := N_accepts_pair) (ps := P_accepts_pair) (G := G_accepts_pair M) Fu sc_accepts_pair fun cdv A outer s H E C hr hg => ?_
  have nd := sc_accepts_pair.nd
  have hu := hr.units
  exact (d_cons (d_sif (t_eq hu (d_var (pv 0)) (d_stre rfl T.m_SAME)) (d_one (d_ret (d_eand (d_callH (k := 8) H_is_empty hr (by decide) trivial rfl (takes_of rfl rfl rfl rfl) (d_acons (d_var (pv 3)) d_anil)) (pe_one (d_callH (k := 8) H_alike hr (by decide) trivial rfl (takes_of rfl rfl rfl rfl) (d_acons (d_var (pv 1)) (d_acons (d_var (pv 2)) d_anil))))))) d_nil) (d_cons (d_sif (t_eq hu (d_var (pv 0)) (d_stre rfl T.m_INSIDE)) (d_one (d_ret (d_eand (d_callH (k := 8) H_is_empty hr (by decide) trivial rfl (takes_of rfl rfl rfl rfl) (d_acons (d_var (pv 3)) d_anil)) (pe_one (d_callH (k := 8) H_within hr (by decide) trivial rfl (takes_of rfl rfl rfl rfl) (d_acons (d_var (pv 1)) (d_acons (d_var (pv 2)) d_anil))))))) d_nil) (d_cons (d_sif (t_eq hu (d_var (pv 0)) (d_stre rfl T.m_STEP)) (d_one (d_ret (d_eand (d_callH (k := 8) H_is_empty hr (by decide) trivial rfl (takes_of rfl rfl rfl rfl) (d_acons (d_var (pv 3)) d_anil)) (pe_one (d_callH (k := 8) H_in_step hr (by decide) trivial rfl (takes_of rfl rfl rfl rfl) (d_acons (d_var (pv 1)) (d_acons (d_var (pv 2)) d_anil))))))) d_nil) (d_cons (d_sif (t_eq hu (d_var (pv 0)) (d_stre rfl T.m_JAMS)) (d_one (d_ret (d_eand (d_callH (k := 8) H_is_spelled hr (by decide) trivial rfl (takes_of rfl rfl rfl rfl) (d_acons (d_propG (k := 8) (d_var (pv 1)) T.cM T.g_letters hr (by decide)) (d_acons (d_var (pv 3)) d_anil))) (pe_one (d_callH (k := 8) H_is_jam hr (by decide) trivial rfl (takes_of rfl rfl rfl rfl) (d_acons (d_var (pv 1)) (d_acons (d_var (pv 2)) (d_acons (d_var (pv 3)) d_anil)))))))) d_nil) (d_cons (d_sif (d_not (d_tval (d_callH (k := 8) H_is_endless hr (by decide) trivial rfl (takes_of rfl rfl rfl rfl) (d_acons (d_propG (k := 8) (d_var (pv 1)) T.cM T.g_letters hr (by decide)) (d_acons (d_var (pv 3)) d_anil))) (fun _ => rfl))) (d_one (d_ret (d_const pe_bl fun _ => .bl _))) d_nil) (d_cons (d_sif (t_eq hu (d_var (pv 0)) (d_stre rfl T.m_PARTED)) (d_one (d_ret (d_ne hu (d_callH (k := 8) H_takes hr (by decide) trivial rfl (takes_of rfl rfl rfl rfl) (d_acons (d_var (pv 1)) (d_acons (d_var (pv 3)) d_anil))) (d_callH (k := 8) H_takes hr (by decide) trivial rfl (takes_of rfl rfl rfl rfl) (d_acons (d_var (pv 2)) (d_acons (d_var (pv 3)) d_anil)))))) d_nil) (d_one (d_ret (d_eand (d_eq hu (d_var (pv 0)) (d_stre rfl T.m_BREAKS)) (d_eand (d_callH (k := 8) H_takes hr (by decide) trivial rfl (takes_of rfl rfl rfl rfl) (d_acons (d_var (pv 1)) (d_acons (d_var (pv 3)) d_anil))) (pe_one (d_enot (d_callH (k := 8) H_takes hr (by decide) trivial rfl (takes_of rfl rfl rfl rfl) (d_acons (d_var (pv 2)) (d_acons (d_var (pv 3)) d_anil)))))))))))))))
def N_accepts : List Str := ["claim", "certificate", "word", "machine", "other"]
def P_accepts : List Str := ["claim", "certificate"]
theorem sc_accepts : FnScope N_accepts P_accepts (defScope s_accepts) := ⟨rfl, rfl, rfl, by decide +kernel, rfl, by decide +kernel, by decide +kernel⟩
theorem ok_accepts (T : Facts K mg M) (Fu : Fun K "accepts" "accepts" s_accepts fa fd) (H_machine_told : Has P w K mg base GT 7 "machine_told" P_machine_told (spD K (F_machine_told M))) (H_accepts_one : Has P w K mg base GT 6 "accepts_one" P_accepts_one (spD K (F_accepts_one M))) (H_accepts_demand : Has P w K mg base GT 14 "accepts_demand" P_accepts_demand (spD K (F_accepts_demand M))) (H_shows_open : Has P w K mg base GT 6 "shows_open" P_shows_open (spD K (F_shows_open M))) (H_accepts_pair : Has P w K mg base GT 9 "accepts_pair" P_accepts_pair (spD K (F_accepts_pair M))) : FnG P w K mg base GT 15 fa fd P_accepts (spD K (F_accepts M)) := by
  refine d_def (N := N_accepts) (ps := P_accepts) (G := G_accepts M) Fu sc_accepts fun cdv A outer s H E C hr hg => ?_
  have nd := sc_accepts.nd
  have hu := hr.units
  exact (d_cons (d_sif (PW.pt (d_or (d_not (d_tval (d_isi (.ty _) (fun _ _ h => kit_ty h) (fun A b h => T.own T.k_tuple h) rfl T.m_isinstance (d_acons (d_var (pv 0)) (d_acons (d_tyn rfl T.m_tuple (by decide +kernel)) d_anil))) (fun _ => rfl))) (d_or (d_not (t_lele (d_const pe_int fun _ => .int _) (d_len rfl T.m_len (d_acons (d_var (pv 0)) d_anil)) (d_const pe_int fun _ => .int _))) (pw_or1 (d_not (d_tval (d_isi (.ty _) (fun _ _ h => kit_ty h) (fun A b h => T.own T.k_str h) rfl T.m_isinstance (d_acons (d_ix (d_var (pv 0)) (d_const pe_int fun _ => .int _) (fun _ _ => rfl)) (d_acons (d_tyn rfl T.m_str (by decide +kernel)) d_anil))) (fun _ => rfl))))))) (d_one (d_ret (d_const pe_bl fun _ => .bl _))) d_nil) (d_cons (d_set (ps_set (i := 2) nd rfl (Or.inl rfl) (d_ix (d_var (pv 0)) (d_const pe_int fun _ => .int _) (fun _ _ => rfl)))) (d_cons (d_set (ps_set (i := 3) nd rfl (Or.inl rfl) (d_callH (k := 14) H_machine_told hr (by decide) trivial rfl (takes_of rfl rfl rfl rfl) (d_acons (d_ix (d_var (pv 0)) (d_const pe_int fun _ => .int _) (fun _ _ => rfl)) d_anil)))) (d_cons (d_sif (t_isn (d_var (pv 3)) (d_const pe_non fun _ => .non)) (d_one (d_ret (d_const pe_bl fun _ => .bl _))) d_nil) (d_cons (d_sif (t_eq hu (d_len rfl T.m_len (d_acons (d_var (pv 0)) d_anil)) (d_const pe_int fun _ => .int _)) (d_one (d_ret (d_callH (k := 14) H_accepts_one hr (by decide) trivial rfl (takes_of rfl rfl rfl rfl) (d_acons (d_var (pv 2)) (d_acons (d_var (pv 3)) (d_acons (d_var (pv 1)) d_anil)))))) d_nil) (d_cons (d_sif (t_inq (d_var (pv 2)) (d_tup (d_acons (d_stre rfl T.m_HOLDS) (d_acons (d_stre rfl T.m_FAILS) d_anil)))) (d_one (d_ret (d_callH (k := 14) H_accepts_demand hr (by decide) trivial rfl (takes_of rfl rfl rfl rfl) (d_acons (d_var (pv 2)) (d_acons (d_var (pv 3)) (d_acons (d_ix (d_var (pv 0)) (d_const pe_int fun _ => .int _) (fun _ _ => rfl)) (d_acons (d_var (pv 1)) d_anil))))))) d_nil) (d_cons (d_sif (t_eq hu (d_var (pv 2)) (d_stre rfl T.m_OPEN)) (d_one (d_ret (d_callH (k := 14) H_shows_open hr (by decide) trivial rfl (takes_of rfl rfl rfl rfl) (d_acons (d_var (pv 3)) (d_acons (d_ix (d_var (pv 0)) (d_const pe_int fun _ => .int _) (fun _ _ => rfl)) (d_acons (d_var (pv 1)) d_anil)))))) d_nil) (d_cons (d_set (ps_set (i := 4) nd rfl (Or.inl rfl) (d_callH (k := 14) H_machine_told hr (by decide) trivial rfl (takes_of rfl rfl rfl rfl) (d_acons (d_ix (d_var (pv 0)) (d_const pe_int fun _ => .int _) (fun _ _ => rfl)) d_anil)))) (d_cons (d_sif (PW.pt (d_or (t_isn (d_var (pv 4)) (d_const pe_non fun _ => .non)) (pw_or1 (t_ne hu (d_propG (k := 14) (d_var (pv 4)) T.cM T.g_letters hr (by decide)) (d_propG (k := 14) (d_var (pv 3)) T.cM T.g_letters hr (by decide)))))) (d_one (d_ret (d_const pe_bl fun _ => .bl _))) d_nil) (d_one (d_ret (d_callH (k := 14) H_accepts_pair hr (by decide) trivial rfl (takes_of rfl rfl rfl rfl) (d_acons (d_var (pv 2)) (d_acons (d_var (pv 3)) (d_acons (d_var (pv 4)) (d_acons (d_var (pv 1)) d_anil))))))))))))))))
def N__law_dip : List Str := ["_law_jar", "_law_many", "_law_mixed", "_law_stock", "_law_digit"]
def P__law_dip : List Str := ["_law_jar", "_law_many"]
theorem sc__law_dip : FnScope N__law_dip P__law_dip (defScope s__law_dip) := ⟨rfl, rfl, rfl, by decide +kernel, rfl, by decide +kernel, by decide +kernel⟩
theorem ok__law_dip (T : Facts K mg M) (Fu : Fun K "_law_dip" "_law_dip" s__law_dip fa fd) : FnG P w K mg base GT 1 fa fd P__law_dip (spD K (F__law_dip)) := by
  refine d_def (N := N__law_dip) (ps := P__law_dip) (G := G__law_dip) Fu sc__law_dip fun cdv A outer s H E C hr hg => ?_
  have nd := sc__law_dip.nd
  have hu := hr.units
  exact (d_cons (d_asg (d_add (d_ix (d_var (pv 0)) (d_const pe_int fun _ => .int _) (fun _ _ => rfl)) (d_const pe_int fun _ => .int _)) (d_gbag (pg_sub (pv 0) pe_int set_list (fun _ => rfl)))) (d_cons (d_set (ps_set (i := 2) nd rfl (Or.inl rfl) (d_mod (d_int rfl T.m_int (d_acons (d_add (d_ix (d_var (pv 0)) (d_const pe_int fun _ => .int _) (fun _ _ => rfl)) (d_mul (d_const pe_int fun _ => .int _) (d_ix (d_var (pv 0)) (d_const pe_int fun _ => .int _) (fun _ _ => rfl)))) d_anil)) (d_const pe_int fun _ => .int _)))) (d_cons (d_asg (d_mod (d_int rfl T.m_int (d_acons (d_add (d_add (d_mul (d_var (pv 2)) (d_var (pv 2))) (d_mul (d_const pe_int fun _ => .int _) (d_var (pv 2)))) (d_const pe_int fun _ => .int _)) d_anil)) (d_const pe_int fun _ => .int _)) (d_gbag (pg_sub (pv 0) pe_int set_list (fun _ => rfl)))) (d_cons (d_sif (t_eq hu (d_ix (d_var (pv 0)) (d_const pe_int fun _ => .int _) (fun _ _ => rfl)) (d_const pe_int fun _ => .int _)) (d_one (d_ret (d_mod (d_int rfl T.m_int (d_acons (d_fdiv (d_ix (d_var (pv 0)) (d_const pe_int fun _ => .int _) (fun _ _ => rfl)) (d_const pe_int fun _ => .int _)) d_anil)) (d_var (pv 1))))) d_nil) (d_cons (d_asg (d_divmod rfl T.m_divmod (d_acons (d_ix (d_var (pv 0)) (d_const pe_int fun _ => .int _) (fun _ _ => rfl)) (d_acons (d_var (pv 1)) d_anil))) (d_gtup rfl (d_gcons (d_gname (pg_name (i := 3) nd rfl (Or.inl rfl))) (d_gcons (d_gname (pg_name (i := 4) nd rfl (Or.inl rfl))) d_gnil)))) (d_cons (d_asg (d_var (pv 3)) (d_gbag (pg_sub (pv 0) pe_int set_list (fun _ => rfl)))) (d_one (d_ret (d_var (pv 4))))))))))
def N__law_bent : List Str := ["_law_jar", "_law_tale", "_law_things", "_law_at", "_law_way", "_law_thing"]
def P__law_bent : List Str := ["_law_jar", "_law_tale", "_law_things"]
theorem sc__law_bent : FnScope N__law_bent P__law_bent (defScope s__law_bent) := ⟨rfl, rfl, rfl, by decide +kernel, rfl, by decide +kernel, by decide +kernel⟩
theorem ok__law_bent (T : Facts K mg M) (Fu : Fun K "_law_bent" "_law_bent" s__law_bent fa fd) (H__law_dip : Has P w K mg base GT 1 "_law_dip" P__law_dip (spD K (F__law_dip))) : FnG P w K mg base GT 2 fa fd P__law_bent (spD K (F__law_bent)) := by
  refine d_def (N := N__law_bent) (ps := P__law_bent) (G := G__law_bent) Fu sc__law_bent fun cdv A outer s H E C hr hg => ?_
  have nd := sc__law_bent.nd
  have hu := hr.units
  exact (d_cons (d_par3 (ps_par3 rfl nd rfl rfl rfl (by decide) (by decide) (by decide) rfl rfl rfl (d_acons (d_callH (k := 1) H__law_dip hr (by decide) trivial rfl (takes_of rfl rfl rfl rfl) (d_acons (d_var (pv 0)) (d_acons (d_len rfl T.m_len (d_acons (d_var (pv 1)) d_anil)) d_anil))) (d_acons (d_callH (k := 1) H__law_dip hr (by decide) trivial rfl (takes_of rfl rfl rfl rfl) (d_acons (d_var (pv 0)) (d_acons (d_const pe_int fun _ => .int _) d_anil))) (d_acons (d_ix (d_var (pv 2)) (d_callH (k := 1) H__law_dip hr (by decide) trivial rfl (takes_of rfl rfl rfl rfl) (d_acons (d_var (pv 0)) (d_acons (d_len rfl T.m_len (d_acons (d_var (pv 2)) d_anil)) d_anil))) (fun _ _ => rfl)) d_anil))) rfl)) (d_cons (d_sif (t_lt (d_var (pv 4)) (d_const pe_int fun _ => .int _)) (d_one (d_ret (d_add (d_add (d_slice (d_var (pv 1)) d_ono (d_osome (d_var (pv 3)))) (d_tup (d_acons (d_var (pv 5)) d_anil))) (d_slice (d_var (pv 1)) (d_osome (d_add (d_var (pv 3)) (d_const pe_int fun _ => .int _))) d_ono)))) d_nil) (d_cons (d_sif (t_eq hu (d_var (pv 4)) (d_const pe_int fun _ => .int _)) (d_one (d_ret (d_add (d_slice (d_var (pv 1)) d_ono (d_osome (d_var (pv 3)))) (d_slice (d_var (pv 1)) (d_osome (d_add (d_var (pv 3)) (d_const pe_int fun _ => .int _))) d_ono)))) d_nil) (d_cons (d_sif (t_eq hu (d_var (pv 4)) (d_const pe_int fun _ => .int _)) (d_one (d_ret (d_add (d_add (d_slice (d_var (pv 1)) d_ono (d_osome (d_var (pv 3)))) (d_tup (d_acons (d_var (pv 5)) d_anil))) (d_slice (d_var (pv 1)) (d_osome (d_var (pv 3))) d_ono)))) d_nil) (d_one (d_ret (d_if (t_eq hu (d_var (pv 4)) (d_const pe_int fun _ => .int _)) (d_share (d_listS rfl rfl T.m_list (d_var (pv 1)))) (d_add (d_var (pv 1)) (d_tup (d_acons (d_var (pv 5)) d_anil))))))))))
def G__law_right (M : Addr) : SF := (sSeq (sAsg (eCall (F__law_bank) aNil) (gN 1)) (sSeq (sIf (bB (e2 neF (eLc (aAny (eV 1)) [10] (gN 10) (bB (e2 notB2 (eCall (F_accepts M) (aCons (eIx (eV 10) (eC (.int 0))) (aCons (eIx (eV 10) (eC (.int 1))) aNil))) (eC (.bl true)))) (eV 10)) (eLst aNil))) (sRet (eC (.bl false))) sNil) (sSeq (sAsg (eIx (eIx (eIx (eV 1) (eC (.int 0))) (eC (.int 0))) (eC (.int 1))) (gN 2)) (sSeq (sOwn (eLst (aCons (eC (.bl true)) (aCons (eC (.bl false)) (aCons (eC .non) (aCons (eC (.str "nobody")) (aCons (eC (.str "Same")) (aCons (e2 addF (eV 2) (eC (.str "\n"))) (aCons (e2 addF (eC (.str " ")) (eV 2)) (aCons (e1 upperF (eV 2)) (aCons (eSl (eV 2) oNo (oSome (e1 negF (eC (.int 1))))) (aCons (e2 addF (eV 2) (eC (.str " 2"))) (aCons (eTup (aCons (eC (.int 9)) aNil)) aNil)))))))))))) 3) (sSeq (sFreeze 3 (sOwn (eCat (eV 3) (eLst (aCons (eTup (aCons (eTup (aCons (eC (.int 9)) aNil)) aNil)) (aCons (eLst aNil) (aCons eDnew (aCons (eTup (aCons (eC (.bl true)) (aCons (eC (.int 1)) aNil))) (aCons (eTup (aCons (eC (.str "again")) (aCons (eC (.int 1)) aNil))) (aCons (eTup (aCons (eC (.str "guards")) aNil)) (aCons (eC (.str "machine ab")) (aCons (e1 negF (eC (.int 1))) aNil)))))))))) 3)) (sSeq (sPush 3 (eMake M (Fm_Machine M) (aCons (eC (.str "ab")) (aCons (eTup (aCons (eTup (aCons (eC (.int 0)) (aCons (eTup (aCons (eC (.int 0)) (aCons (eC (.int 0)) aNil))) aNil))) aNil)) aNil)))) (sSeq (sFreeze 3 (sOwn (eCat (eV 3) (eLst (aCons (e1 (replF "2" "7") (eV 2)) (aCons (e1 (replF "machine" "machine ") (eV 2)) (aCons (e2 addF (eC (.str "machine ba")) (eSl (eV 2) (oSome (eC (.int 10))) oNo)) aNil))))) 3)) (sSeq (sPush 3 (eTup (aCons (eC (.str "in")) (aCons (eTup (aCons (eC (.str "a")) (aCons (eC (.str "")) aNil))) aNil)))) (sSeq (sFor (aRng (aCons (eC (.int 10)) aNil)) (gN 4) (sFor (aAny (eV 1)) (gT 2 (gsC (gN 5) (gsC (gN 6) gsN))) (sSeq (sFreeze 3 (sAsg (eCall (F__law_bent) (aCons (eV 0) (aCons (eV 5) (aCons (eV 3) aNil)))) (gN 7))) (sIf (bAnd (bB (e2 notB2 (eCall (F_accepts M) (aCons (eV 7) (aCons (eV 6) aNil))) (eC (.bl false)))) (bB (e2 neF (eB reprN (aCons (eV 7) aNil)) (eB reprN (aCons (eV 5) aNil))))) (sRet (eC (.bl false))) sNil)))) (sSeq (sAsg (eLst (aCons (eC .non) (aCons (eC (.bl true)) (aCons (eC (.int 0)) (aCons (eLst aNil) (aCons eDnew (aCons (eTup (aCons (eC .non) aNil)) (aCons (eTup (aCons (eC (.str "A")) (aCons (eC (.str "B")) aNil))) (aCons (e1 negF (eC (.int 1))) (aCons (e2 powF (eC (.int 10)) (eC (.int 30))) (aCons (eV 2) (aCons (eTup (aCons (eTup (aCons (eC (.int 1)) (aCons (eC (.int 2)) (aCons (eC (.int 3)) aNil)))) aNil)) (aCons (eTup (aCons (eTup aNil) (aCons (eC (.int 1)) aNil))) (aCons (eTup (aCons (eC (.str "")) (aCons (eC (.str "")) aNil))) (aCons (eTup (aCons (eC (.str "c")) (aCons (eC (.str "c")) aNil))) aNil))))))))))))))) (gN 8)) (sSeq (sFor (aAny (eV 8)) (gN 9) (sSeq (sIf (bB (e2 neF (eLc (aAny (eV 1)) [10] (gN 10) (bB (e2 notB2 (eCall (F_accepts M) (aCons (eIx (eV 10) (eC (.int 0))) (aCons (eV 9) aNil))) (eC (.bl false)))) (eV 10)) (eLst aNil))) (sRet (eC (.bl false))) sNil) (sIf (bOr (bB (e2 notB2 (eCall (F_accepts M) (aCons (eV 9) (aCons (eTup aNil) aNil))) (eC (.bl false)))) (bB (e2 notB2 (eCall (F_accepts M) (aCons (eV 9) (aCons (eV 9) aNil))) (eC (.bl false))))) (sRet (eC (.bl false))) sNil))) (sRet (eC (.bl true))))))))))))))
def F__law_right (M : Addr) : DFn := runD 11 1 (G__law_right M)
def N__law_right : List Str := ["_law_jar", "_law_bank_here", "_law_page", "_law_things", "_law_k", "_law_tale", "_law_paper", "_law_late", "_law_some", "_law_thing", "_law_pair"]
def P__law_right : List Str := ["_law_jar"]
theorem sc__law_right : FnScope N__law_right P__law_right (defScope s__law_right) := ⟨rfl, rfl, rfl, by decide +kernel, rfl, by decide +kernel, by decide +kernel⟩
theorem ok__law_right (T : Facts K mg M) (Fu : Fun K "_law_right" "_law_right" s__law_right fa fd) (H__law_bank : Has P w K mg base GT 1 "_law_bank" P__law_bank (spD K (F__law_bank))) (H_accepts : Has P w K mg base GT 15 "accepts" P_accepts (spD K (F_accepts M))) (H__law_bent : Has P w K mg base GT 2 "_law_bent" P__law_bent (spD K (F__law_bent))) (H_Machine : HasM P w K mg base M) : FnG P w K mg base GK 16 fa fd P__law_right (spD K (F__law_right M)) := by
  refine d_def (N := N__law_right) (ps := P__law_right) (G := G__law_right M) Fu sc__law_right fun cdv A outer s H E C hr hg => ?_
  have nd := sc__law_right.nd
  have hu := hr.units
  exact (d_cons (d_set (ps_set (i := 1) nd rfl (Or.inl rfl) (d_callH0 (k := 15) H__law_bank hr (by decide) trivial rfl (takes_of rfl rfl rfl rfl)))) (d_cons (d_sif (t_ne hu (d_share (d_lc (ctg_name (i := 10) (by decide)) (pe_lc (own := [("_law_pair", 10)]) rfl nd (d_iany (d_var (pv 1))) (blkOk_by (N := N__law_right) (sc := defScope s__law_right) (by decide +kernel)) (fun _ _ _ _ _ => (pg_name (i := 10) nd rfl (Or.inl rfl))) (fun _ _ _ _ _ => d_tsany fun C => (d_tsone (t_notb (d_callH (k := 15) H_accepts hr (by decide) trivial rfl takes0 (d_acons (d_ix (d_var (pv 10)) (d_const pe_int fun _ => .int _) (fun _ _ => rfl)) (d_acons (d_ix (d_var (pv 10)) (d_const pe_int fun _ => .int _) (fun _ _ => rfl)) d_anil))) (d_const pe_bl fun _ => .bl _)))) (fun _ _ _ _ _ => d_any fun C => (d_var (pv 10)))))) (d_share (d_lst d_anil))) (d_one (d_ret (d_const pe_bl fun _ => .bl _))) d_nil) (d_cons (d_set (ps_set (i := 2) nd rfl (Or.inl rfl) (d_ix (d_ix (d_ix (d_var (pv 1)) (d_const pe_int fun _ => .int _) (fun _ _ => rfl)) (d_const pe_int fun _ => .int _) (fun _ _ => rfl)) (d_const pe_int fun _ => .int _) (fun _ _ => rfl)))) (d_cons1 (d1_own (ps1_set (i := 3) nd rfl (Or.inl rfl) (d1_lst (d1_acons (d_const pe_bl fun _ => .bl _) (d1_acons (d_const pe_bl fun _ => .bl _) (d1_acons (d_const pe_non fun _ => .non) (d1_astr (d_acons (d_const pe_str fun _ => .str _) (d_acons (d_add (d_var (pv 2)) (d_const pe_str fun _ => .str _)) (d_acons (d_add (d_const pe_str fun _ => .str _) (d_var (pv 2))) (d_acons (d_upper (d_var (pv 2))) (d_acons (d_slice (d_var (pv 2)) d_ono (d_osome (d_neg (d_const pe_int fun _ => .int _)))) (d_acons (d_add (d_var (pv 2)) (d_const pe_str fun _ => .str _)) (d_acons (d_tup (d_acons (d_const pe_int fun _ => .int _) d_anil)) d_anil)))))))))))))) (dT_cons (PST.of (d_freeze (i := 3) (d_own (ps_set (i := 3) nd rfl (Or.inl rfl) (d_cat (d_var (pv 3)) (d_share (d_lst (d_acons (d_tup (d_acons (d_tup (d_acons (d_const pe_int fun _ => .int _) d_anil)) d_anil)) (d_acons (d_share (d_lst d_anil)) (d_acons (d_share d_dnew) (d_acons (d_tup (d_acons (d_const pe_bl fun _ => .bl _) (d_acons (d_const pe_int fun _ => .int _) d_anil))) (d_acons (d_tup (d_acons (d_const pe_str fun _ => .str _) (d_acons (d_const pe_int fun _ => .int _) d_anil))) (d_acons (d_tup (d_acons (d_const pe_str fun _ => .str _) d_anil)) (d_acons (d_const pe_str fun _ => .str _) (d_acons (d_neg (d_const pe_int fun _ => .int _)) d_anil))))))))))))))) (dT_cons (PST.of (d_push (pv 3) (d_makeH H_Machine hr (by decide) rfl T.m_Machine (passes_call (takes_of rfl rfl rfl rfl) fun _ _ _ _ h => h) (d_acons (d_const pe_str fun _ => .str _) (d_acons (d_tup (d_acons (d_tup (d_acons (d_const pe_int fun _ => .int _) (d_acons (d_tup (d_acons (d_const pe_int fun _ => .int _) (d_acons (d_const pe_int fun _ => .int _) d_anil))) d_anil))) d_anil)) d_anil))))) (dT_cons (dT_freeze (i := 3) (dT_own (pst_set (i := 3) nd rfl (Or.inl rfl) (dT_cat (dT_of (d_var (pv 3))) (dT_share (dT_lst (dT_acons (dT_repl (d_var (pv 2))) (dT_acons (dT_repl (d_var (pv 2))) (dT_acons (dT_of (d_add (d_const pe_str fun _ => .str _) (d_slice (d_var (pv 2)) (d_osome (d_const pe_int fun _ => .int _)) d_ono))) dT_anil))))))))) (PSsT.of (d_cons (d_push (pv 3) (d_tup (d_acons (d_const pe_str fun _ => .str _) (d_acons (d_tup (d_acons (d_const pe_str fun _ => .str _) (d_acons (d_const pe_str fun _ => .str _) d_anil))) d_anil)))) (d_cons (d_for (passes_of rfl) rfl (d_irange rfl T.m_range (d_acons (d_const pe_int fun _ => .int _) d_anil)) (d_gname (pg_name (i := 4) nd rfl (Or.inl rfl))) (d_one (d_for (passes_of rfl) rfl (d_iany (d_var (pv 1))) (d_gtup rfl (d_gcons (d_gname (pg_name (i := 5) nd rfl (Or.inl rfl))) (d_gcons (d_gname (pg_name (i := 6) nd rfl (Or.inl rfl))) d_gnil))) (d_cons (d_freeze (i := 3) (d_set (ps_set (i := 7) nd rfl (Or.inl rfl) (d_callH (k := 15) H__law_bent hr (by decide) trivial rfl (takes_of rfl rfl rfl rfl) (d_acons (d_var (pv 0)) (d_acons (d_var (pv 5)) (d_acons (d_var (pv 3)) d_anil))))))) (d_one (d_sif (PW.pt (d_and (t_notb (d_callH (k := 15) H_accepts hr (by decide) trivial rfl (takes_of rfl rfl rfl rfl) (d_acons (d_var (pv 7)) (d_acons (d_var (pv 6)) d_anil))) (d_const pe_bl fun _ => .bl _)) (pw_and1 (t_ne hu (d_reprN hg hu rfl T.m_repr (d_acons (d_var (pv 7)) d_anil)) (d_reprN hg hu rfl T.m_repr (d_acons (d_var (pv 5)) d_anil)))))) (d_one (d_ret (d_const pe_bl fun _ => .bl _))) d_nil)))))) (d_cons (d_setF (ps_set (i := 8) nd rfl (Or.inl rfl) (d_lst (d_acons (d_const pe_non fun _ => .non) (d_acons (d_const pe_bl fun _ => .bl _) (d_acons (d_const pe_int fun _ => .int _) (d_acons (d_share (d_lst d_anil)) (d_acons (d_share d_dnew) (d_acons (d_tup (d_acons (d_const pe_non fun _ => .non) d_anil)) (d_acons (d_tup (d_acons (d_const pe_str fun _ => .str _) (d_acons (d_const pe_str fun _ => .str _) d_anil))) (d_acons (d_neg (d_const pe_int fun _ => .int _)) (d_acons (d_pow (d_const pe_int fun _ => .int _) (d_const pe_int fun _ => .int _)) (d_acons (d_var (pv 2)) (d_acons (d_tup (d_acons (d_tup (d_acons (d_const pe_int fun _ => .int _) (d_acons (d_const pe_int fun _ => .int _) (d_acons (d_const pe_int fun _ => .int _) d_anil)))) d_anil)) (d_acons (d_tup (d_acons (d_tup d_anil) (d_acons (d_const pe_int fun _ => .int _) d_anil))) (d_acons (d_tup (d_acons (d_const pe_str fun _ => .str _) (d_acons (d_const pe_str fun _ => .str _) d_anil))) (d_acons (d_tup (d_acons (d_const pe_str fun _ => .str _) (d_acons (d_const pe_str fun _ => .str _) d_anil))) d_anil))))))))))))))))) (d_cons (d_for (passes_of rfl) rfl (d_iany (d_var (pv 8))) (d_gname (pg_name (i := 9) nd rfl (Or.inr rfl))) (d_cons (d_sif (t_ne hu (d_share (d_lc (ctg_name (i := 10) (by decide)) (pe_lc (own := [("_law_pair", 10)]) rfl nd (d_iany (d_var (pv 1))) (blkOk_by (N := N__law_right) (sc := defScope s__law_right) (by decide +kernel)) (fun _ _ _ _ _ => (pg_name (i := 10) nd rfl (Or.inl rfl))) (fun _ _ _ _ _ => d_tsany fun C => (d_tsone (t_notb (d_callH (k := 15) H_accepts hr (by decide) trivial rfl takes0 (d_acons (d_ix (d_var (pv 10)) (d_const pe_int fun _ => .int _) (fun _ _ => rfl)) (d_acons (d_var (pv 9)) d_anil))) (d_const pe_bl fun _ => .bl _)))) (fun _ _ _ _ _ => d_any fun C => (d_var (pv 10)))))) (d_share (d_lst d_anil))) (d_one (d_ret (d_const pe_bl fun _ => .bl _))) d_nil) (d_one (d_sif (PW.pt (d_or (t_notb (d_callH (k := 15) H_accepts hr (by decide) trivial rfl (takes_of rfl rfl rfl rfl) (d_acons (d_var (pv 9)) (d_acons (d_tup d_anil) d_anil))) (d_const pe_bl fun _ => .bl _)) (pw_or1 (t_notb (d_callH (k := 15) H_accepts hr (by decide) trivial rfl (takes_of rfl rfl rfl rfl) (d_acons (d_var (pv 9)) (d_acons (d_var (pv 9)) d_anil))) (d_const pe_bl fun _ => .bl _))))) (d_one (d_ret (d_const pe_bl fun _ => .bl _))) d_nil)))) (d_one (d_ret (d_const pe_bl fun _ => .bl _)))))))))))))))
def N__law_well : List Str := ["_law_cell_here"]
def P__law_well : List Str := ["_law_cell_here"]
theorem sc__law_well : FnScope N__law_well P__law_well (defScope s__law_well) := ⟨rfl, rfl, rfl, by decide +kernel, rfl, by decide +kernel, by decide +kernel⟩
theorem ok__law_well (T : Facts K mg M) (Fu : Fun K "_law_well" "_law_well" s__law_well fa fd) : FnG P w K mg base GT 1 fa fd P__law_well (spDF K (F__law_well)) := by
  refine d_defF (N := N__law_well) (ps := P__law_well) (G := G__law_well) Fu sc__law_well fun cdv A outer s H E C hr hg => ?_
  have nd := sc__law_well.nd
  have hu := hr.units
  exact (d_one (d_retO (d_lst (d_acons (d_if (PW.pt (d_or (t_lt (d_var (pv 0)) (d_const pe_int fun _ => .int _)) (pw_or1 (t_ge (d_var (pv 0)) (d_pow (d_const pe_int fun _ => .int _) (d_const pe_int fun _ => .int _)))))) (d_abs rfl T.m_abs (d_acons (d_var (pv 0)) d_anil)) (d_const pe_int fun _ => .int _)) (d_acons (d_mod (d_int rfl T.m_int (d_acons (d_var (pv 0)) d_anil)) (d_const pe_int fun _ => .int _)) (d_acons (d_const pe_int fun _ => .int _) d_anil))))))
def G_law (M : Addr) : SF := (sRet (e2 eqF (eLc (aRng (aCons (eB maxF (aCons (eC (.int 2)) (aCons (eB minF (aCons (eB lenF (aCons (eV 0) aNil)) (aCons (eC (.int 4)) aNil))) aNil))) aNil)) [1] (gN 1) (bNot (bB (eBag (F__law_right M) F__law_well (aCons (eCall (F__law_cell) (aCons (eV 0) (aCons (eV 1) aNil))) aNil)))) (eV 1)) (eLst aNil)))
def F_law (M : Addr) : DFn := runD 2 1 (G_law M)
def N_law : List Str := ["_law_cells", "_law_k"]
def P_law : List Str := ["_law_cells"]
theorem sc_law : FnScope N_law P_law (defScope s_law) := ⟨rfl, rfl, rfl, by decide +kernel, rfl, by decide +kernel, by decide +kernel⟩
theorem ok_law (T : Facts K mg M) (Fu : Fun K "law" "law" s_law fa fd) (H__law_cell : Has P w K mg base GT 1 "_law_cell" P__law_cell (spD K (F__law_cell))) (H__law_right : Has P w K mg base GK 16 "_law_right" P__law_right (spD K (F__law_right M))) (H__law_well : Has P w K mg base GT 1 "_law_well" P__law_well (spDF K (F__law_well))) : FnG P w K mg base GK 17 fa fd P_law (spD K (F_law M)) := by
  refine d_def (N := N_law) (ps := P_law) (G := G_law M) Fu sc_law fun cdv A outer s H E C hr hg => ?_
  have nd := sc_law.nd
  have hu := hr.units
  exact (d_one (d_ret (d_eq hu (d_share (d_lc (ctg_name (i := 1) (by decide)) (pe_lc (own := [("_law_k", 1)]) rfl nd (d_irange rfl T.m_range (d_acons (d_max2 rfl rfl T.m_max (d_acons (d_const pe_int fun _ => .int _) (d_acons (d_min2 rfl rfl T.m_min (d_acons (d_len rfl T.m_len (d_acons (d_var (pv 0)) d_anil)) (d_acons (d_const pe_int fun _ => .int _) d_anil))) d_anil))) d_anil)) (blkOk_by (N := N_law) (sc := defScope s_law) (by decide +kernel)) (fun _ _ _ _ _ => (pg_name (i := 1) nd rfl (Or.inl rfl))) (fun _ _ _ _ _ => d_tsany fun C => (d_tsone (d_not (d_tval (d_callHB (k := 16) H__law_right H__law_well hr (by decide) (by decide) hg trivial rfl rfl takes0 (d_acons (d_callH (k := 16) H__law_cell hr (by decide) trivial rfl takes0 (d_acons (d_var (pv 0)) (d_acons (d_var (pv 1)) d_anil))) d_anil)) (fun _ => rfl))))) (fun _ _ _ _ _ => d_any fun C => (d_var (pv 1)))))) (d_share (d_lst d_anil)))))
end
end DL

set_option maxHeartbeats 1000000
namespace DL
open PySem PySem.Spec PyProof.Rows L2
theorem obL_eq {as : List Addr} {fn : List QD} {ex : PySem.W.Frag → Bool} {g : Addr → Option Obj} {s : Shared} (h : ∀ a, g a = s.heap.get? a) : obL as fn ex g = (hookL as fn ex).obs s := by
  have : g = s.heap.get? := funext h
  subst this
  rfl
end DL

set_option maxHeartbeats 0
namespace DL
open PySem PySem.Spec PyProof.Rows L2
theorem isGet_ok {K : PySem.W.Frag} {A : Addr} {f : Str} (h : isGet K A f = true) : PropOf K A f (He.ma K A f) (getA K A f) := by
  unfold isGet at h
  simp only [Bool.and_eq_true, decide_eq_true_eq] at h
  obtain ⟨h1, h2, h3, h4⟩ := h
  refine ⟨He.eqO_ok h1, He.eqO_ok h2, h3, ?_⟩
  unfold getA
  split at h4
  · rename_i g rest e
    rw [e]
    exact ⟨rest, rfl⟩
  · cases h4
theorem isI_ok {K : PySem.W.Frag} {A : Addr} (c : Cls K A) (h : isI K A = true) : ClsI K A := by
  unfold isI at h
  simp only [Bool.and_eq_true, decide_eq_true_eq] at h
  obtain ⟨h1, h2, h3, h4⟩ := h
  exact ⟨c, He.eqO_ok h1, He.eqO_ok h2, h3, h4⟩
theorem isCM_ok {K : PySem.W.Frag} {A : Addr} {m : Str} (h : isCM K A m = true) : ClX.CRead K A (.type "type") ∧ ClX.CMet K A (.type "type") m (He.ma K A m) (cmG K A m) := by
  unfold isCM at h
  simp only [Bool.and_eq_true] at h
  obtain ⟨h1, h2, h3, h4, h5⟩ := h
  refine ⟨⟨h1, He.eqO_ok h2⟩, ?_, ?_, h5⟩
  · split at h3
    · rename_i a b c d e
      obtain ⟨rfl, rfl, rfl, rfl⟩ := of_decide_eq_true h3
      exact e
    · cases h3
  · unfold cmG
    split at h4
    · rename_i g rest e
      rw [e]
      exact ⟨rest, rfl⟩
    · cases h4
theorem pick_vals {vs : List V} {us : List Value} (h : Vals vs us) : ∀ perm : List Nat, Vals (pick perm vs) (pick perm us)
  | [] => .nil
  | i :: perm => by
    unfold pick
    rw [List.filterMap_cons, List.filterMap_cons]
    cases hd : vs[i]? with
    | none =>
      have : us[i]? = none := by
        rw [List.getElem?_eq_none_iff] at hd ⊢
        rw [← h.length]; exact hd
      rw [this]
      exact pick_vals h perm
    | some d =>
      obtain ⟨v, hv, r⟩ := h.get hd
      rw [hv]
      exact .cons r (pick_vals h perm)
section
variable {P : Program} {w : World} {K : PySem.W.Frag} {mg : Str → Option Value} {h : Heap}
theorem getter_of {A : Addr} {pr fl : Str} {st : Stmt} {fd : FuncData} {p1 p2 p3 : Pos} (c : Cls K A) (n : NoAttr K A fl) (hp : isGet K A pr = true) (Fu : Fun K pr q st (getA K A pr) fd) (Sc : FnScope ["self"] ["self"] (defScope st)) (hb : defBody st = [.Return (some (.Attribute (.Name "self" p1) fl p2)) p3])
    (hbind : ∀ (kV doc pm : Value) (an : Option Addr) (cdv ct : Value) (us : List Value), us.length = (["self"] : List Str).length → bindArgs (PySem.W.fnOf pr q (defArgs st) (defBody st) (defScope st) .none kV doc pm an cdv ct) ⟨us, []⟩ = pure ((["self"] : List Str).zip us)) : Getter K A pr fl := by
  refine ⟨_, _, fd, isGet_ok hp, fun P w mg base => ?_, Fu.binds hbind⟩
  obtain ⟨oc, od, kV, doc, pm, an, cdv, ct, osl, rfl, lk, hc⟩ := Fu.ex
  exact fn_getter lk hc Sc rfl hb c n
end

theorem facts_of {K : PySem.W.Frag} {mg : Str → Option Value} {h : Heap} (X : K.In h) (G : h.Ns mainGlobals mg) (c : obK fns exK K = vaK fns) : Facts K mg (He.ga K "Machine") := by
  have e := ex_of c
  unfold exK at e
  simp only [Bool.and_eq_true] at e
  obtain ⟨e1, e2, e3, e4, eC, eT0, eX0, eX1, eX2, eX3, eX4, eX5, eX6, eX7, eE0, eM, e5⟩ := e
  have fa : ∀ (i : Nat) {f : He.Fa}, exL[i]? = some f → f.ok K = true := fun i f hi => List.all_eq_true.mp e1 f (List.mem_of_getElem? hi)
  unfold isK at e5
  simp only [Bool.and_eq_true, List.all_eq_true, decide_eq_true_eq] at e5
  obtain ⟨k1, k2, k3⟩ := e5
  have cM : Cls K (He.ga K "Machine") := He.cls_ok (fa 134 rfl)
  have nl : NoAttr K (He.ga K "Machine") "_letters" := He.noat_ok (fa 135 rfl)
  have ns : NoAttr K (He.ga K "Machine") "_states" := He.noat_ok (fa 136 rfl)
  obtain ⟨f_letters, F_letters⟩ := fun_of c 91 rfl
  obtain ⟨f_states, F_states⟩ := fun_of c 92 rfl
  exact ⟨He.free_ok X G (fa 0 rfl), He.free_ok X G (fa 1 rfl), He.free_ok X G (fa 2 rfl), He.free_ok X G (fa 3 rfl), He.free_ok X G (fa 4 rfl), He.free_ok X G (fa 5 rfl), He.free_ok X G (fa 6 rfl), He.free_ok X G (fa 7 rfl), He.free_ok X G (fa 8 rfl), He.free_ok X G (fa 9 rfl), He.free_ok X G (fa 10 rfl), He.free_ok X G (fa 11 rfl), He.free_ok X G (fa 12 rfl), He.free_ok X G (fa 13 rfl), He.free_ok X G (fa 14 rfl), He.free_ok X G (fa 15 rfl), He.free_ok X G (fa 16 rfl), He.free_ok X G (fa 17 rfl), He.int_ok X G (fa 18 rfl), He.int_ok X G (fa 19 rfl), He.int_ok X G (fa 20 rfl), He.int_ok X G (fa 21 rfl), He.int_ok X G (fa 22 rfl), He.int_ok X G (fa 23 rfl), He.str_ok X G (fa 24 rfl), He.str_ok X G (fa 25 rfl), He.str_ok X G (fa 26 rfl), He.str_ok X G (fa 27 rfl), He.str_ok X G (fa 28 rfl), He.str_ok X G (fa 29 rfl), He.str_ok X G (fa 30 rfl), He.str_ok X G (fa 31 rfl), He.str_ok X G (fa 32 rfl), He.str_ok X G (fa 33 rfl), He.str_ok X G (fa 34 rfl), He.str_ok X G (fa 35 rfl), He.str_ok X G (fa 36 rfl), He.str_ok X G (fa 37 rfl), He.str_ok X G (fa 38 rfl), He.str_ok X G (fa 39 rfl), He.str_ok X G (fa 40 rfl), He.str_ok X G (fa 41 rfl), He.str_ok X G (fa 42 rfl), ⟨_, He.glo_ok X G (fa 44 rfl), isKT_ok eT0⟩, He.glo_ok X G (fa 43 rfl), cM, isI_ok cM e4, nl, ns, getter_of cM nl e2 F_letters ⟨rfl, rfl, rfl, by decide +kernel, rfl, by decide +kernel, by decide +kernel⟩ rfl (fun _ _ _ _ _ _ us hl => match us, hl with | [_], _ => rfl), getter_of cM ns e3 F_states ⟨rfl, rfl, rfl, by decide +kernel, rfl, by decide +kernel, by decide +kernel⟩ rfl (fun _ _ _ _ _ _ us hl => match us, hl with | [_], _ => rfl), k1 _ (by decide), k1 _ (by decide), k1 _ (by decide), k1 _ (by decide), k2, fun n hn => k3 n (by
    unfold DL.kitM at hn
    split at hn
    · rename_i hh
      unfold kinds
      rcases hh with rfl | rfl | rfl | rfl | rfl | rfl <;> decide
    · cases hn)⟩
section
variable {P : Program} {w : World} {K : PySem.W.Frag} {mg : Str → Option Value} {h base : Heap}
theorem ok_all (X : K.In h) (G : h.Ns mainGlobals mg) (c : obK fns exK K = vaK fns) : ∃ fd, (∀ (s : Shared) (u : Value), BindsTo s fd ⟨[u], []⟩ [("_law_cells", u)]) ∧ ∀ (P : Program) (w : World) (base : Heap), FnG P w K mg base GK 17 (He.ga K "law") fd P_law (spD K (F_law (He.ga K "Machine"))) := by
  have T := facts_of X G c
  have e := ex_of c
  unfold exK at e
  simp only [Bool.and_eq_true] at e
  obtain ⟨e1, e2, e3, e4, eC, eT0, eX0, eX1, eX2, eX3, eX4, eX5, eX6, eX7, eE0, eM, e5⟩ := e
  have fa : ∀ (i : Nat) {f : He.Fa}, exL[i]? = some f → f.ok K = true := fun i f hi => List.all_eq_true.mp e1 f (List.mem_of_getElem? hi)
  obtain ⟨d__law_cell, U__law_cell⟩ := fun_of c 0 rfl
  obtain ⟨d_is_letters, U_is_letters⟩ := fun_of c 1 rfl
  obtain ⟨d_is_number, U_is_number⟩ := fun_of c 2 rfl
  obtain ⟨d_is_state, U_is_state⟩ := fun_of c 3 rfl
  obtain ⟨d_first_wrong_state, U_first_wrong_state⟩ := fun_of c 4 rfl
  obtain ⟨d__law_bank, U__law_bank⟩ := fun_of c 5 rfl
  obtain ⟨d_told_letters, U_told_letters⟩ := fun_of c 6 rfl
  obtain ⟨d_told_state, U_told_state⟩ := fun_of c 7 rfl
  obtain ⟨d_Machine_read, U_Machine_read⟩ := fun_of c 8 rfl
  obtain ⟨d_machine_told, U_machine_told⟩ := fun_of c 9 rfl
  obtain ⟨d_is_spelled, U_is_spelled⟩ := fun_of c 10 rfl
  obtain ⟨d_states_along, U_states_along⟩ := fun_of c 11 rfl
  obtain ⟨d_state_behind, U_state_behind⟩ := fun_of c 12 rfl
  obtain ⟨d_shows_turning, U_shows_turning⟩ := fun_of c 13 rfl
  obtain ⟨d_accepts_one, U_accepts_one⟩ := fun_of c 14 rfl
  obtain ⟨d_is_empty, U_is_empty⟩ := fun_of c 15 rfl
  obtain ⟨d_is_endless, U_is_endless⟩ := fun_of c 16 rfl
  obtain ⟨d_is_lasso, U_is_lasso⟩ := fun_of c 17 rfl
  obtain ⟨d_is_word, U_is_word⟩ := fun_of c 18 rfl
  obtain ⟨d_is_demand_form, U_is_demand_form⟩ := fun_of c 19 rfl
  obtain ⟨d_is_demand, U_is_demand⟩ := fun_of c 20 rfl
  obtain ⟨d_check_machine, U_check_machine⟩ := fun_of c 21 rfl
  obtain ⟨d_Machine_len_, U_Machine_len_⟩ := fun_of c 22 rfl
  obtain ⟨d_arrows_of, U_arrows_of⟩ := fun_of c 23 rfl
  obtain ⟨d_colours_of, U_colours_of⟩ := fun_of c 24 rfl
  obtain ⟨d_bits_ahead, U_bits_ahead⟩ := fun_of c 25 rfl
  obtain ⟨d_greatest_loops, U_greatest_loops⟩ := fun_of c 26 rfl
  obtain ⟨d_without_wrong_top, U_without_wrong_top⟩ := fun_of c 27 rfl
  obtain ⟨d_loops_as_asked, U_loops_as_asked⟩ := fun_of c 28 rfl
  obtain ⟨d_leading_to, U_leading_to⟩ := fun_of c 29 rfl
  obtain ⟨d_leading_to_loops, U_leading_to_loops⟩ := fun_of c 30 rfl
  obtain ⟨d_live, U_live⟩ := fun_of c 31 rfl
  obtain ⟨d_words_from, U_words_from⟩ := fun_of c 32 rfl
  obtain ⟨d_first_words, U_first_words⟩ := fun_of c 33 rfl
  obtain ⟨d_reached, U_reached⟩ := fun_of c 34 rfl
  obtain ⟨d_has_loop, U_has_loop⟩ := fun_of c 35 rfl
  obtain ⟨d_is_guard, U_is_guard⟩ := fun_of c 36 rfl
  obtain ⟨d_is_hope, U_is_hope⟩ := fun_of c 37 rfl
  obtain ⟨d_sure, U_sure⟩ := fun_of c 38 rfl
  obtain ⟨d_is_promise, U_is_promise⟩ := fun_of c 39 rfl
  obtain ⟨d_nested_loops, U_nested_loops⟩ := fun_of c 40 rfl
  obtain ⟨d_comes_again, U_comes_again⟩ := fun_of c 41 rfl
  obtain ⟨d_does_stay, U_does_stay⟩ := fun_of c 42 rfl
  obtain ⟨d_is_duty, U_is_duty⟩ := fun_of c 43 rfl
  obtain ⟨d_dead, U_dead⟩ := fun_of c 44 rfl
  obtain ⟨d_is_watchable, U_is_watchable⟩ := fun_of c 45 rfl
  obtain ⟨d_is_kind, U_is_kind⟩ := fun_of c 46 rfl
  obtain ⟨d_least_colours, U_least_colours⟩ := fun_of c 47 rfl
  obtain ⟨d_with_colours, U_with_colours⟩ := fun_of c 48 rfl
  obtain ⟨d_recoloured, U_recoloured⟩ := fun_of c 49 rfl
  obtain ⟨d_depth, U_depth⟩ := fun_of c 50 rfl
  obtain ⟨d_state_after, U_state_after⟩ := fun_of c 51 rfl
  obtain ⟨d_verdict_at, U_verdict_at⟩ := fun_of c 52 rfl
  obtain ⟨d_verdict, U_verdict⟩ := fun_of c 53 rfl
  obtain ⟨d_check_pair, U_check_pair⟩ := fun_of c 54 rfl
  obtain ⟨d_pair_colours, U_pair_colours⟩ := fun_of c 55 rfl
  obtain ⟨d_pair_arrows, U_pair_arrows⟩ := fun_of c 56 rfl
  obtain ⟨d_top_of, U_top_of⟩ := fun_of c 57 rfl
  obtain ⟨d_word_round, U_word_round⟩ := fun_of c 58 rfl
  obtain ⟨d_lasso_from, U_lasso_from⟩ := fun_of c 59 rfl
  obtain ⟨d_lasso_between, U_lasso_between⟩ := fun_of c 60 rfl
  obtain ⟨d_parting, U_parting⟩ := fun_of c 61 rfl
  obtain ⟨d_alike, U_alike⟩ := fun_of c 62 rfl
  obtain ⟨d_takes, U_takes⟩ := fun_of c 63 rfl
  obtain ⟨d_lies_in, U_lies_in⟩ := fun_of c 64 rfl
  obtain ⟨d_holds, U_holds⟩ := fun_of c 65 rfl
  obtain ⟨d_accepts_demand, U_accepts_demand⟩ := fun_of c 66 rfl
  obtain ⟨d_shows_open, U_shows_open⟩ := fun_of c 67 rfl
  obtain ⟨d_breaking, U_breaking⟩ := fun_of c 68 rfl
  obtain ⟨d_within, U_within⟩ := fun_of c 69 rfl
  obtain ⟨d_stuck_pairs, U_stuck_pairs⟩ := fun_of c 70 rfl
  obtain ⟨d_first_word_to, U_first_word_to⟩ := fun_of c 71 rfl
  obtain ⟨d_jam, U_jam⟩ := fun_of c 72 rfl
  obtain ⟨d_in_step, U_in_step⟩ := fun_of c 73 rfl
  obtain ⟨d_is_jam, U_is_jam⟩ := fun_of c 74 rfl
  obtain ⟨d_accepts_pair, U_accepts_pair⟩ := fun_of c 75 rfl
  obtain ⟨d_accepts, U_accepts⟩ := fun_of c 76 rfl
  obtain ⟨d__law_dip, U__law_dip⟩ := fun_of c 77 rfl
  obtain ⟨d__law_bent, U__law_bent⟩ := fun_of c 78 rfl
  obtain ⟨d__law_right, U__law_right⟩ := fun_of c 79 rfl
  obtain ⟨d__law_well, U__law_well⟩ := fun_of c 80 rfl
  obtain ⟨d_law, U_law⟩ := fun_of c 81 rfl
  obtain ⟨d_init, U_init⟩ := fun_of c 82 rfl
  obtain ⟨dX_InvalidLetters, UX_InvalidLetters⟩ := fun_of c 83 rfl
  obtain ⟨dX_InvalidStates, UX_InvalidStates⟩ := fun_of c 84 rfl
  obtain ⟨dX_InvalidText, UX_InvalidText⟩ := fun_of c 85 rfl
  obtain ⟨dX_NotAMachine, UX_NotAMachine⟩ := fun_of c 86 rfl
  obtain ⟨dX_InvalidWord, UX_InvalidWord⟩ := fun_of c 87 rfl
  obtain ⟨dX_OtherLetters, UX_OtherLetters⟩ := fun_of c 88 rfl
  obtain ⟨dX_InvalidLasso, UX_InvalidLasso⟩ := fun_of c 89 rfl
  obtain ⟨dX_InvalidDemand, UX_InvalidDemand⟩ := fun_of c 90 rfl
  refine ⟨d_law, ?_, fun P w base => ?_⟩
  · intro s u
    obtain ⟨oc, od, kV, doc, pm, an, cdv, ct, osl, hfd, lk, hc⟩ := U_law.ex
    rw [hfd]
    exact BindsTo.of_eq rfl
  · have HX_InvalidLetters : HasX P w K mg base "InvalidLetters" "given" := ⟨excB_ok eX0 (He.glo_ok X G (fa 45 rfl)), _, _, fn_xi (g := "given") UX_InvalidLetters ⟨rfl, rfl, rfl, by decide +kernel, rfl, by decide +kernel, by decide +kernel⟩ rfl (excB_ok eX0 (He.glo_ok X G (fa 45 rfl))).T (excB_ok eX0 (He.glo_ok X G (fa 45 rfl))).no (by decide) (by decide) (fun _ => rfl), UX_InvalidLetters.binds (fun _ _ _ _ _ _ us hl => match us, hl with | [_, _], _ => rfl)⟩
    have HX_InvalidStates : HasX P w K mg base "InvalidStates" "index" := ⟨excB_ok eX1 (He.glo_ok X G (fa 46 rfl)), _, _, fn_xi (g := "index") UX_InvalidStates ⟨rfl, rfl, rfl, by decide +kernel, rfl, by decide +kernel, by decide +kernel⟩ rfl (excB_ok eX1 (He.glo_ok X G (fa 46 rfl))).T (excB_ok eX1 (He.glo_ok X G (fa 46 rfl))).no (by decide) (by decide) (fun _ => rfl), UX_InvalidStates.binds (fun _ _ _ _ _ _ us hl => match us, hl with | [_, _], _ => rfl)⟩
    have HX_InvalidText : HasX P w K mg base "InvalidText" "given" := ⟨excB_ok eX2 (He.glo_ok X G (fa 47 rfl)), _, _, fn_xi (g := "given") UX_InvalidText ⟨rfl, rfl, rfl, by decide +kernel, rfl, by decide +kernel, by decide +kernel⟩ rfl (excB_ok eX2 (He.glo_ok X G (fa 47 rfl))).T (excB_ok eX2 (He.glo_ok X G (fa 47 rfl))).no (by decide) (by decide) (fun _ => rfl), UX_InvalidText.binds (fun _ _ _ _ _ _ us hl => match us, hl with | [_, _], _ => rfl)⟩
    have HX_NotAMachine : HasX P w K mg base "NotAMachine" "given" := ⟨excB_ok eX3 (He.glo_ok X G (fa 48 rfl)), _, _, fn_xi (g := "given") UX_NotAMachine ⟨rfl, rfl, rfl, by decide +kernel, rfl, by decide +kernel, by decide +kernel⟩ rfl (excB_ok eX3 (He.glo_ok X G (fa 48 rfl))).T (excB_ok eX3 (He.glo_ok X G (fa 48 rfl))).no (by decide) (by decide) (fun _ => rfl), UX_NotAMachine.binds (fun _ _ _ _ _ _ us hl => match us, hl with | [_, _], _ => rfl)⟩
    have HX_InvalidWord : HasX P w K mg base "InvalidWord" "given" := ⟨excB_ok eX4 (He.glo_ok X G (fa 49 rfl)), _, _, fn_xi (g := "given") UX_InvalidWord ⟨rfl, rfl, rfl, by decide +kernel, rfl, by decide +kernel, by decide +kernel⟩ rfl (excB_ok eX4 (He.glo_ok X G (fa 49 rfl))).T (excB_ok eX4 (He.glo_ok X G (fa 49 rfl))).no (by decide) (by decide) (fun _ => rfl), UX_InvalidWord.binds (fun _ _ _ _ _ _ us hl => match us, hl with | [_, _], _ => rfl)⟩
    have HX_OtherLetters : HasX P w K mg base "OtherLetters" "given" := ⟨excB_ok eX5 (He.glo_ok X G (fa 50 rfl)), _, _, fn_xi (g := "given") UX_OtherLetters ⟨rfl, rfl, rfl, by decide +kernel, rfl, by decide +kernel, by decide +kernel⟩ rfl (excB_ok eX5 (He.glo_ok X G (fa 50 rfl))).T (excB_ok eX5 (He.glo_ok X G (fa 50 rfl))).no (by decide) (by decide) (fun _ => rfl), UX_OtherLetters.binds (fun _ _ _ _ _ _ us hl => match us, hl with | [_, _], _ => rfl)⟩
    have HX_InvalidLasso : HasX P w K mg base "InvalidLasso" "given" := ⟨excB_ok eX6 (He.glo_ok X G (fa 51 rfl)), _, _, fn_xi (g := "given") UX_InvalidLasso ⟨rfl, rfl, rfl, by decide +kernel, rfl, by decide +kernel, by decide +kernel⟩ rfl (excB_ok eX6 (He.glo_ok X G (fa 51 rfl))).T (excB_ok eX6 (He.glo_ok X G (fa 51 rfl))).no (by decide) (by decide) (fun _ => rfl), UX_InvalidLasso.binds (fun _ _ _ _ _ _ us hl => match us, hl with | [_, _], _ => rfl)⟩
    have HX_InvalidDemand : HasX P w K mg base "InvalidDemand" "given" := ⟨excB_ok eX7 (He.glo_ok X G (fa 52 rfl)), _, _, fn_xi (g := "given") UX_InvalidDemand ⟨rfl, rfl, rfl, by decide +kernel, rfl, by decide +kernel, by decide +kernel⟩ rfl (excB_ok eX7 (He.glo_ok X G (fa 52 rfl))).T (excB_ok eX7 (He.glo_ok X G (fa 52 rfl))).no (by decide) (by decide) (fun _ => rfl), UX_InvalidDemand.binds (fun _ _ _ _ _ _ us hl => match us, hl with | [_, _], _ => rfl)⟩
    have HE_InvalidText : ExM K "InvalidText" (fun c => List.lookup c [("InvalidText", true)]) := exmB_ok eE0
    have H__law_cell : Has P w K mg base GT 1 "_law_cell" P__law_cell (spD K (F__law_cell)) := ⟨_, _, ok__law_cell T U__law_cell, He.glo_ok X G (fa 53 rfl), U__law_cell.kp, U__law_cell.binds (fun _ _ _ _ _ _ us hl => match us, hl with | [_, _], _ => rfl)⟩
    have H_is_letters : Has P w K mg base GT 1 "is_letters" P_is_letters (spD K (F_is_letters (He.ga K "Machine"))) := ⟨_, _, ok_is_letters T U_is_letters, He.glo_ok X G (fa 54 rfl), U_is_letters.kp, U_is_letters.binds (fun _ _ _ _ _ _ us hl => match us, hl with | [_], _ => rfl)⟩
    have H_is_number : Has P w K mg base GT 1 "is_number" P_is_number (spD K (F_is_number (He.ga K "Machine"))) := ⟨_, _, ok_is_number T U_is_number, He.glo_ok X G (fa 55 rfl), U_is_number.kp, U_is_number.binds (fun _ _ _ _ _ _ us hl => match us, hl with | [_, _], _ => rfl)⟩
    have H_is_state : Has P w K mg base GT 2 "is_state" P_is_state (spD K (F_is_state (He.ga K "Machine"))) := ⟨_, _, ok_is_state T U_is_state H_is_number, He.glo_ok X G (fa 56 rfl), U_is_state.kp, U_is_state.binds (fun _ _ _ _ _ _ us hl => match us, hl with | [_, _, _], _ => rfl)⟩
    have H_first_wrong_state : Has P w K mg base GT 3 "first_wrong_state" P_first_wrong_state (spD K (F_first_wrong_state (He.ga K "Machine"))) := ⟨_, _, ok_first_wrong_state T U_first_wrong_state H_is_state, He.glo_ok X G (fa 57 rfl), U_first_wrong_state.kp, U_first_wrong_state.binds (fun _ _ _ _ _ _ us hl => match us, hl with | [_, _], _ => rfl)⟩
    have H_Machine : HasM P w K mg base (He.ga K "Machine") := ⟨_, _, He.mkr_ok (fa 137 rfl), ok_Machine_init T U_init H_first_wrong_state H_is_letters HX_InvalidStates HX_InvalidLetters, U_init.binds (fun _ _ _ _ _ _ us hl => match us, hl with | [_, _, _], _ => rfl)⟩
    have H__law_bank : Has P w K mg base GT 1 "_law_bank" P__law_bank (spD K (F__law_bank)) := ⟨_, _, ok__law_bank T U__law_bank, He.glo_ok X G (fa 58 rfl), U__law_bank.kp, U__law_bank.binds (fun _ _ _ _ _ _ us hl => match us, hl with | [], _ => rfl)⟩
    have H_told_letters : Has P w K mg base GT 1 "told_letters" P_told_letters (spD K (F_told_letters)) := ⟨_, _, ok_told_letters T U_told_letters, He.glo_ok X G (fa 59 rfl), U_told_letters.kp, U_told_letters.binds (fun _ _ _ _ _ _ us hl => match us, hl with | [_], _ => rfl)⟩
    have H_told_state : Has P w K mg base GT 1 "told_state" P_told_state (spD K (F_told_state)) := ⟨_, _, ok_told_state T U_told_state, He.glo_ok X G (fa 60 rfl), U_told_state.kp, U_told_state.binds (fun _ _ _ _ _ _ us hl => match us, hl with | [_], _ => rfl)⟩
    have H_Machine_read : HasCM P w K mg base (He.ga K "Machine") := by
      refine ⟨_, _, _, (isCM_ok eC).1, (isCM_ok eC).2, ok_Machine_read T U_Machine_read H_told_letters H_told_state H_is_letters H_first_wrong_state H_Machine HX_InvalidText, U_Machine_read.binds (fun _ _ _ _ _ _ us hl => match us, hl with | [_, _], _ => rfl), ⟨fun s us ws _ h1 h2 => ?_, fun r rz => r.append (pick_vals rz [0])⟩⟩
      obtain ⟨oc, od, kV, doc, pm, an, cdv, ct, osl, hfd, lk, hc⟩ := U_Machine_read.ex
      rw [hfd]
      match us, ws, h1, h2 with
      | [_], [_], _, _ => exact BindsTo.of_eq rfl
    have H_machine_told : Has P w K mg base GT 7 "machine_told" P_machine_told (spD K (F_machine_told (He.ga K "Machine"))) := ⟨_, _, ok_machine_told T U_machine_told H_Machine_read HX_InvalidText HE_InvalidText, He.glo_ok X G (fa 61 rfl), U_machine_told.kp, U_machine_told.binds (fun _ _ _ _ _ _ us hl => match us, hl with | [_], _ => rfl)⟩
    have H_is_spelled : Has P w K mg base GT 1 "is_spelled" P_is_spelled (spD K (F_is_spelled (He.ga K "Machine"))) := ⟨_, _, ok_is_spelled T U_is_spelled, He.glo_ok X G (fa 62 rfl), U_is_spelled.kp, U_is_spelled.binds (fun _ _ _ _ _ _ us hl => match us, hl with | [_, _], _ => rfl)⟩
    have H_states_along : Has P w K mg base GT 3 "states_along" P_states_along (spD K (F_states_along (He.ga K "Machine"))) := ⟨_, _, ok_states_along T U_states_along, He.glo_ok X G (fa 63 rfl), U_states_along.kp, U_states_along.binds (fun _ _ _ _ _ _ us hl => match us, hl with | [_, _, _], _ => rfl)⟩
    have H_state_behind : Has P w K mg base GT 4 "state_behind" P_state_behind (spD K (F_state_behind (He.ga K "Machine"))) := ⟨_, _, ok_state_behind T U_state_behind H_states_along, He.glo_ok X G (fa 64 rfl), U_state_behind.kp, U_state_behind.binds (fun _ _ _ _ _ _ us hl => match us, hl with | [_, _, _], _ => rfl)⟩
    have H_shows_turning : Has P w K mg base GT 5 "shows_turning" P_shows_turning (spD K (F_shows_turning (He.ga K "Machine"))) := ⟨_, _, ok_shows_turning T U_shows_turning H_is_spelled H_state_behind H_states_along, He.glo_ok X G (fa 65 rfl), U_shows_turning.kp, U_shows_turning.binds (fun _ _ _ _ _ _ us hl => match us, hl with | [_, _, _], _ => rfl)⟩
    have H_accepts_one : Has P w K mg base GT 6 "accepts_one" P_accepts_one (spD K (F_accepts_one (He.ga K "Machine"))) := ⟨_, _, ok_accepts_one T U_accepts_one H_shows_turning, He.glo_ok X G (fa 66 rfl), U_accepts_one.kp, U_accepts_one.binds (fun _ _ _ _ _ _ us hl => match us, hl with | [_, _, _], _ => rfl)⟩
    have H_is_empty : Has P w K mg base GT 1 "is_empty" P_is_empty (spD K (F_is_empty (He.ga K "Machine"))) := ⟨_, _, ok_is_empty T U_is_empty, He.glo_ok X G (fa 67 rfl), U_is_empty.kp, U_is_empty.binds (fun _ _ _ _ _ _ us hl => match us, hl with | [_], _ => rfl)⟩
    have H_is_endless : Has P w K mg base GT 2 "is_endless" P_is_endless (spD K (F_is_endless (He.ga K "Machine"))) := ⟨_, _, ok_is_endless T U_is_endless H_is_spelled, He.glo_ok X G (fa 68 rfl), U_is_endless.kp, U_is_endless.binds (fun _ _ _ _ _ _ us hl => match us, hl with | [_, _], _ => rfl)⟩
    have H_is_lasso : Has P w K mg base GT 3 "is_lasso" P_is_lasso (spD K (F_is_lasso (He.ga K "Machine"))) := ⟨_, _, ok_is_lasso T U_is_lasso H_is_endless, He.glo_ok X G (fa 69 rfl), U_is_lasso.kp, U_is_lasso.binds (fun _ _ _ _ _ _ us hl => match us, hl with | [_, _], _ => rfl)⟩
    have H_is_word : Has P w K mg base GT 2 "is_word" P_is_word (spD K (F_is_word (He.ga K "Machine"))) := ⟨_, _, ok_is_word T U_is_word H_is_spelled, He.glo_ok X G (fa 70 rfl), U_is_word.kp, U_is_word.binds (fun _ _ _ _ _ _ us hl => match us, hl with | [_, _], _ => rfl)⟩
    have H_is_demand_form : Has P w K mg base GT 8 "is_demand_form" P_is_demand_form (spD K (F_is_demand_form (He.ga K "Machine"))) := ⟨_, _, ok_is_demand_form T U_is_demand_form H_is_number H_is_lasso H_is_word H_machine_told, He.glo_ok X G (fa 71 rfl), U_is_demand_form.kp, U_is_demand_form.binds (fun _ _ _ _ _ _ us hl => match us, hl with | [_, _], _ => rfl)⟩
    have H_is_demand : Has P w K mg base GT 9 "is_demand" P_is_demand (spD K (F_is_demand (He.ga K "Machine"))) := ⟨_, _, ok_is_demand T U_is_demand H_is_demand_form H_machine_told, He.glo_ok X G (fa 72 rfl), U_is_demand.kp, U_is_demand.binds (fun _ _ _ _ _ _ us hl => match us, hl with | [_, _], _ => rfl)⟩
    have H_check_machine : Has P w K mg base GT 3 "check_machine" P_check_machine (spD K (F_check_machine (He.ga K "Machine"))) := ⟨_, _, ok_check_machine T U_check_machine HX_NotAMachine, He.glo_ok X G (fa 73 rfl), U_check_machine.kp, U_check_machine.binds (fun _ _ _ _ _ _ us hl => match us, hl with | [_], _ => rfl)⟩
    have H_len : HasLen P w K mg base (He.ga K "Machine") := ⟨_, _, (He.meth_ok (fa 133 rfl)).at_, (He.meth_ok (fa 133 rfl)).fn, ok_Machine_len_ T U_Machine_len_, U_Machine_len_.binds (fun _ _ _ _ _ _ us hl => match us, hl with | [_], _ => rfl)⟩
    have H_arrows_of : Has P w K mg base GT 3 "arrows_of" P_arrows_of (spD K (F_arrows_of (He.ga K "Machine"))) := ⟨_, _, ok_arrows_of T U_arrows_of, He.glo_ok X G (fa 74 rfl), U_arrows_of.kp, U_arrows_of.binds (fun _ _ _ _ _ _ us hl => match us, hl with | [_], _ => rfl)⟩
    have H_colours_of : Has P w K mg base GT 3 "colours_of" P_colours_of (spD K (F_colours_of (He.ga K "Machine"))) := ⟨_, _, ok_colours_of T U_colours_of, He.glo_ok X G (fa 75 rfl), U_colours_of.kp, U_colours_of.binds (fun _ _ _ _ _ _ us hl => match us, hl with | [_], _ => rfl)⟩
    have H_bits_ahead : Has P w K mg base GT 1 "bits_ahead" P_bits_ahead (spD K (F_bits_ahead)) := ⟨_, _, ok_bits_ahead T U_bits_ahead, He.glo_ok X G (fa 76 rfl), U_bits_ahead.kp, U_bits_ahead.binds (fun _ _ _ _ _ _ us hl => match us, hl with | [_, _], _ => rfl)⟩
    have H_greatest_loops : Has P w K mg base GT 2 "greatest_loops" P_greatest_loops (spD K (F_greatest_loops)) := ⟨_, _, ok_greatest_loops T U_greatest_loops H_bits_ahead, He.glo_ok X G (fa 77 rfl), U_greatest_loops.kp, U_greatest_loops.binds (fun _ _ _ _ _ _ us hl => match us, hl with | [_, _], _ => rfl)⟩
    have H_without_wrong_top : Has P w K mg base GT 1 "without_wrong_top" P_without_wrong_top (spD K (F_without_wrong_top)) := ⟨_, _, ok_without_wrong_top T U_without_wrong_top, He.glo_ok X G (fa 78 rfl), U_without_wrong_top.kp, U_without_wrong_top.binds (fun _ _ _ _ _ _ us hl => match us, hl with | [_, _], _ => rfl)⟩
    have H_loops_as_asked : Has P w K mg base GT 3 "loops_as_asked" P_loops_as_asked (spD K (F_loops_as_asked)) := ⟨_, _, ok_loops_as_asked T U_loops_as_asked H_greatest_loops H_without_wrong_top, He.glo_ok X G (fa 79 rfl), U_loops_as_asked.kp, U_loops_as_asked.binds (fun _ _ _ _ _ _ us hl => match us, hl with | [_, _, _], _ => rfl)⟩
    have H_leading_to : Has P w K mg base GT 1 "leading_to" P_leading_to (spD K (F_leading_to)) := ⟨_, _, ok_leading_to T U_leading_to, He.glo_ok X G (fa 80 rfl), U_leading_to.kp, U_leading_to.binds (fun _ _ _ _ _ _ us hl => match us, hl with | [_, _], _ => rfl)⟩
    have H_leading_to_loops : Has P w K mg base GT 4 "leading_to_loops" P_leading_to_loops (spD K (F_leading_to_loops (He.ga K "Machine"))) := ⟨_, _, ok_leading_to_loops T U_leading_to_loops H_arrows_of H_colours_of H_loops_as_asked H_leading_to H_len, He.glo_ok X G (fa 81 rfl), U_leading_to_loops.kp, U_leading_to_loops.binds (fun _ _ _ _ _ _ us hl => match us, hl with | [_, _], _ => rfl)⟩
    have H_live : Has P w K mg base GT 5 "live" P_live (spD K (F_live (He.ga K "Machine"))) := ⟨_, _, ok_live T U_live H_check_machine H_leading_to_loops, He.glo_ok X G (fa 82 rfl), U_live.kp, U_live.binds (fun _ _ _ _ _ _ us hl => match us, hl with | [_], _ => rfl)⟩
    have H_words_from : Has P w K mg base GT 1 "words_from" P_words_from (spD K (F_words_from)) := ⟨_, _, ok_words_from T U_words_from, He.glo_ok X G (fa 83 rfl), U_words_from.kp, U_words_from.binds (fun _ _ _ _ _ _ us hl => match us, hl with | [_, _, _, _], _ => rfl)⟩
    have H_first_words : Has P w K mg base GT 4 "first_words" P_first_words (spD K (F_first_words (He.ga K "Machine"))) := ⟨_, _, ok_first_words T U_first_words H_arrows_of H_words_from H_len, He.glo_ok X G (fa 84 rfl), U_first_words.kp, U_first_words.binds (fun _ _ _ _ _ _ us hl => match us, hl with | [_], _ => rfl)⟩
    have H_reached : Has P w K mg base GT 5 "reached" P_reached (spD K (F_reached (He.ga K "Machine"))) := ⟨_, _, ok_reached T U_reached H_first_words, He.glo_ok X G (fa 85 rfl), U_reached.kp, U_reached.binds (fun _ _ _ _ _ _ us hl => match us, hl with | [_], _ => rfl)⟩
    have H_has_loop : Has P w K mg base GT 4 "has_loop" P_has_loop (spD K (F_has_loop (He.ga K "Machine"))) := ⟨_, _, ok_has_loop T U_has_loop H_colours_of H_arrows_of H_loops_as_asked, He.glo_ok X G (fa 86 rfl), U_has_loop.kp, U_has_loop.binds (fun _ _ _ _ _ _ us hl => match us, hl with | [_, _, _], _ => rfl)⟩
    have H_is_guard : Has P w K mg base GT 6 "is_guard" P_is_guard (spD K (F_is_guard (He.ga K "Machine"))) := ⟨_, _, ok_is_guard T U_is_guard H_check_machine H_live H_reached H_has_loop, He.glo_ok X G (fa 87 rfl), U_is_guard.kp, U_is_guard.binds (fun _ _ _ _ _ _ us hl => match us, hl with | [_], _ => rfl)⟩
    have H_is_hope : Has P w K mg base GT 6 "is_hope" P_is_hope (spD K (F_is_hope (He.ga K "Machine"))) := ⟨_, _, ok_is_hope T U_is_hope H_check_machine H_live H_reached, He.glo_ok X G (fa 88 rfl), U_is_hope.kp, U_is_hope.binds (fun _ _ _ _ _ _ us hl => match us, hl with | [_], _ => rfl)⟩
    have H_sure : Has P w K mg base GT 5 "sure" P_sure (spD K (F_sure (He.ga K "Machine"))) := ⟨_, _, ok_sure T U_sure H_check_machine H_leading_to_loops H_len, He.glo_ok X G (fa 89 rfl), U_sure.kp, U_sure.binds (fun _ _ _ _ _ _ us hl => match us, hl with | [_], _ => rfl)⟩
    have H_is_promise : Has P w K mg base GT 6 "is_promise" P_is_promise (spD K (F_is_promise (He.ga K "Machine"))) := ⟨_, _, ok_is_promise T U_is_promise H_check_machine H_sure H_reached H_has_loop, He.glo_ok X G (fa 90 rfl), U_is_promise.kp, U_is_promise.binds (fun _ _ _ _ _ _ us hl => match us, hl with | [_], _ => rfl)⟩
    have H_nested_loops : Has P w K mg base GT 6 "nested_loops" P_nested_loops (spD K (F_nested_loops (He.ga K "Machine"))) := ⟨_, _, ok_nested_loops T U_nested_loops H_arrows_of H_colours_of H_reached H_loops_as_asked, He.glo_ok X G (fa 91 rfl), U_nested_loops.kp, U_nested_loops.binds (fun _ _ _ _ _ _ us hl => match us, hl with | [_, _, _], _ => rfl)⟩
    have H_comes_again : Has P w K mg base GT 7 "comes_again" P_comes_again (spD K (F_comes_again (He.ga K "Machine"))) := ⟨_, _, ok_comes_again T U_comes_again H_check_machine H_nested_loops, He.glo_ok X G (fa 92 rfl), U_comes_again.kp, U_comes_again.binds (fun _ _ _ _ _ _ us hl => match us, hl with | [_], _ => rfl)⟩
    have H_does_stay : Has P w K mg base GT 7 "does_stay" P_does_stay (spD K (F_does_stay (He.ga K "Machine"))) := ⟨_, _, ok_does_stay T U_does_stay H_check_machine H_nested_loops, He.glo_ok X G (fa 93 rfl), U_does_stay.kp, U_does_stay.binds (fun _ _ _ _ _ _ us hl => match us, hl with | [_], _ => rfl)⟩
    have H_is_duty : Has P w K mg base GT 8 "is_duty" P_is_duty (spD K (F_is_duty (He.ga K "Machine"))) := ⟨_, _, ok_is_duty T U_is_duty H_comes_again H_does_stay, He.glo_ok X G (fa 94 rfl), U_is_duty.kp, U_is_duty.binds (fun _ _ _ _ _ _ us hl => match us, hl with | [_], _ => rfl)⟩
    have H_dead : Has P w K mg base GT 6 "dead" P_dead (spD K (F_dead (He.ga K "Machine"))) := ⟨_, _, ok_dead T U_dead H_live H_len, He.glo_ok X G (fa 95 rfl), U_dead.kp, U_dead.binds (fun _ _ _ _ _ _ us hl => match us, hl with | [_], _ => rfl)⟩
    have H_is_watchable : Has P w K mg base GT 7 "is_watchable" P_is_watchable (spD K (F_is_watchable (He.ga K "Machine"))) := ⟨_, _, ok_is_watchable T U_is_watchable H_check_machine H_sure H_dead H_arrows_of H_leading_to H_reached, He.glo_ok X G (fa 96 rfl), U_is_watchable.kp, U_is_watchable.binds (fun _ _ _ _ _ _ us hl => match us, hl with | [_], _ => rfl)⟩
    have H_is_kind : Has P w K mg base GT 9 "is_kind" P_is_kind (spD K (F_is_kind (He.ga K "Machine"))) := ⟨_, _, ok_is_kind T U_is_kind H_is_guard H_is_hope H_is_promise H_is_duty H_comes_again H_does_stay H_is_watchable, He.glo_ok X G (fa 97 rfl), U_is_kind.kp, U_is_kind.binds (fun _ _ _ _ _ _ us hl => match us, hl with | [_, _], _ => rfl)⟩
    have R_least_colours : ∀ n, Has P w K mg base GT (2 + n) "least_colours" P_least_colours (spD K (F_least_colours_n n)) := fun n => by
      induction n with
      | zero => exact ⟨He.ga K "least_colours", d_least_colours, fng_stuck, He.glo_ok X G (fa 98 rfl), U_least_colours.kp, U_least_colours.binds (fun _ _ _ _ _ _ us hl => match us, hl with | [_, _, _], _ => rfl)⟩
      | succ n ih => exact ⟨_, _, ok_least_colours T U_least_colours (n := 2 + n) (Nat.le_add_right _ _) H_greatest_loops ih, He.glo_ok X G (fa 98 rfl), U_least_colours.kp, U_least_colours.binds (fun _ _ _ _ _ _ us hl => match us, hl with | [_, _, _], _ => rfl)⟩
    have H_least_colours : Has P w K mg base GT 10 "least_colours" P_least_colours (spD K F_least_colours) := R_least_colours 8
    have H_with_colours : Has P w K mg base GT 6 "with_colours" P_with_colours (spD K (F_with_colours (He.ga K "Machine"))) := ⟨_, _, ok_with_colours T U_with_colours H_Machine, He.glo_ok X G (fa 99 rfl), U_with_colours.kp, U_with_colours.binds (fun _ _ _ _ _ _ us hl => match us, hl with | [_, _], _ => rfl)⟩
    have H_recoloured : Has P w K mg base GT 11 "recoloured" P_recoloured (spD K (F_recoloured (He.ga K "Machine"))) := ⟨_, _, ok_recoloured T U_recoloured H_check_machine H_reached H_colours_of H_arrows_of H_least_colours H_with_colours H_len, He.glo_ok X G (fa 100 rfl), U_recoloured.kp, U_recoloured.binds (fun _ _ _ _ _ _ us hl => match us, hl with | [_], _ => rfl)⟩
    have H_depth : Has P w K mg base GT 12 "depth" P_depth (spD K (F_depth (He.ga K "Machine"))) := ⟨_, _, ok_depth T U_depth H_check_machine H_recoloured H_colours_of, He.glo_ok X G (fa 101 rfl), U_depth.kp, U_depth.binds (fun _ _ _ _ _ _ us hl => match us, hl with | [_], _ => rfl)⟩
    have H_state_after : Has P w K mg base GT 5 "state_after" P_state_after (spD K (F_state_after (He.ga K "Machine"))) := ⟨_, _, ok_state_after T U_state_after H_check_machine H_is_word H_state_behind HX_InvalidWord, He.glo_ok X G (fa 102 rfl), U_state_after.kp, U_state_after.binds (fun _ _ _ _ _ _ us hl => match us, hl with | [_, _], _ => rfl)⟩
    have H_verdict_at : Has P w K mg base GT 7 "verdict_at" P_verdict_at (spD K (F_verdict_at (He.ga K "Machine"))) := ⟨_, _, ok_verdict_at T U_verdict_at H_dead H_sure, He.glo_ok X G (fa 103 rfl), U_verdict_at.kp, U_verdict_at.binds (fun _ _ _ _ _ _ us hl => match us, hl with | [_, _], _ => rfl)⟩
    have H_verdict : Has P w K mg base GT 8 "verdict" P_verdict (spD K (F_verdict (He.ga K "Machine"))) := ⟨_, _, ok_verdict T U_verdict H_state_after H_verdict_at, He.glo_ok X G (fa 104 rfl), U_verdict.kp, U_verdict.binds (fun _ _ _ _ _ _ us hl => match us, hl with | [_, _], _ => rfl)⟩
    have H_check_pair : Has P w K mg base GT 4 "check_pair" P_check_pair (spD K (F_check_pair (He.ga K "Machine"))) := ⟨_, _, ok_check_pair T U_check_pair H_check_machine HX_OtherLetters, He.glo_ok X G (fa 105 rfl), U_check_pair.kp, U_check_pair.binds (fun _ _ _ _ _ _ us hl => match us, hl with | [_, _], _ => rfl)⟩
    have H_pair_colours : Has P w K mg base GT 3 "pair_colours" P_pair_colours (spD K (F_pair_colours (He.ga K "Machine"))) := ⟨_, _, ok_pair_colours T U_pair_colours, He.glo_ok X G (fa 106 rfl), U_pair_colours.kp, U_pair_colours.binds (fun _ _ _ _ _ _ us hl => match us, hl with | [_, _], _ => rfl)⟩
    have H_pair_arrows : Has P w K mg base GT 3 "pair_arrows" P_pair_arrows (spD K (F_pair_arrows (He.ga K "Machine"))) := ⟨_, _, ok_pair_arrows T U_pair_arrows H_len, He.glo_ok X G (fa 107 rfl), U_pair_arrows.kp, U_pair_arrows.binds (fun _ _ _ _ _ _ us hl => match us, hl with | [_, _], _ => rfl)⟩
    have H_top_of : Has P w K mg base GT 1 "top_of" P_top_of (spD K (F_top_of)) := ⟨_, _, ok_top_of T U_top_of, He.glo_ok X G (fa 108 rfl), U_top_of.kp, U_top_of.binds (fun _ _ _ _ _ _ us hl => match us, hl with | [_, _], _ => rfl)⟩
    have H_word_round : Has P w K mg base GT 2 "word_round" P_word_round (spD K (F_word_round)) := ⟨_, _, ok_word_round T U_word_round H_words_from, He.glo_ok X G (fa 109 rfl), U_word_round.kp, U_word_round.binds (fun _ _ _ _ _ _ us hl => match us, hl with | [_, _, _, _], _ => rfl)⟩
    have H_lasso_from : Has P w K mg base GT 4 "lasso_from" P_lasso_from (spD K (F_lasso_from)) := ⟨_, _, ok_lasso_from T U_lasso_from H_words_from H_loops_as_asked H_top_of H_word_round, He.glo_ok X G (fa 110 rfl), U_lasso_from.kp, U_lasso_from.binds (fun _ _ _ _ _ _ us hl => match us, hl with | [_, _, _, _], _ => rfl)⟩
    have H_lasso_between : Has P w K mg base GT 5 "lasso_between" P_lasso_between (spD K (F_lasso_between (He.ga K "Machine"))) := ⟨_, _, ok_lasso_between T U_lasso_between H_pair_colours H_pair_arrows H_lasso_from, He.glo_ok X G (fa 111 rfl), U_lasso_between.kp, U_lasso_between.binds (fun _ _ _ _ _ _ us hl => match us, hl with | [_, _, _, _], _ => rfl)⟩
    have H_parting : Has P w K mg base GT 6 "parting" P_parting (spD K (F_parting (He.ga K "Machine"))) := ⟨_, _, ok_parting T U_parting H_check_pair H_lasso_between, He.glo_ok X G (fa 112 rfl), U_parting.kp, U_parting.binds (fun _ _ _ _ _ _ us hl => match us, hl with | [_, _], _ => rfl)⟩
    have H_alike : Has P w K mg base GT 7 "alike" P_alike (spD K (F_alike (He.ga K "Machine"))) := ⟨_, _, ok_alike T U_alike H_parting, He.glo_ok X G (fa 113 rfl), U_alike.kp, U_alike.binds (fun _ _ _ _ _ _ us hl => match us, hl with | [_, _], _ => rfl)⟩
    have H_takes : Has P w K mg base GT 5 "takes" P_takes (spD K (F_takes (He.ga K "Machine"))) := ⟨_, _, ok_takes T U_takes H_state_behind H_states_along H_len, He.glo_ok X G (fa 114 rfl), U_takes.kp, U_takes.binds (fun _ _ _ _ _ _ us hl => match us, hl with | [_, _], _ => rfl)⟩
    have H_lies_in : Has P w K mg base GT 6 "lies_in" P_lies_in (spD K (F_lies_in (He.ga K "Machine"))) := ⟨_, _, ok_lies_in T U_lies_in H_check_machine H_is_lasso H_takes HX_InvalidLasso, He.glo_ok X G (fa 115 rfl), U_lies_in.kp, U_lies_in.binds (fun _ _ _ _ _ _ us hl => match us, hl with | [_, _], _ => rfl)⟩
    have H_holds : Has P w K mg base GT 13 "holds" P_holds (spD K (F_holds (He.ga K "Machine"))) := ⟨_, _, ok_holds T U_holds H_check_machine H_is_demand H_is_kind H_depth H_verdict H_machine_told H_alike H_lies_in HX_InvalidDemand, He.glo_ok X G (fa 116 rfl), U_holds.kp, U_holds.binds (fun _ _ _ _ _ _ us hl => match us, hl with | [_, _], _ => rfl)⟩
    have H_accepts_demand : Has P w K mg base GT 14 "accepts_demand" P_accepts_demand (spD K (F_accepts_demand (He.ga K "Machine"))) := ⟨_, _, ok_accepts_demand T U_accepts_demand H_is_empty H_is_demand H_holds, He.glo_ok X G (fa 117 rfl), U_accepts_demand.kp, U_accepts_demand.binds (fun _ _ _ _ _ _ us hl => match us, hl with | [_, _, _, _], _ => rfl)⟩
    have H_shows_open : Has P w K mg base GT 6 "shows_open" P_shows_open (spD K (F_shows_open (He.ga K "Machine"))) := ⟨_, _, ok_shows_open T U_shows_open H_is_word H_is_endless H_takes, He.glo_ok X G (fa 118 rfl), U_shows_open.kp, U_shows_open.binds (fun _ _ _ _ _ _ us hl => match us, hl with | [_, _, _], _ => rfl)⟩
    have H_breaking : Has P w K mg base GT 6 "breaking" P_breaking (spD K (F_breaking (He.ga K "Machine"))) := ⟨_, _, ok_breaking T U_breaking H_check_pair H_lasso_between, He.glo_ok X G (fa 119 rfl), U_breaking.kp, U_breaking.binds (fun _ _ _ _ _ _ us hl => match us, hl with | [_, _], _ => rfl)⟩
    have H_within : Has P w K mg base GT 7 "within" P_within (spD K (F_within (He.ga K "Machine"))) := ⟨_, _, ok_within T U_within H_breaking, He.glo_ok X G (fa 120 rfl), U_within.kp, U_within.binds (fun _ _ _ _ _ _ us hl => match us, hl with | [_, _], _ => rfl)⟩
    have H_stuck_pairs : Has P w K mg base GT 6 "stuck_pairs" P_stuck_pairs (spD K (F_stuck_pairs (He.ga K "Machine"))) := ⟨_, _, ok_stuck_pairs T U_stuck_pairs H_pair_arrows H_pair_colours H_loops_as_asked H_leading_to H_live H_len, He.glo_ok X G (fa 121 rfl), U_stuck_pairs.kp, U_stuck_pairs.binds (fun _ _ _ _ _ _ us hl => match us, hl with | [_, _], _ => rfl)⟩
    have H_first_word_to : Has P w K mg base GT 2 "first_word_to" P_first_word_to (spD K (F_first_word_to)) := ⟨_, _, ok_first_word_to T U_first_word_to H_words_from, He.glo_ok X G (fa 122 rfl), U_first_word_to.kp, U_first_word_to.binds (fun _ _ _ _ _ _ us hl => match us, hl with | [_, _, _, _], _ => rfl)⟩
    have H_jam : Has P w K mg base GT 7 "jam" P_jam (spD K (F_jam (He.ga K "Machine"))) := ⟨_, _, ok_jam T U_jam H_check_pair H_stuck_pairs H_pair_arrows H_first_word_to, He.glo_ok X G (fa 123 rfl), U_jam.kp, U_jam.binds (fun _ _ _ _ _ _ us hl => match us, hl with | [_, _], _ => rfl)⟩
    have H_in_step : Has P w K mg base GT 8 "in_step" P_in_step (spD K (F_in_step (He.ga K "Machine"))) := ⟨_, _, ok_in_step T U_in_step H_jam, He.glo_ok X G (fa 124 rfl), U_in_step.kp, U_in_step.binds (fun _ _ _ _ _ _ us hl => match us, hl with | [_, _], _ => rfl)⟩
    have H_is_jam : Has P w K mg base GT 7 "is_jam" P_is_jam (spD K (F_is_jam (He.ga K "Machine"))) := ⟨_, _, ok_is_jam T U_is_jam H_state_behind H_stuck_pairs H_len, He.glo_ok X G (fa 125 rfl), U_is_jam.kp, U_is_jam.binds (fun _ _ _ _ _ _ us hl => match us, hl with | [_, _, _], _ => rfl)⟩
    have H_accepts_pair : Has P w K mg base GT 9 "accepts_pair" P_accepts_pair (spD K (F_accepts_pair (He.ga K "Machine"))) := ⟨_, _, ok_accepts_pair T U_accepts_pair H_is_empty H_alike H_within H_in_step H_is_spelled H_is_jam H_is_endless H_takes, He.glo_ok X G (fa 126 rfl), U_accepts_pair.kp, U_accepts_pair.binds (fun _ _ _ _ _ _ us hl => match us, hl with | [_, _, _, _], _ => rfl)⟩
    have H_accepts : Has P w K mg base GT 15 "accepts" P_accepts (spD K (F_accepts (He.ga K "Machine"))) := ⟨_, _, ok_accepts T U_accepts H_machine_told H_accepts_one H_accepts_demand H_shows_open H_accepts_pair, He.glo_ok X G (fa 127 rfl), U_accepts.kp, U_accepts.binds (fun _ _ _ _ _ _ us hl => match us, hl with | [_, _], _ => rfl)⟩
    have H__law_dip : Has P w K mg base GT 1 "_law_dip" P__law_dip (spD K (F__law_dip)) := ⟨_, _, ok__law_dip T U__law_dip, He.glo_ok X G (fa 128 rfl), U__law_dip.kp, U__law_dip.binds (fun _ _ _ _ _ _ us hl => match us, hl with | [_, _], _ => rfl)⟩
    have H__law_bent : Has P w K mg base GT 2 "_law_bent" P__law_bent (spD K (F__law_bent)) := ⟨_, _, ok__law_bent T U__law_bent H__law_dip, He.glo_ok X G (fa 129 rfl), U__law_bent.kp, U__law_bent.binds (fun _ _ _ _ _ _ us hl => match us, hl with | [_, _, _], _ => rfl)⟩
    have H__law_right : Has P w K mg base GK 16 "_law_right" P__law_right (spD K (F__law_right (He.ga K "Machine"))) := ⟨_, _, ok__law_right T U__law_right H__law_bank H_accepts H__law_bent H_Machine, He.glo_ok X G (fa 130 rfl), U__law_right.kp, U__law_right.binds (fun _ _ _ _ _ _ us hl => match us, hl with | [_], _ => rfl)⟩
    have H__law_well : Has P w K mg base GT 1 "_law_well" P__law_well (spDF K (F__law_well)) := ⟨_, _, ok__law_well T U__law_well, He.glo_ok X G (fa 131 rfl), U__law_well.kp, U__law_well.binds (fun _ _ _ _ _ _ us hl => match us, hl with | [_], _ => rfl)⟩
    exact ok_law T U_law H__law_cell H__law_right H__law_well
end
theorem mach_lit {K : PySem.W.Frag} (c : obK fns exK K = vaK fns) : He.ga K "Machine" = 294 := by
  have e := ex_of c
  unfold exK at e
  simp only [Bool.and_eq_true] at e
  obtain ⟨e1, e2, e3, e4, eC, eT0, eX0, eX1, eX2, eX3, eX4, eX5, eX6, eX7, eE0, eM, e5⟩ := e
  exact of_decide_eq_true eM
theorem glo_law {K : PySem.W.Frag} (c : obK fns exK K = vaK fns) : (He.Fa.glo "law").ok K = true := by
  have e := ex_of c
  unfold exK at e
  simp only [Bool.and_eq_true] at e
  exact List.all_eq_true.mp e.1 _ (List.mem_of_getElem? (i := 132) rfl)
theorem ob_eq (s : PySem.W.SharedT) : ob s = hk.obs s.abs := obL_eq (HandSHeadRun.getT_eq s)
end DL

set_option maxHeartbeats 1000000
namespace DL
open PySem PySem.Spec PyProof.Rows L2
theorem lc_map {g : GF} {F : EF} {f : D → D} : ∀ (ds : List D) (ρ : Env) (b : Bag), (∀ d ∈ ds, ∃ ρ', g d ρ b = some (ρ', b) ∧ F ρ' b = .ok (f d) b) → lcD g bYes F ds ρ b = .ok (ds.map f) b
  | [], ρ, b, _ => rfl
  | d :: ds, ρ, b, h => by
    obtain ⟨ρ', h0, h1⟩ := h d List.mem_cons_self
    have h3 := lc_map ds ρ b fun d hd => h d (List.mem_cons_of_mem _ hd)
    simp [lcD, h0, h1, h3]
theorem sg_len {x : Str} (h : x ∈ sgs) : 1 ≤ x.length ∧ x.length ≤ 3 := by
  have : ∀ x ∈ sgs, 1 ≤ x.length ∧ x.length ≤ 3 := by decide +kernel
  exact this x h
def rowsD (rs : List Row) : D := .tup (rs.map rowD)
def machD (M : Addr) (x : Str) (rs : List Row) : D := .ins M ["_letters", "_states"] [.str x, rowsD rs]
end DL

set_option maxHeartbeats 1000000

set_option maxHeartbeats 1000000
namespace DL
open PySem PySem.Spec PyProof.Rows L2
theorem fld_l (M : Addr) (x : Str) (rs : List Row) : fldF M "_letters" (machD M x rs) = some (.str x) := by
  simp [fldF, machD, lkD]
theorem fld_s (M : Addr) (x : Str) (rs : List Row) : fldF M "_states" (machD M x rs) = some (rowsD rs) := by
  have h : ¬ ("_states" : Str) = "_letters" := by decide
  simp [fldF, machD, lkD, h]
end DL

set_option maxHeartbeats 1000000
namespace DL
open PySem PySem.Spec PyProof.Rows L2
theorem cut_ints (ns : List Int) (lo hi : Option Int) : (∀ d ∈ cutD (ns.map D.int) lo hi, ∃ g, d = D.int g) ∧ (cutD (ns.map D.int) lo hi).length ≤ ns.length := by
  unfold cutD
  refine ⟨fun d hd => ?_, ?_⟩
  · obtain ⟨g, _, rfl⟩ := List.mem_map.mp (List.mem_of_mem_drop (List.mem_of_mem_take hd))
    exact ⟨g, rfl⟩
  · rw [List.length_take, List.length_drop, List.length_map]
    omega
theorem pow_int : (10 : Int) ^ 18 = 1000000000000000000 := by decide +kernel
theorem pow_18 : powF (.int 10) (.int 18) = some (.int 1000000000000000000) := by
  unfold powF
  dsimp only
  rw [if_pos (by decide +kernel)]
  exact congrArg (fun z => some (D.int z)) pow_int
end DL

set_option maxHeartbeats 1000000

set_option maxHeartbeats 1000000
namespace DL
open PySem PySem.Spec PyProof.Rows L2
theorem app_wd {x w v : Str} (h : Wd x w) (h' : Wd x v) : Wd x (w ++ v) := fun c hc => by
  rw [app_list] at hc
  rcases List.mem_append.mp hc with z | z
  · exact h c z
  · exact h' c z
theorem walkE_app (x : Str) (rs : List Row) : ∀ (u v : List Nat) (s : Int), walkE x rs s (u ++ v) = walkE x rs (walkE x rs s u) v
  | [], v, s => rfl
  | c :: u, v, s => walkE_app x rs u v _
theorem walkL_app (x : Str) (rs : List Row) : ∀ (u v : List Nat) (s : Int), walkL x rs s (u ++ v) = walkL x rs s u ++ walkL x rs (walkE x rs s u) v
  | [], v, s => rfl
  | c :: u, v, s => by simp only [List.cons_append, walkL, walkE, walkL_app x rs u v]
end DL

set_option maxHeartbeats 1000000

set_option maxHeartbeats 1000000
namespace DL
open PySem PySem.Spec PyProof.Rows L2
theorem flats_ints (is : List Int) : flatsD (is.map D.int) = some (is.map V.int) := by
  induction is with
  | nil => rfl
  | cons i is ih => simp [ih]
end DL

set_option maxHeartbeats 1000000
namespace DL
open PySem PySem.Spec PyProof.Rows L2
@[simp] theorem unown_map (o : Option D) (ρ : Env) : unown (o.map SD.sh :: ρ) = o.map SD.sh :: unown ρ := by cases o <;> rfl
end DL

set_option maxHeartbeats 1000000
namespace DL
open PySem PySem.Spec PyProof.Rows L2
def rn (x : Str) (rs : List Row) (α : Nat → Nat) : Nat → Int
  | 0 => 0
  | i + 1 => goal rs (rn x rs α i) (idx x (α i))
end DL

set_option maxHeartbeats 1000000

set_option maxHeartbeats 1000000
namespace DL
open PySem PySem.Spec PyProof.Rows L2
theorem inV_ints (k : Int) (gs : List Int) : inV (.int k) (gs.map V.int) = decide (k ∈ gs) := by
  unfold inV
  induction gs with
  | nil => rfl
  | cons g gs ih =>
    rw [List.map_cons, List.any_cons, ih]
    show ((g == k) || decide (k ∈ gs)) = _
    by_cases h : g = k
    · subst h; simp
    · have : ¬ k = g := fun z => h z.symm
      simp [h, this]
@[simp] theorem inQ_lst (k : Int) (gs : List Int) : inQ (.int k) (.lst (gs.map D.int)) = some (.bl (decide (k ∈ gs))) := by
  simp [flats_ints, inV_ints]
@[simp] theorem inQ_tup (k : Int) (gs : List Int) : inQ (.int k) (.tup (gs.map D.int)) = some (.bl (decide (k ∈ gs))) := by
  simp [flats_ints, inV_ints]
end DL

set_option maxHeartbeats 1000000

set_option maxHeartbeats 1000000

set_option maxHeartbeats 1000000
namespace DL
open PySem PySem.Spec PyProof.Rows L2
def hds (ns : List Int) (β : Int → Nat) : List Int := ns.filter fun a => decide ((cls ns β a).head? = some a)
end DL

set_option maxHeartbeats 1000000
namespace DL
open PySem PySem.Spec PyProof.Rows L2
def mu (ws : List (List Int)) : Nat := (ws.map fun w => 1 + 2 * w.length).sum
end DL

set_option maxHeartbeats 1000000
namespace DL
open PySem PySem.Spec PyProof.Rows L2
theorem range_nums (n : Nat) : rangeOf (n : Int) = (nums n).map D.int := by
  unfold rangeOf nums
  rw [Int.toNat_natCast, List.map_map]
  rfl
end DL

set_option maxHeartbeats 1000000

set_option maxHeartbeats 1000000

set_option maxHeartbeats 1000000

set_option maxHeartbeats 1000000

set_option maxHeartbeats 1000000

set_option maxHeartbeats 1000000
namespace DL
open PySem PySem.Spec PyProof.Rows L2
theorem seq_step {G Gr : SF} {ρ ρ' : Env} {b b' : Bag} (h : G ρ b = .nx ρ' b') : sSeq G Gr ρ b = Gr ρ' b' := by
  show (G ρ b).seq Gr = _
  rw [h]
  rfl
end DL

set_option maxHeartbeats 1000000
namespace DL
open PySem PySem.Spec PyProof.Rows L2
@[simp] theorem ninQ_lst (k : Int) (gs : List Int) : ninQ (.int k) (.lst (gs.map D.int)) = some (.bl (!decide (k ∈ gs))) := by
  simp [flats_ints, inV_ints]
@[simp] theorem ninQ_tup (k : Int) (gs : List Int) : ninQ (.int k) (.tup (gs.map D.int)) = some (.bl (!decide (k ∈ gs))) := by
  simp [flats_ints, inV_ints]
end DL

set_option maxHeartbeats 1000000

set_option maxHeartbeats 1000000

set_option maxHeartbeats 1000000

set_option maxHeartbeats 1000000

set_option maxHeartbeats 1000000

set_option maxHeartbeats 1000000

set_option maxHeartbeats 1000000

set_option maxHeartbeats 1000000

set_option maxHeartbeats 1000000

set_option maxHeartbeats 1000000
namespace DL
open PySem PySem.Spec PyProof.Rows L2
theorem lc_filtL {α : Type} {ρ : Env} {b : Bag} {T : BF} {F : EF} {i : Nat} (enc f : α → D) (p : α → Bool) : ∀ (is : List α), (∀ k ∈ is, T (ρ.set i (some (.sh (enc k)))) b = .ok (p k) b) → (∀ k ∈ is, p k = true → F (ρ.set i (some (.sh (enc k)))) b = .ok (f k) b) →
    lcD (gN i) T F (is.map enc) ρ b = .ok ((is.filter p).map f) b
  | [], _, _ => rfl
  | k :: is, h1, h2 => by
    have ih := lc_filtL enc f p is (fun k hk => h1 k (List.mem_cons_of_mem _ hk)) (fun k hk => h2 k (List.mem_cons_of_mem _ hk))
    have e1 := h1 k List.mem_cons_self
    rw [List.map_cons]
    unfold lcD
    simp only [gN]
    rw [e1]
    simp only [noex_ok_, bind_ok_]
    by_cases hp : p k = true
    · rw [if_pos hp, h2 k List.mem_cons_self hp, List.filter_cons_of_pos hp]
      simp [ih]
    · rw [if_neg hp, List.filter_cons_of_neg hp, ih]
end DL

set_option maxHeartbeats 1000000

set_option maxHeartbeats 1000000

set_option maxHeartbeats 1000000

set_option maxHeartbeats 1000000

set_option maxHeartbeats 1000000

set_option maxHeartbeats 1000000
namespace DL
open PySem PySem.Spec PyProof.Rows L2
structure Wk (x : Str) (rs : List Row) (ins : List Int) (s k : Int) (w : Str) : Prop where
  wd : Wd x w
  to : walkE x rs s w.cps.toList = k
  by_ : ∀ j ∈ walkL x rs s w.cps.toList, j ∈ ins
theorem Wk.app {x : Str} {rs : List Row} {ins : List Int} {s k m : Int} {u w : Str} (h : Wk x rs ins s k u) (h' : Wk x rs ins k m w) : Wk x rs ins s m (u ++ w) := by
  refine ⟨app_wd h.wd h'.wd, ?_, fun j hj => ?_⟩
  · rw [app_list, walkE_app, h.to, h'.to]
  · rw [app_list, walkL_app, h.to] at hj
    rcases List.mem_append.mp hj with hj | hj
    · exact h.by_ j hj
    · exact h'.by_ j hj
end DL

set_option maxHeartbeats 1000000

set_option maxHeartbeats 1000000

set_option maxHeartbeats 1000000

set_option maxHeartbeats 1000000
namespace DL
open PySem PySem.Spec PyProof.Rows L2
def wL (x : Str) (sc : Int → List Int) : Int → List Nat → List Int
  | _, [] => []
  | s, c :: cs => gI sc s (idx x c) :: wL x sc (gI sc s (idx x c)) cs
theorem wE_app (x : Str) (sc : Int → List Int) : ∀ (u v : List Nat) (s : Int), wE x sc s (u ++ v) = wE x sc (wE x sc s u) v
  | [], _, _ => rfl
  | c :: u, v, s => wE_app x sc u v _
theorem wL_app (x : Str) (sc : Int → List Int) : ∀ (u v : List Nat) (s : Int), wL x sc s (u ++ v) = wL x sc s u ++ wL x sc (wE x sc s u) v
  | [], _, _ => rfl
  | c :: u, v, s => congrArg (_ :: ·) (wL_app x sc u v _)
structure WkG (x : Str) (sc : Int → List Int) (ins : List Int) (s k : Int) (w : Str) : Prop where
  wd : Wd x w
  to : wE x sc s w.cps.toList = k
  by_ : ∀ j ∈ wL x sc s w.cps.toList, j ∈ ins
theorem WkG.app {x : Str} {sc : Int → List Int} {ins : List Int} {s k m : Int} {u w : Str} (h : WkG x sc ins s k u) (h' : WkG x sc ins k m w) : WkG x sc ins s m (u ++ w) := by
  refine ⟨app_wd h.wd h'.wd, ?_, fun j hj => ?_⟩
  · rw [app_list, wE_app, h.to, h'.to]
  · rw [app_list, wL_app, h.to] at hj
    rcases List.mem_append.mp hj with hj | hj
    · exact h.by_ j hj
    · exact h'.by_ j hj
end DL

set_option maxHeartbeats 1000000

set_option maxHeartbeats 1000000

set_option maxHeartbeats 1000000

set_option maxHeartbeats 1000000

set_option maxHeartbeats 1000000

set_option maxHeartbeats 1000000

set_option maxHeartbeats 1000000

set_option maxHeartbeats 1000000

set_option maxHeartbeats 1000000

set_option maxHeartbeats 1000000

set_option maxHeartbeats 1000000
namespace DL
open PySem PySem.Spec PyProof.Rows L2
instance (x w : Str) : Decidable (Wd x w) := inferInstanceAs (Decidable (∀ c ∈ w.cps.toList, c ∈ x.cps.toList))
end DL

set_option maxHeartbeats 1000000
namespace DL
open PySem PySem.Spec PyProof.Rows L2
theorem RowsT.rows {k : Nat} {rs : List Row} (h : RowsT k 6 rs) : RowsOk k rs := ⟨h.n0, h.n1, fun r hr => by
  obtain ⟨a, b, c, d⟩ := h.ok r hr
  exact ⟨a, b, c, d⟩⟩
end DL

set_option maxHeartbeats 1000000

set_option maxHeartbeats 1000000

set_option maxHeartbeats 1000000

set_option maxHeartbeats 1000000

set_option maxHeartbeats 1000000
namespace DL
open PySem PySem.Spec PyProof.Rows L2
theorem call2 {Fn : DFn} {F G : EF} {ρ : Env} {b b' : Bag} {d g z : D} (u : F ρ b = .ok d b) (v : G ρ b = .ok g b) (h : Fn [d, g] b = .ok z b') : eCall Fn (aCons F (aCons G aNil)) ρ b = .ok z b' := by
  simp only [eCall, aCons, u, v, bind_ok_, aNil, h]
theorem call3 {Fn : DFn} {F G K : EF} {ρ : Env} {b b' : Bag} {d g k z : D} (u : F ρ b = .ok d b) (v : G ρ b = .ok g b) (w : K ρ b = .ok k b) (h : Fn [d, g, k] b = .ok z b') : eCall Fn (aCons F (aCons G (aCons K aNil))) ρ b = .ok z b' := by
  simp only [eCall, aCons, u, v, w, bind_ok_, aNil, h]
theorem asg_ok {F : EF} {ρ ρ' : Env} {b b' : Bag} {d : D} {i : Nat} (h : F ρ b = .ok d b') (e : ρ.set i (some (.sh d)) = ρ') : sAsg F (gN i) ρ b = .nx ρ' b' := by
  subst e
  simp only [sAsg, h, st_ok_]
  rfl
theorem rep1 {f : List D → Option D} {F : EF} {ρ : Env} {b : Bag} {d : D} {z : D} (u : F ρ b = .ok d b) (h : f [d] = some z) : eB f (aCons F aNil) ρ b = .ok z b := by
  simp only [eB, aCons, u, bind_ok_, aNil, h, pureO_some_]

theorem tst {F : EF} {ρ : Env} {b : Bag} {c : Bool} (u : F ρ b = .ok (.bl c) b) : bB F ρ b = .ok c b := by
  simp only [bB, u, bind_ok_]
end DL

set_option maxHeartbeats 1000000
namespace DL
open PySem PySem.Spec PyProof.Rows L2
theorem dip_ok (b : Bag) {m : Int} (h1 : 1 ≤ m) (h2 : m < 1073741824) : ∃ d b', F__law_dip [.bag, .int m] b = .ok (.int d) b' ∧ 0 ≤ d ∧ d < m := by
  have hm0 : 0 < m := by omega
  have hmz : ¬ m = 0 := by omega
  let z := b.z + 1
  let w := (b.y + 770551 * z) % 2147483587
  let y := (w * w + 2753159 * w + 519371) % 2147483587
  have q1 : sAsg (e2 addF (eIx (eV 0) (eC (.int 2))) (eC (.int 1))) (gBag 0 2) [some (.sh .bag), some (.sh (.int m)), none, none, none] b = .nx [some (.sh .bag), some (.sh (.int m)), none, none, none] ⟨b.x, b.y, z⟩ := by
    simp [z]
  have q2 : sAsg (e2 modF (eB intF (aCons (e2 addF (eIx (eV 0) (eC (.int 1))) (e2 mulF (eC (.int 770551)) (eIx (eV 0) (eC (.int 2))))) aNil)) (eC (.int 2147483587))) (gN 2) [some (.sh .bag), some (.sh (.int m)), none, none, none] ⟨b.x, b.y, z⟩ = .nx [some (.sh .bag), some (.sh (.int m)), some (.sh (.int w)), none, none] ⟨b.x, b.y, z⟩ := by
    simp [w]
  have q3 : sAsg (e2 modF (eB intF (aCons (e2 addF (e2 addF (e2 mulF (eV 2) (eV 2)) (e2 mulF (eC (.int 2753159)) (eV 2))) (eC (.int 519371))) aNil)) (eC (.int 2147483587))) (gBag 0 1) [some (.sh .bag), some (.sh (.int m)), some (.sh (.int w)), none, none] ⟨b.x, b.y, z⟩ = .nx [some (.sh .bag), some (.sh (.int m)), some (.sh (.int w)), none, none] ⟨b.x, y, z⟩ := by
    have hw1 : -18446744073709551616 < w := by
      have : 0 ≤ w := Int.emod_nonneg _ (by decide)
      omega
    have hw2 : w < 18446744073709551616 := by
      have : w < 2147483587 := Int.emod_lt_of_pos _ (by decide)
      omega
    simp [y, hw1, hw2]
  have hst : startE 5 [.bag, .int m] = [some (.sh .bag), some (.sh (.int m)), none, none, none] := rfl
  unfold F__law_dip G__law_dip
  simp only [runD, List.length_cons, List.length_nil, if_true, hst]
  rw [seq_step q1, seq_step q2, seq_step q3]
  by_cases hx : b.x = 0
  · refine ⟨(y / 103) % m, ⟨b.x, y, z⟩, ?_, Int.emod_nonneg _ hmz, Int.emod_lt_of_pos _ hm0⟩
    simp [hx, hm0, h2]
  · refine ⟨b.x % m, ⟨b.x / m, y, z⟩, ?_, Int.emod_nonneg _ hmz, Int.emod_lt_of_pos _ hm0⟩
    simp [hx, hm0, h2]
theorem well4_ok (Pw : EF) (T : Int) (hT : ∀ ρ b, Pw ρ b = .ok (.int T) b) (fg : Int) (b : Bag) (ρ : Env) (q2 : ρ[0]? = some (some (.sh (.int fg)))) : ∃ z, eIf (bOr (bB (e2 ltF (eV 0) (eC (.int 0)))) (bB (e2 geF (eV 0) Pw))) (eB absF (aCons (eV 0) aNil)) (eC (.int 0)) ρ b = .ok (.int z) b := by
  by_cases h0 : fg < 0
  · exact ⟨_, by simp [q2, hT, h0]; rfl⟩
  · by_cases ha : T ≤ fg
    · exact ⟨_, by simp [q2, hT, h0, ha]; rfl⟩
    · exact ⟨0, by simp [q2, hT, h0, ha]⟩
theorem well_core (Pw : EF) (T : Int) (hT : ∀ ρ b, Pw ρ b = .ok (.int T) b) (i : Int) (b : Bag) : ∃ x y, runF 1 1 (sRetO (eLst (aCons (eIf (bOr (bB (e2 ltF (eV 0) (eC (.int 0)))) (bB (e2 geF (eV 0) Pw))) (eB absF (aCons (eV 0) aNil)) (eC (.int 0))) (aCons (e2 modF (eB intF (aCons (eV 0) aNil)) (eC (.int 2147483587))) (aCons (eC (.int 0)) aNil))))) [.int i] b = .ok (.lst [.int x, .int y, .int 0]) b := by
  obtain ⟨z, hz⟩ := well4_ok Pw T hT i b [some (.sh (.int i))] rfl
  refine ⟨z, i % 2147483587, ?_⟩
  have hst : startE 1 [D.int i] = [some (.sh (.int i))] := rfl
  have v2 : e2 modF (eB intF (aCons (eV 0) aNil)) (eC (.int 2147483587)) [some (.sh (.int i))] b = .ok (.int (i % 2147483587)) b := by simp
  have v3 : eC (.int 0) [some (.sh (.int i))] b = .ok (.int 0) b := rfl
  simp only [runF, List.length_cons, List.length_nil, if_true, hst, sRetO, eLst, aCons, hz, v2, v3, bind_ok_, aNil, st_ok_]
  rfl
theorem well_ok (i : Int) (b : Bag) : ∃ x y, F__law_well [.int i] b = .ok (.lst [.int x, .int y, .int 0]) b :=
  well_core (e2 powF (eC (.int 10)) (eC (.int 18))) 1000000000000000000 (fun ρ b => by
    show (Out.pureO (powF (.int 10) (.int 18)) b) = _
    rw [pow_18]
    rfl) i b
def bCell : SF := (sAsg (e2 modF (eB intF (aCons (e2 addF (e2 addF (e2 mulF (eV 2) (eC (.int 61051))) (e2 mulF (eV 3) (eC (.int 1009)))) (eV 1)) aNil)) (eC (.int 2147483563))) (gN 2))
theorem cell_loop (p0 : Option SD) (k : Int) (b : Bag) : ∀ (ds : List D) (sd : Int) (s3 : Option SD), (∀ d ∈ ds, ∃ g, d = .int g) → ∃ sd' s3', loopD (gN 3) bCell ds [p0, some (.sh (.int k)), some (.sh (.int sd)), s3] b = .nx [p0, some (.sh (.int k)), some (.sh (.int sd')), s3'] b
  | [], sd, s3, _ => ⟨sd, s3, rfl⟩
  | d :: ds, sd, s3, h => by
    obtain ⟨g, rfl⟩ := h d List.mem_cons_self
    obtain ⟨sd', s3', h2⟩ := cell_loop p0 k b ds ((sd * 61051 + g * 1009 + k) % 2147483563) (some (.sh (.int g))) fun d hd => h d (List.mem_cons_of_mem _ hd)
    refine ⟨sd', s3', ?_⟩
    unfold loopD
    simp [bCell] at h2 ⊢
    exact h2
theorem cell_ok (ns : List Int) (hn : ns.length ≤ 63) (k : Nat) (b : Bag) : ∃ i, F__law_cell [.fl (ns.map D.int), .int k] b = .ok (.int i) b := by
  have hl : ns.length ≤ 100000 := by omega
  have hst : startE 4 [.fl (ns.map D.int), .int k] = [some (.sh (.fl (ns.map D.int))), some (.sh (.int k)), none, none] := rfl
  by_cases hk : k < ns.length
  · have ea : atI (ns.map D.int) (k : Int) = some (.int ns[k]) := atI_nat (by rw [List.getElem?_map, List.getElem?_eq_getElem hk]; rfl)
    refine ⟨ns[k], ?_⟩
    generalize ns[k] = fg at ea
    unfold F__law_cell G__law_cell
    simp [hk, ea]
  · obtain ⟨c1, c2⟩ := cut_ints ns none (some 5)
    obtain ⟨sd', s3', g4⟩ := cell_loop (some (.sh (.fl (ns.map D.int)))) k b (cutD (ns.map D.int) none (some 5)) (740923 + 50123 * k) none c1
    refine ⟨sd', ?_⟩
    have hc : (cutD (ns.map D.int) none (some 5)).length ≤ 100000 := by omega
    unfold bCell at g4
    unfold F__law_cell G__law_cell
    simp [sFor, eSl, oNo, oSome, slF] at g4 ⊢
    simp [hk, sFor, eSl, oNo, oSome, slF, g4, hc]
theorem law_well (Q : DFn) (c : Nat) (hc : 2 ≤ c) (hc2 : c ≤ 1000) (hQ : ∀ x y : Int, ∃ b', Q [.bag] ⟨x, y, 0⟩ = .ok (.bl true) b') (ns : List Int) (h : ns.length ≤ 63) :
    ∃ b', runD 2 1 (sRet (e2 eqF (eLc (aRng (aCons (eB maxF (aCons (eC (.int 2)) (aCons (eB minF (aCons (eB lenF (aCons (eV 0) aNil)) (aCons (eC (.int c)) aNil))) aNil))) aNil)) [1] (gN 1) (bNot (bB (eBag Q F__law_well (aCons (eCall F__law_cell (aCons (eV 0) (aCons (eV 1) aNil))) aNil)))) (eV 1)) (eLst aNil))) [.fl (ns.map D.int)] ⟨0, 0, 0⟩ = .ok (.bl true) b' := by
  obtain ⟨n, hn, hn5⟩ : ∃ n : Nat, (if 2 < (if c < ns.length then (c : Int) else (ns.length : Int)) then (if c < ns.length then (c : Int) else (ns.length : Int)) else 2) = (n : Int) ∧ n ≤ c := by
    by_cases h1 : c < ns.length
    · rw [if_pos h1]
      by_cases h2 : (2 : Int) < c
      · exact ⟨c, by rw [if_pos h2], by omega⟩
      · exact ⟨2, by rw [if_neg h2]; rfl, by omega⟩
    · rw [if_neg h1]
      by_cases h2 : (2 : Int) < ns.length
      · exact ⟨ns.length, by rw [if_pos h2], by omega⟩
      · exact ⟨2, by rw [if_neg h2]; rfl, by omega⟩
  let E : Env := [some (.sh (.fl (ns.map D.int))), none]
  generalize (⟨0, 0, 0⟩ : Bag) = b
  have h2 : lcD (gN 1) (bNot (bB (eBag Q F__law_well (aCons (eCall F__law_cell (aCons (eV 0) (aCons (eV 1) aNil))) aNil)))) (eV 1) ((nums n).map D.int) E b = .ok (((nums n).filter fun _ => false).map D.int) b :=
    lc_filtL D.int D.int (fun _ => false) (nums n) (fun k hk => by
      obtain ⟨k0, k1⟩ := mem_nums.mp hk
      obtain ⟨j, rfl⟩ : ∃ j : Nat, k = (j : Int) := ⟨k.toNat, by omega⟩
      obtain ⟨i, h3⟩ := cell_ok ns h j b
      obtain ⟨x, y, h5⟩ := well_ok i b
      obtain ⟨b2, h6⟩ := hQ x y
      have c1 := call2 (F := eV 0) (G := eV 1) (ρ := E.set 1 (some (.sh (.int j)))) (b := b) rfl rfl h3
      have c2 : eBag Q F__law_well (aCons (eCall F__law_cell (aCons (eV 0) (aCons (eV 1) aNil))) aNil) (E.set 1 (some (.sh (.int j)))) b = .ok (.bl true) b := by
        simp only [eBag, aCons, c1, bind_ok_, aNil, h5, h6]
      simp only [bNot, tst c2, bind_ok_]
      rfl) (fun k _ hf => by cases hf)
  rw [List.filter_eq_nil_iff.mpr (fun _ _ => by simp)] at h2
  have hr : (nums n).length ≤ 100000 := by rw [len_nums]; omega
  have hn9 : (n : Int) ≤ 1000000 := by omega
  have hn8 : -1000000 ≤ (n : Int) := by omega
  have ha : aRng (aCons (eB maxF (aCons (eC (.int 2)) (aCons (eB minF (aCons (eB lenF (aCons (eV 0) aNil)) (aCons (eC (.int c)) aNil))) aNil))) aNil) E b = .ok ((nums n).map D.int) b := by
    have hl : ns.length ≤ 100000 := by omega
    rw [← range_nums]
    simp [minF, maxF, aRng, E]
    rw [hn]
    simp [hn9]
  have hlc : eLc (aRng (aCons (eB maxF (aCons (eC (.int 2)) (aCons (eB minF (aCons (eB lenF (aCons (eV 0) aNil)) (aCons (eC (.int c)) aNil))) aNil))) aNil)) [1] (gN 1) (bNot (bB (eBag Q F__law_well (aCons (eCall F__law_cell (aCons (eV 0) (aCons (eV 1) aNil))) aNil)))) (eV 1) E b = .ok (.lst []) b := by
    unfold eLc
    rw [ha]
    show (if ((nums n).map D.int).length ≤ 100000 then _ else _) = _
    rw [if_pos (by rw [List.length_map]; exact hr)]
    show (lcD _ _ _ _ E b).bind _ = _
    rw [h2]
    rfl
  have hz : eLst aNil E b = .ok (.lst []) b := rfl
  have hq : eqF (.lst []) (.lst []) = some (.bl true) := by kernel_rfl
  refine ⟨b, ?_⟩
  have hst : startE 2 [.fl (ns.map D.int)] = E := rfl
  simp only [runD, List.length_cons, List.length_nil, if_true, hst, sRet, e2, hlc, hz, bind_ok_, hq, pureO_some_, st_ok_]
  rfl
end DL

set_option maxHeartbeats 1000000

set_option maxHeartbeats 1000000

set_option maxHeartbeats 1000000

set_option maxHeartbeats 1000000

set_option maxHeartbeats 1000000

set_option maxHeartbeats 1000000

set_option maxHeartbeats 1000000

set_option maxHeartbeats 1000000

set_option maxHeartbeats 1000000

set_option maxHeartbeats 1000000

set_option maxHeartbeats 1000000

set_option maxHeartbeats 1000000

set_option maxHeartbeats 1000000

set_option maxHeartbeats 1000000

set_option maxHeartbeats 1000000

set_option maxHeartbeats 1000000

set_option maxHeartbeats 1000000

set_option maxHeartbeats 1000000

set_option maxHeartbeats 1000000

set_option maxHeartbeats 1000000

set_option maxHeartbeats 1000000

set_option maxHeartbeats 1000000

set_option maxHeartbeats 1000000

set_option maxHeartbeats 1000000

set_option maxHeartbeats 1000000

set_option maxHeartbeats 1000000

set_option maxHeartbeats 1000000

set_option maxHeartbeats 1000000

set_option maxHeartbeats 1000000

set_option maxHeartbeats 1000000

set_option maxHeartbeats 1000000

set_option maxHeartbeats 1000000

set_option maxHeartbeats 1000000

set_option maxHeartbeats 1000000

set_option maxHeartbeats 1000000

set_option maxHeartbeats 1000000

set_option maxHeartbeats 1000000

set_option maxHeartbeats 1000000

set_option maxHeartbeats 1000000

set_option maxHeartbeats 1000000

set_option maxHeartbeats 1000000

set_option maxHeartbeats 1000000
namespace DL
open PySem PySem.Spec PyProof.Rows L2
theorem ix_ok {F G : EF} {ρ : Env} {b : Bag} {x y z : D} (u : F ρ b = .ok x b) (v : G ρ b = .ok y b) (h : ixF b x y = some z) : eIx F G ρ b = .ok z b := by
  unfold eIx
  rw [u, bind_ok_, v, bind_ok_, h, pureO_some_]
end DL

set_option maxHeartbeats 1000000

set_option maxHeartbeats 1000000

set_option maxHeartbeats 1000000

set_option maxHeartbeats 1000000

set_option maxHeartbeats 1000000

set_option maxHeartbeats 1000000

set_option maxHeartbeats 1000000

set_option maxHeartbeats 1000000

set_option maxHeartbeats 1000000
namespace DL
open PySem PySem.Spec PyProof.Rows L2
def stL : List Nat := [115, 116, 97, 116, 101]
def maL : List Nat := [109, 97, 99, 104, 105, 110, 101]
def wordsR (r : Row) : List (List Nat) := stL :: dg r.1 :: r.2.map dg
def rowT (r : Row) : List Nat := TL.joinL [32] (wordsR r)
def firstT (x : Str) : List Nat := TL.joinL [32] [maL, x.cps.toList]
def pageL (x : Str) (rs : List Row) : List Nat := TL.joinL [10] (firstT x :: rs.map rowT)
def pageT (x : Str) (rs : List Row) : Str := SX.S (pageL x rs)
theorem tS_st : SX.S stL = "state" := by decide +kernel
theorem tS_sp : SX.S [32] = " " := by decide +kernel
theorem tS_nl : SX.S [10] = "\n" := by decide +kernel
theorem tS_ms (x : Str) : ("machine " : Str) ++ x = SX.S (firstT x) := by
  have e : SX.S (maL ++ [32]) = "machine " := by decide +kernel
  have h : SX.S x.cps.toList = x := SX.S_tl x
  have e2 : firstT x = (maL ++ [32]) ++ x.cps.toList := rfl
  rw [e2, ← SX.S_cat, h, e]
theorem six {i : Int} (h0 : 0 ≤ i) (h1 : i ≤ 6) : i = 0 ∨ i = 1 ∨ i = 2 ∨ i = 3 ∨ i = 4 ∨ i = 5 ∨ i = 6 := by omega
theorem strF_dg {i : Int} (h0 : 0 ≤ i) (h1 : i ≤ 6) : strF [.int i] = some (.str (SX.S (dg i))) := by
  rcases six h0 h1 with rfl | rfl | rfl | rfl | rfl | rfl | rfl <;> kernel_rfl
theorem strsD_S : ∀ ys : List (List Nat), strsD (ys.map fun l => .str (SX.S l)) = some (ys.map SX.S)
  | [] => rfl
  | y :: ys => by
    rw [List.map_cons, strsD, strsD_S ys]
    rfl
theorem join_F (c : List Nat) (ys : List (List Nat)) (h : (ys.map (·.length)).sum + ys.length * c.length ≤ 16777216) : joinF (SX.S c) [.lst (ys.map fun l => .str (SX.S l))] = some (.str (SX.S (TL.joinL c ys))) := by
  simp only [joinF, seqD, Option.bind_some, strsD_S, SX.lens, List.length_map, SX.S_len]
  rw [if_pos h, SX.join_S]
theorem joinL_len (c : List Nat) : ∀ ys : List (List Nat), (TL.joinL c ys).length ≤ (ys.map (·.length)).sum + ys.length * c.length
  | [] => by simp [TL.joinL]
  | [p] => by simp [TL.joinL]
  | p :: q :: r => by
    have h := joinL_len c (q :: r)
    show (p ++ (c ++ TL.joinL c (q :: r))).length ≤ _
    simp only [List.length_append, List.map_cons, List.sum_cons, List.length_cons] at h ⊢
    rw [Nat.add_mul (r.length + 1) 1]
    omega
theorem sum_le {n : Nat} : ∀ {ys : List (List Nat)}, (∀ y ∈ ys, y.length ≤ n) → (ys.map (·.length)).sum ≤ ys.length * n
  | [], _ => by simp
  | y :: ys, h => by
    have h1 := h y List.mem_cons_self
    have h2 := sum_le fun q hq => h q (List.mem_cons_of_mem _ hq)
    rw [List.map_cons, List.sum_cons, List.length_cons, Nat.add_mul, Nat.one_mul]
    omega
theorem words_len {k n : Nat} {r : Row} (hr : RowOk k n r) (hk : k ≤ 3) : (wordsR r).length ≤ 5 ∧ ∀ y ∈ wordsR r, y.length ≤ 5 := by
  refine ⟨by simp [wordsR, hr.len]; omega, fun y hy => ?_⟩
  unfold wordsR at hy
  rcases List.mem_cons.mp hy with rfl | hy
  · decide
  · rcases List.mem_cons.mp hy with rfl | hy
    · simp [dg]
    · obtain ⟨g, _, rfl⟩ := List.mem_map.mp hy
      simp [dg]
theorem rowT_len {k n : Nat} {r : Row} (hr : RowOk k n r) (hk : k ≤ 3) : (rowT r).length ≤ 30 := by
  obtain ⟨h1, h2⟩ := words_len hr hk
  have h3 := joinL_len [32] (wordsR r)
  have h4 := sum_le h2
  unfold rowT
  simp only [List.length_cons, List.length_nil] at h3
  omega
theorem row_sum {k n : Nat} {r : Row} (hr : RowOk k n r) (hk : k ≤ 3) : ((wordsR r).map (·.length)).sum + (wordsR r).length * 1 ≤ 16777216 := by
  obtain ⟨h1, h2⟩ := words_len hr hk
  have h4 := sum_le h2
  omega
theorem goals_str {F : EF} {k n : Nat} {r : Row} (hr : RowOk k n r) (hn : n ≤ 7) {i : Nat} (ρ : Env) (b : Bag) (hF : ∀ g : Int, 0 ≤ g → g ≤ 6 → F (ρ.set i (some (.sh (.int g)))) b = .ok (.str (SX.S (dg g))) b) :
    lcD (gN i) bYes F (r.2.map D.int) ρ b = .ok ((r.2.map dg).map fun l => .str (SX.S l)) b := by
  have h := lc_map (g := gN i) (F := F) (f := fun d => match d with | .int g => .str (SX.S (dg g)) | d => d) (r.2.map D.int) ρ b (fun d hd => by
    obtain ⟨g, hg, rfl⟩ := List.mem_map.mp hd
    obtain ⟨g0, g1⟩ := hr.go g hg
    exact ⟨_, rfl, hF g g0 (by omega)⟩)
  rw [h, List.map_map, List.map_map]
  rfl
theorem staterow_ok {k n : Nat} {r : Row} (hr : RowOk k n r) (hk : k ≤ 3) (hn : n ≤ 7) (b : Bag) : F_state_row [rowD r] b = .ok (.str (SX.S (rowT r))) b := by
  have hj := join_F [32] (wordsR r) (row_sum hr hk)
  rw [tS_sp] at hj
  have h0 := strF_dg hr.c0 hr.c1
  have hg := goals_str (F := eB strF (aCons (eV 1) aNil)) (i := 1) hr hn [some (.sh (rowD r)), none] b (fun g g0 g1 => by simp [strF_dg g0 g1, -strF])
  have hl : r.2.length ≤ 100000 := by rw [hr.len]; omega
  have hl2 : r.2.length + 1 + 1 ≤ 100000 := by rw [hr.len]; omega
  unfold rowD at hg ⊢
  unfold wordsR at hj
  simp only [List.map_cons, tS_st, List.map_map] at hj
  unfold F_state_row G_state_row
  simp [-strF, eM, h0, hg, aStar, anySeq, hl, hl2, aAny, eLc, hj]
  rfl
end DL

set_option maxHeartbeats 1000000
namespace DL
open PySem PySem.Spec PyProof.Rows L2
variable {x : Str} {rs : List Row}
theorem first_len (hx : x ∈ sgs) : (firstT x).length ≤ 30 := by
  have h : x.cps.toList.length = x.length := by simp [Str.length]
  obtain ⟨l1, l2⟩ := sg_len hx
  have e : firstT x = (maL ++ [32]) ++ x.cps.toList := rfl
  rw [e, List.length_append, h]
  simp [maL]
  omega
def linesL (x : Str) (rs : List Row) : List (List Nat) := firstT x :: rs.map rowT
theorem lines_len (hx : x ∈ sgs) (hr : RowsOk x.length rs) : (linesL x rs).length ≤ 7 ∧ ∀ y ∈ linesL x rs, y.length ≤ 30 := by
  obtain ⟨l1, l2⟩ := sg_len hx
  have n6 := hr.n1
  refine ⟨by simp [linesL]; omega, fun y hy => ?_⟩
  unfold linesL at hy
  rcases List.mem_cons.mp hy with rfl | hy
  · exact first_len hx
  · obtain ⟨r, h, rfl⟩ := List.mem_map.mp hy
    exact rowT_len (hr.ok r h) l2
theorem lines_sum (hx : x ∈ sgs) (hr : RowsOk x.length rs) : ((linesL x rs).map (·.length)).sum + (linesL x rs).length * 1 ≤ 300 := by
  obtain ⟨h1, h2⟩ := lines_len hx hr
  have h4 := sum_le h2
  omega
theorem join_page (hx : x ∈ sgs) (hr : RowsOk x.length rs) : joinF "\n" [.lst ((linesL x rs).map fun l => .str (SX.S l))] = some (.str (pageT x rs)) := by
  have h := join_F [10] (linesL x rs) (by have := lines_sum hx hr; simp only [List.length_cons, List.length_nil]; omega)
  rw [tS_nl] at h
  exact h
theorem lc_mapm {α : Type} {g : GF} {F : EF} {e f : α → D} : ∀ (xs : List α) (ρ : Env) (b : Bag), (∀ a ∈ xs, ∃ ρ', g (e a) ρ b = some (ρ', b) ∧ F ρ' b = .ok (f a) b) → lcD g bYes F (xs.map e) ρ b = .ok (xs.map f) b
  | [], ρ, b, _ => rfl
  | a :: xs, ρ, b, h => by
    obtain ⟨ρ', h0, h1⟩ := h a List.mem_cons_self
    have h3 := lc_mapm xs ρ b fun d hd => h d (List.mem_cons_of_mem _ hd)
    simp [lcD, h0, h1, h3]
theorem str_ok (M : Addr) (hx : x ∈ sgs) (hr : RowsOk x.length rs) (b : Bag) : F_Machine_str_ M [machD M x rs] b = .ok (.str (pageT x rs)) b := by
  obtain ⟨l1, l2⟩ := sg_len hx
  have n6 := hr.n1
  have hj := join_page hx hr
  have hl : x.length ≤ 100000 := by omega
  have h8 : ("machine " : Str).length ≤ 100000 := by decide +kernel
  have h9 : (SX.S (firstT x)).length ≤ 200000 := by rw [SX.S_len]; have := first_len hx; omega
  have hm : (Str.ofString "machine ") ++ x = SX.S (firstT x) := tS_ms x
  have hl2 : rs.length ≤ 100000 := by omega
  have hl3 : rs.length + 1 ≤ 100000 := by omega
  have hc := lc_mapm (g := gN 1) (F := eCall (F_state_row) (aCons (eV 1) aNil)) (e := rowD) (f := fun r => .str (SX.S (rowT r))) rs [some (.sh (machD M x rs)), none] b (fun r h => by
    refine ⟨_, rfl, ?_⟩
    have hs := staterow_ok (hr.ok r h) l2 (by omega) b
    simp [hs])
  unfold linesL at hj
  simp only [List.map_cons, List.map_map] at hj
  have hj : joinF "\n" [.lst (.str (SX.S (firstT x)) :: rs.map fun r => .str (SX.S (rowT r)))] = some (.str (pageT x rs)) := hj
  unfold machD rowsD at hc ⊢
  unfold F_Machine_str_ G_Machine_str_
  rw [← hm] at h9
  have hf : eJ2 (eC (.str (Str.ofString "machine "))) (e1 (fldF M "_letters") (eV 0)) [some (.sh (.ins M ["_letters", "_states"] [.str x, .tup (rs.map rowD)])), none] b = .ok (.str (SX.S (firstT x))) b := by
    have hfl : fldF M "_letters" (.ins M ["_letters", "_states"] [.str x, .tup (rs.map rowD)]) = some (.str x) := fld_l M x rs
    simp [eJ2, fmtD, h8, hl, h9, hfl]
    exact hm
  have hfs : fldF M "_states" (.ins M ["_letters", "_states"] [.str x, .tup (rs.map rowD)]) = some (.tup (rs.map rowD)) := fld_s M x rs
  simp [eM, hfs, hf, hc, aStar, anySeq, hl, hl2, hl3, aAny, eLc]
  simp [hj]
end DL

set_option maxHeartbeats 1000000

set_option maxHeartbeats 1000000

set_option maxHeartbeats 1000000

set_option maxHeartbeats 1000000

set_option maxHeartbeats 1000000

set_option maxHeartbeats 1000000

set_option maxHeartbeats 1000000
namespace DL
open PySem PySem.Spec PyProof.Rows L2
/-- colours that tell the evenness of all reached loops -/
def ValidC (rs : List Row) (c : Int → Int) : Prop := ∀ S : Int → Prop, (∃ a, S a) → SC (scM rs) S → (∀ a, S a → Reach rs a) → ∀ T T', TopIs (colour rs) S T → TopIs c S T' → 0 ≤ T' ∧ T' % 2 = T % 2
end DL

set_option maxHeartbeats 1000000

set_option maxHeartbeats 1000000

set_option maxHeartbeats 1000000

set_option maxHeartbeats 1000000

set_option maxHeartbeats 1000000
namespace DL
open PySem PySem.Spec PyProof.Rows L2
section
variable {k : Nat} {rs : List Row} (hr : RowsOk k rs) (hk : k ≤ 1000)
include hr hk
theorem ChN.le {c : Int → Int} (v : ValidC rs c) {S : Int → Prop} {m : Int} (h : ChN rs S m) : ∀ U, TopIs c S U → m ≤ U := by
  induction h with
  | @base S T h t =>
    intro U u
    have := v S h.ne h.sc h.re _ U t u
    omega
  | @sub S L T m h t hL hs ih =>
    intro U u
    have e := v S h.ne h.sc h.re _ U t u
    obtain ⟨U', u'⟩ := top_ex hL.loop.ne (fun a ha => reach_n hr hk (hL.loop.re a ha)) c
    have i1 := ih U' u'
    have i2 : U' ≤ U := by
      obtain ⟨a, a1, a2⟩ := u'.1
      have := u.2 a (hs a a1)
      omega
    split <;> omega
end
end DL

set_option maxHeartbeats 1000000

set_option maxHeartbeats 1000000

set_option maxHeartbeats 1000000

set_option maxHeartbeats 1000000

set_option maxHeartbeats 1000000
namespace DL
open PySem PySem.Spec PyProof.Rows L2
theorem eLcG {Fi : AF} {vs : List Nat} {g : GF} {T : BF} {F : EF} {ρ : Env} {b b1 b2 : Bag} {ds ys : List D} (h1 : Fi ρ b = .ok ds b1) (hl : ds.length ≤ 100000) (h2 : lcD g T F ds (wipeE (unown ρ) vs) b1 = .ok ys b2) : eLc Fi vs g T F ρ b = .ok (.lst ys) b2 := by
  unfold eLc
  rw [h1]
  show (if ds.length ≤ 100000 then _ else _) = _
  rw [if_pos hl, h2]
  rfl
theorem op_ok {f : D → D → Option D} {F G : EF} {ρ : Env} {b b1 b2 : Bag} {d g z : D} (u : F ρ b = .ok d b1) (v : G ρ b1 = .ok g b2) (h : f d g = some z) : e2 f F G ρ b = .ok z b2 := by
  simp only [e2, u, v, bind_ok_, h, pureO_some_]
end DL

set_option maxHeartbeats 1000000

set_option maxHeartbeats 1000000

set_option maxHeartbeats 1000000
namespace DL
open PySem PySem.Spec PyProof.Rows L2
theorem bor_ff {P Q : BF} {ρ : Env} {b : Bag} (h : P ρ b = .ok false b) (h2 : Q ρ b = .ok false b) : bOr P Q ρ b = .ok false b := by
  simp [bOr, h, h2]
theorem if_noY {P : BF} {S : SF} {ρ : Env} {b : Bag} (u : P ρ b = .ok false b) : sIf P S sNil ρ b = .nx ρ b := by
  simp [sIf, u]
end DL

set_option maxHeartbeats 1000000
namespace DL
open PySem PySem.Spec PyProof.Rows L2
theorem lc_none {i : Nat} {T : BF} {F : EF} {b : Bag} : ∀ (ds : List D) (ρ : Env), (∀ d ∈ ds, T (ρ.set i (some (.sh d))) b = .ok false b) → lcD (gN i) T F ds ρ b = .ok [] b
  | [], _, _ => rfl
  | d :: ds, ρ, h => by
    have h1 := h d List.mem_cons_self
    have h2 := lc_none (F := F) ds ρ fun e he => h e (List.mem_cons_of_mem _ he)
    simp [lcD, h1, h2]
end DL

set_option maxHeartbeats 1000000

set_option maxHeartbeats 1000000

set_option maxHeartbeats 1000000

set_option maxHeartbeats 1000000

set_option maxHeartbeats 1000000

set_option maxHeartbeats 1000000
namespace DL
open PySem PySem.Spec PyProof.Rows L2
theorem aconsT {F : EF} {G : AF} {ρ : Env} {b b1 b2 : Bag} {d : D} {ds : List D} (u : F ρ b = .ok d b1) (v : G ρ b1 = .ok ds b2) : aCons F G ρ b = .ok (d :: ds) b2 := by
  simp only [aCons, u, v, bind_ok_]
theorem ixT {F G : EF} {ρ : Env} {b b1 b2 : Bag} {x y z : D} (u : F ρ b = .ok x b1) (v : G ρ b1 = .ok y b2) (h : ixF b2 x y = some z) : eIx F G ρ b = .ok z b2 := by
  unfold eIx
  rw [u, bind_ok_, v, bind_ok_, h, pureO_some_]
theorem asgT {F : EF} {ρ ρ' : Env} {b b' : Bag} {d : D} {i : Nat} (h : F ρ b = .ok d b') (e : ρ.set i (some (.sh d)) = ρ') : sAsg F (gN i) ρ b = .nx ρ' b' := asg_ok h e
theorem rtT {F : EF} {ρ : Env} {b b1 : Bag} {d : D} (h : F ρ b = .ok d b1) : sRet F ρ b = .rt d b1 := by
  unfold sRet
  rw [h]
  rfl
theorem if_rt {P : BF} {S : SF} {ρ : Env} {b b1 : Bag} {d : D} (u : P ρ b = .ok true b) (h : S ρ b = .rt d b1) : sIf P S sNil ρ b = .rt d b1 := by
  simp [sIf, u, h]
theorem rt_seqT {S Z : SF} {ρ : Env} {b b1 : Bag} {d : D} (h : S ρ b = .rt d b1) : sSeq S Z ρ b = .rt d b1 := by
  show (S ρ b).seq Z = _
  rw [h]
  rfl
theorem seqRt {S Z : SF} {ρ ρ' : Env} {b b1 b2 : Bag} {d : D} (h : S ρ b = .nx ρ' b1) (h2 : Z ρ' b1 = .rt d b2) : sSeq S Z ρ b = .rt d b2 := by
  rw [seq_step h, h2]
/-- any item of a list, where its index is in range -/
theorem pick_any {P : D → Prop} {ds : List D} (h : ∀ d ∈ ds, P d) {k : Int} (k0 : 0 ≤ k) (k1 : k < ds.length) : ∃ e, L2.atI ds k = some e ∧ P e := by
  obtain ⟨j, rfl⟩ : ∃ j : Nat, k = (j : Int) := ⟨k.toNat, by omega⟩
  have hj : j < ds.length := by omega
  exact ⟨ds[j], atI_nat (List.getElem?_eq_getElem hj), h _ (List.getElem_mem hj)⟩
theorem dipT (b : Bag) (m : Int) (h1 : 1 ≤ m) (h2 : m < 1000) {ρ : Env} (e0 : ρ[0]? = some (some (.sh .bag))) : ∃ d b', eCall (F__law_dip) (aCons (eV 0) (aCons (eC (.int m)) aNil)) ρ b = .ok (.int d) b' ∧ 0 ≤ d ∧ d < m := by
  obtain ⟨d, b', h, d0, d1⟩ := dip_ok b (m := m) h1 (by omega)
  exact ⟨d, b', call2 (show eV 0 ρ b = .ok .bag b by simp [e0]) rfl h, d0, d1⟩
theorem slT {F : EF} {lo hi : OF} {ρ : Env} {b : Bag} {d z : D} {l h : Option Int} (u : F ρ b = .ok d b) (q1 : lo ρ b = .ok l b) (q2 : hi ρ b = .ok h b) (e : slF l h d = some z) : eSl F lo hi ρ b = .ok z b := by
  simp only [eSl, u, bind_ok_, q1, q2, e, pureO_some_]
end DL

set_option maxHeartbeats 1000000

set_option maxHeartbeats 1000000

set_option maxHeartbeats 1000000

set_option maxHeartbeats 1000000

set_option maxHeartbeats 1000000

set_option maxHeartbeats 4000000
namespace DL
open PySem PySem.Spec PyProof.Rows L2
def things : List D := [.bl true, .bl false, .non, .str "nobody", .str "Same", .str (rareT ++ "\n"), .str (" " ++ rareT), .str (Txt.upper rareT), .str "machine ab\nstate 1 0 1\nstate 2 0 2\nstate 1 2 ", .str (rareT ++ " 2"), .tup [.int 9],
  .tup [.tup [.int 9]], .lst [], .dct [] [], .tup [.bl true, .int 1], .tup [.str "again", .int 1], .tup [.str "guards"], .str "machine ab", .int (-1), .ins LM ["_letters", "_states"] [.str "ab", .tup [.tup [.int 0, .tup [.int 0, .int 0]]]], .str "machine ab\nstate 1 0 1\nstate 7 0 7\nstate 1 7 7", .str "machine  ab\nstate 1 0 1\nstate 2 0 2\nstate 1 2 2", .str "machine ba\nstate 1 0 1\nstate 2 0 2\nstate 1 2 2", .tup [.str "in", .tup [.str "a", .str ""]]]
/-- what _law_bent may give of a claim -/
def lates (ds : List D) : List D :=
  ((List.range ds.length).flatMap fun k => things.map fun z => .tup (ds.take k ++ [z] ++ ds.drop (k + 1))) ++
  (((List.range ds.length).map fun k => .tup (ds.take k ++ ds.drop (k + 1))) ++
  (((List.range ds.length).flatMap fun k => things.map fun z => .tup (ds.take k ++ [z] ++ ds.drop k)) ++
  (.lst ds :: things.map fun z => .tup (ds ++ [z]))))
def okP (p : List D × D) : Prop := ∀ b : Bag, (lates p.1).map (fun l => F_accepts LM [l, p.2] b) = (lates p.1).map fun _ => .ok (.bl false) b
theorem lens56 : ∀ p ∈ bankD, (∃ a c, p.1 = [a, c]) ∨ ∃ a c d, p.1 = [a, c, d] := by
  intro p hp
  simp only [bankD, List.mem_cons, List.not_mem_nil, or_false] at hp
  rcases hp with rfl | rfl | rfl | rfl | rfl | rfl | rfl | rfl | rfl | rfl | rfl | rfl | rfl | rfl | rfl
  · exact .inr ⟨_, _, _, rfl⟩
  · exact .inr ⟨_, _, _, rfl⟩
  · exact .inr ⟨_, _, _, rfl⟩
  · exact .inr ⟨_, _, _, rfl⟩
  · exact .inr ⟨_, _, _, rfl⟩
  · exact .inr ⟨_, _, _, rfl⟩
  · exact .inr ⟨_, _, _, rfl⟩
  · exact .inr ⟨_, _, _, rfl⟩
  · exact .inr ⟨_, _, _, rfl⟩
  · exact .inr ⟨_, _, _, rfl⟩
  · exact .inr ⟨_, _, _, rfl⟩
  · exact .inr ⟨_, _, _, rfl⟩
  · exact .inr ⟨_, _, _, rfl⟩
  · exact .inl ⟨_, _, rfl⟩
  · exact .inl ⟨_, _, rfl⟩
end DL

set_option maxHeartbeats 4000000
namespace DL
open PySem PySem.Spec PyProof.Rows L2
theorem lt0 : okP bk0 := fun b => by kernel_rfl
theorem lt1 : okP bk1 := fun b => by kernel_rfl
theorem lt2 : okP bk2 := fun b => by kernel_rfl
theorem lt3 : okP bk3 := fun b => by kernel_rfl
end DL

set_option maxHeartbeats 4000000
namespace DL
open PySem PySem.Spec PyProof.Rows L2
theorem lt4 : okP bk4 := fun b => by kernel_rfl
theorem lt5 : okP bk5 := fun b => by kernel_rfl
theorem lt6 : okP bk6 := fun b => by kernel_rfl
theorem lt7 : okP bk7 := fun b => by kernel_rfl
end DL

set_option maxHeartbeats 4000000
namespace DL
open PySem PySem.Spec PyProof.Rows L2
theorem lt8 : okP bk8 := fun b => by kernel_rfl
theorem lt9 : okP bk9 := fun b => by kernel_rfl
theorem lt10 : okP bk10 := fun b => by kernel_rfl
theorem lt11 : okP bk11 := fun b => by kernel_rfl
end DL

set_option maxHeartbeats 4000000
namespace DL
open PySem PySem.Spec PyProof.Rows L2
theorem lt12 : okP bk12 := fun b => by kernel_rfl
theorem lt13 : okP bk13 := fun b => by kernel_rfl
theorem lt14 : okP bk14 := fun b => by kernel_rfl
end DL

set_option maxHeartbeats 1000000
namespace DL
open PySem PySem.Spec PyProof.Rows L2
def pp_0 (M : Addr) : SF := (sOwn (eLst aNil) 4)
def pp_1b_0 (M : Addr) : SF := (sOwn (eLst aNil) 6)
def pp_1b_1b_0 (M : Addr) : SF := (sAsg (eCall (F__law_a_ring) (aCons (eV 0) (aCons (eV 1) (aCons (eC (.int 3)) aNil)))) (gN 8))
def pp_1b_1b_1 (M : Addr) : SF := (sPush 6 (eIf (bB (e2 gtF (eCall (F__law_dip) (aCons (eV 0) (aCons (eC (.int 6)) aNil))) (eC (.int 0)))) (eTup (aCons (e2 addF (eV 3) (eIx (eV 8) (eC (.int 0)))) (aCons (eIx (eV 8) (eC (.int 1))) aNil))) (eTup (aCons (e2 addF (eSl (eV 3) oNo (oSome (e1 negF (eC (.int 1))))) (eIx (eV 8) (eC (.int 0)))) (aCons (eIx (eV 8) (eC (.int 1))) aNil)))))
def pp_1b_1b (M : Addr) : SF := (sSeq (pp_1b_1b_0 M) (pp_1b_1b_1 M))
def pp_1b_1 (M : Addr) : SF := (sFor (aRng (aCons (eC (.int 2)) aNil)) (gN 7) (pp_1b_1b M))
def pp_1b_2 (M : Addr) : SF := (sPush 4 (eTup (aCons (eIxOw 6 (eC (.int 0))) (aCons (eIxOw 6 (eC (.int 1))) aNil))))
def pp_1b (M : Addr) : SF := (sSeq (pp_1b_0 M) (sSeq (pp_1b_1 M) (pp_1b_2 M)))
def pp_1 (M : Addr) : SF := (sFor (aRng (aCons (eC (.int 6)) aNil)) (gN 5) (pp_1b M))
def pp_2 (M : Addr) : SF := (sIf (bB (e2 leF (eB lenF (aCons (eV 3) aNil)) (eC (.int 200)))) (sSeq (sAsg (eCall (F_certify_open M) (aCons (eV 2) (aCons (eV 3) aNil))) (gN 9)) (sIf (bAnd (bB (eB (isiF (.ty "tuple") (fun n => kitB n "tuple") (ownB M)) (aCons (eV 9) (aCons (eC (.obj (.ty "tuple"))) aNil)))) (bAnd (bB (e2 eqF (eB lenF (aCons (eV 9) aNil)) (eC (.int 2)))) (bAnd (bB (eB (isiF (.ty "tuple") (fun n => kitB n "tuple") (ownB M)) (aCons (eIx (eV 9) (eC (.int 1))) (aCons (eC (.obj (.ty "tuple"))) aNil)))) (bB (e2 eqF (eB lenF (aCons (eIx (eV 9) (eC (.int 1))) aNil)) (eC (.int 2))))))) (sFreeze 4 (sOwn (eCat (eV 4) (eLst (aCons (eIx (eV 9) (eC (.int 1))) (aCons (e1o revF (eIx (eV 9) (eC (.int 1)))) (aCons (eTup (aCons (eIx (eIx (eV 9) (eC (.int 1))) (eC (.int 0))) (aCons (eIx (eIxOw 4 (eC (.int 0))) (eC (.int 1))) aNil))) (aCons (eTup (aCons (eIx (eIxOw 4 (eC (.int 1))) (eC (.int 0))) (aCons (eIx (eIx (eV 9) (eC (.int 1))) (eC (.int 1))) aNil))) aNil)))))) 4)) sNil)) sNil)
def pp_3 (M : Addr) : SF := (sAsg (eIxOw 4 (eCall (F__law_dip) (aCons (eV 0) (aCons (eLenOw 4) aNil)))) (gN 10))
def pp_4 (M : Addr) : SF := (sFreeze 4 (sOwn (eCat (eV 4) (eLst (aCons (eSl (eV 10) oNo (oSome (eC (.int 1)))) (aCons (e2 addF (eV 10) (eSl (eV 10) oNo (oSome (eC (.int 1))))) (aCons (eListS (eV 10)) (aCons (eTup aNil) (aCons (eC .non) (aCons (eTup (aCons (eIx (eV 10) (eC (.int 0))) (aCons (eCall (F__law_rope_v2) (aCons (eV 0) (aCons (eV 1) (aCons (eIx (eV 10) (eC (.int 1))) aNil)))) aNil))) aNil)))))))) 4))
def pp_5 (M : Addr) : SF := (sFreeze 4 (sRet (e2 addF (eV 4) (eLst (aCons (eTup (aCons (eCall (F__law_rope_v2) (aCons (eV 0) (aCons (eV 1) (aCons (eIx (eV 10) (eC (.int 0))) aNil)))) (aCons (eIx (eV 10) (eC (.int 1))) aNil))) aNil)))))
def pp (M : Addr) : SF := (sSeq (pp_0 M) (sSeq (pp_1 M) (sSeq (pp_2 M) (sSeq (pp_3 M) (sSeq (pp_4 M) (pp_5 M))))))
theorem eifT {T : BF} {F G : EF} {ρ : Env} {b b1 b2 : Bag} {c : Bool} {d : D} (h : T ρ b = .ok c b1) (h1 : c = true → F ρ b1 = .ok d b2) (h2 : c = false → G ρ b1 = .ok d b2) : eIf T F G ρ b = .ok d b2 := by
  cases c with
  | true => simp [eIf, h, h1 rfl]
  | false => simp [eIf, h, h2 rfl]
theorem frzT {S : SF} {ρ : Env} {b : Bag} {i : Nat} {d : D} (h : ρ[i]? = some (some (.ow d))) : sFreeze i S ρ b = S (ρ.set i (some (.sh d))) b := by
  unfold sFreeze
  rw [h]
end DL

set_option maxHeartbeats 1000000

set_option maxHeartbeats 4000000
namespace DL
open PySem PySem.Spec PyProof.Rows L2
theorem add_tup {xs ys : List D} (h : xs.length + ys.length ≤ 100000) : addF (.tup xs) (.tup ys) = some (.tup (xs ++ ys)) := if_pos h
theorem cuts56 {ds : List D} (h : (∃ a c, ds = [a, c]) ∨ ∃ a c d, ds = [a, c, d]) (k : Nat) (hk : k < ds.length) : slF none (some (k : Int)) (.tup ds) = some (.tup (ds.take k)) ∧ slF (some ((k : Int) + 1)) none (.tup ds) = some (.tup (ds.drop (k + 1))) ∧ slF (some (k : Int)) none (.tup ds) = some (.tup (ds.drop k)) := by
  rcases h with ⟨a, c, rfl⟩ | ⟨a, c, d, rfl⟩
  · have hk : k < 2 := hk
    have : k = 0 ∨ k = 1 := by omega
    rcases this with rfl | rfl
    · exact ⟨rfl, rfl, rfl⟩
    · exact ⟨rfl, rfl, rfl⟩
  · have hk : k < 3 := hk
    have : k = 0 ∨ k = 1 ∨ k = 2 := by omega
    rcases this with rfl | rfl | rfl
    · exact ⟨rfl, rfl, rfl⟩
    · exact ⟨rfl, rfl, rfl⟩
    · exact ⟨rfl, rfl, rfl⟩
def bn_0 : SF := (sPar3 3 4 5 (aCons (eCall (F__law_dip) (aCons (eV 0) (aCons (eB lenF (aCons (eV 1) aNil)) aNil))) (aCons (eCall (F__law_dip) (aCons (eV 0) (aCons (eC (.int 9)) aNil))) (aCons (eIx (eV 2) (eCall (F__law_dip) (aCons (eV 0) (aCons (eB lenF (aCons (eV 2) aNil)) aNil)))) aNil))))
def bn_1 : EF := (e2 addF (e2 addF (eSl (eV 1) oNo (oSome (eV 3))) (eTup (aCons (eV 5) aNil))) (eSl (eV 1) (oSome (e2 addF (eV 3) (eC (.int 1)))) oNo))
def bn_2 : EF := (e2 addF (eSl (eV 1) oNo (oSome (eV 3))) (eSl (eV 1) (oSome (e2 addF (eV 3) (eC (.int 1)))) oNo))
def bn_3 : EF := (e2 addF (e2 addF (eSl (eV 1) oNo (oSome (eV 3))) (eTup (aCons (eV 5) aNil))) (eSl (eV 1) (oSome (eV 3)) oNo))
def bn_4 : EF := (eIf (bB (e2 eqF (eV 4) (eC (.int 7)))) (eListS (eV 1)) (e2 addF (eV 1) (eTup (aCons (eV 5) aNil))))
theorem bn_def : F__law_bent = runD 6 3 (sSeq bn_0 (sSeq (sIf (bB (e2 ltF (eV 4) (eC (.int 5)))) (sRet bn_1) sNil) (sSeq (sIf (bB (e2 eqF (eV 4) (eC (.int 5)))) (sRet bn_2) sNil) (sSeq (sIf (bB (e2 eqF (eV 4) (eC (.int 6)))) (sRet bn_3) sNil) (sRet bn_4))))) := rfl
theorem things_len : things.length = 24 := rfl
theorem bent56 {ds : List D} (h : (∃ a c, ds = [a, c]) ∨ ∃ a c d, ds = [a, c, d]) (b : Bag) : ∃ e b', F__law_bent [.bag, .tup ds, .lst things] b = .ok e b' ∧ e ∈ lates ds := by
  have hl : 2 ≤ ds.length ∧ ds.length ≤ 3 := by
    rcases h with ⟨a, c, rfl⟩ | ⟨a, c, d, rfl⟩
    · exact ⟨by simp, by simp⟩
    · exact ⟨by simp, by simp⟩
  let E0 : Env := [some (.sh .bag), some (.sh (.tup ds)), some (.sh (.lst things)), none, none, none]
  have ln : ∀ b, eB lenF (aCons (eV 1) aNil) E0 b = .ok (.int (ds.length : Int)) b := fun b => rep1 (show eV 1 E0 b = .ok (.tup ds) b from rfl) rfl
  have ln2 : ∀ b, eB lenF (aCons (eV 2) aNil) E0 b = .ok (.int ((24 : Nat) : Int)) b := fun b => rep1 (show eV 2 E0 b = .ok (.lst things) b from rfl) rfl
  obtain ⟨i, b1, h1, i0, i1⟩ := dip_ok b (m := (ds.length : Int)) (by omega) (by omega)
  have c1 := call2 (F := eV 0) (G := eB lenF (aCons (eV 1) aNil)) (ρ := E0) (b := b) rfl (ln b) h1
  obtain ⟨way, b2, c2, w0, w1⟩ := dipT b1 9 (by decide) (by decide) (ρ := E0) rfl
  obtain ⟨j, b3, h3, j0, j1⟩ := dip_ok b2 (m := ((24 : Nat) : Int)) (by decide) (by decide)
  have c3 := call2 (F := eV 0) (G := eB lenF (aCons (eV 2) aNil)) (ρ := E0) (b := b2) rfl (ln2 b2) h3
  obtain ⟨z, hz, hzm⟩ := pick_any (P := (· ∈ things)) (ds := things) (fun _ h => h) j0 (by rw [things_len]; exact j1)
  have c3' : eIx (eV 2) (eCall (F__law_dip) (aCons (eV 0) (aCons (eB lenF (aCons (eV 2) aNil)) aNil))) E0 b2 = .ok z b3 := ixT (x := .lst things) rfl c3 hz
  obtain ⟨k, rfl⟩ : ∃ k : Nat, i = (k : Int) := ⟨i.toNat, by omega⟩
  have hk : k < ds.length := by omega
  let E1 : Env := [some (.sh .bag), some (.sh (.tup ds)), some (.sh (.lst things)), some (.sh (.int k)), some (.sh (.int way)), some (.sh z)]
  have r0 : bn_0 E0 b = .nx E1 b3 := by
    have a := aconsT c1 (aconsT c2 (aconsT c3' (show aNil E0 b3 = .ok [] b3 from rfl)))
    unfold bn_0 sPar3
    rw [a]
    rfl
  obtain ⟨s1, s2, s3⟩ := cuts56 h k hk
  have v1 : eV 1 E1 b3 = .ok (.tup ds) b3 := rfl
  have oN : oNo E1 b3 = .ok none b3 := rfl
  have o3 : oSome (eV 3) E1 b3 = .ok (some (k : Int)) b3 := rfl
  have o4 : oSome (e2 addF (eV 3) (eC (.int 1))) E1 b3 = .ok (some ((k : Int) + 1)) b3 := rfl
  have t1 := slT v1 oN o3 s1
  have t2 := slT v1 o4 oN s2
  have t3 := slT v1 o3 oN s3
  have tz : eTup (aCons (eV 5) aNil) E1 b3 = .ok (.tup [z]) b3 := rfl
  have l1 : (ds.take k).length ≤ 3 := by rw [List.length_take]; omega
  have l2 : (ds.drop (k + 1)).length ≤ 3 := by rw [List.length_drop]; omega
  have l3 : (ds.drop k).length ≤ 3 := by rw [List.length_drop]; omega
  have l4 : (ds.take k ++ [z]).length ≤ 4 := by rw [List.length_append, List.length_singleton]; omega
  have hst : startE 6 [D.bag, .tup ds, .lst things] = E0 := rfl
  have fin : ∀ {e : D}, (sSeq (sIf (bB (e2 ltF (eV 4) (eC (.int 5)))) (sRet bn_1) sNil) (sSeq (sIf (bB (e2 eqF (eV 4) (eC (.int 5)))) (sRet bn_2) sNil) (sSeq (sIf (bB (e2 eqF (eV 4) (eC (.int 6)))) (sRet bn_3) sNil) (sRet bn_4)))) E1 b3 = .rt e b3 → F__law_bent [.bag, .tup ds, .lst things] b = .ok e b3 := fun {e} h => by
    rw [bn_def]
    simp only [runD, List.length_cons, List.length_nil, if_true, hst]
    rw [seqRt r0 h]
    rfl
  have q1 : bB (e2 ltF (eV 4) (eC (.int 5))) E1 b3 = .ok (decide (way < 5)) b3 := tst (op_ok (show eV 4 E1 b3 = .ok (.int way) b3 from rfl) (show eC (.int 5) E1 b3 = .ok (.int 5) b3 from rfl) rfl)
  have qe : ∀ m : Int, bB (e2 eqF (eV 4) (eC (.int m))) E1 b3 = .ok (decide (way = m)) b3 := fun m => tst (op_ok (show eV 4 E1 b3 = .ok (.int way) b3 from rfl) rfl eqF_int)
  by_cases w5 : way < 5
  · rw [decide_eq_true w5] at q1
    have r : bn_1 E1 b3 = .ok (.tup (ds.take k ++ [z] ++ ds.drop (k + 1))) b3 := op_ok (op_ok t1 tz (add_tup (by rw [List.length_singleton]; omega))) t2 (add_tup (by omega))
    refine ⟨_, b3, fin (rt_seqT (if_rt q1 (rtT r))), ?_⟩
    exact List.mem_append_left _ (List.mem_flatMap.mpr ⟨k, List.mem_range.mpr hk, List.mem_map.mpr ⟨z, hzm, rfl⟩⟩)
  · rw [decide_eq_false w5] at q1
    have n1 := if_noY (S := sRet bn_1) q1
    by_cases w6 : way = 5
    · have q := qe 5
      rw [decide_eq_true w6] at q
      have r : bn_2 E1 b3 = .ok (.tup (ds.take k ++ ds.drop (k + 1))) b3 := op_ok t1 t2 (add_tup (by omega))
      refine ⟨_, b3, fin (seqRt n1 (rt_seqT (if_rt q (rtT r)))), ?_⟩
      exact List.mem_append_right _ (List.mem_append_left _ (List.mem_map.mpr ⟨k, List.mem_range.mpr hk, rfl⟩))
    · have q := qe 5
      rw [decide_eq_false w6] at q
      have n2 := if_noY (S := sRet bn_2) q
      by_cases w7 : way = 6
      · have q := qe 6
        rw [decide_eq_true w7] at q
        have r : bn_3 E1 b3 = .ok (.tup (ds.take k ++ [z] ++ ds.drop k)) b3 := op_ok (op_ok t1 tz (add_tup (by rw [List.length_singleton]; omega))) t3 (add_tup (by omega))
        refine ⟨_, b3, fin (seqRt n1 (seqRt n2 (rt_seqT (if_rt q (rtT r))))), ?_⟩
        exact List.mem_append_right _ (List.mem_append_right _ (List.mem_append_left _ (List.mem_flatMap.mpr ⟨k, List.mem_range.mpr hk, List.mem_map.mpr ⟨z, hzm, rfl⟩⟩)))
      · have q := qe 6
        rw [decide_eq_false w7] at q
        have n3 := if_noY (S := sRet bn_3) q
        have q7 := qe 7
        by_cases w8 : way = 7
        · rw [decide_eq_true w8] at q7
          have r : bn_4 E1 b3 = .ok (.lst ds) b3 := eifT q7 (fun _ => rfl) (fun h => by cases h)
          refine ⟨_, b3, fin (seqRt n1 (seqRt n2 (seqRt n3 (rtT r)))), ?_⟩
          exact List.mem_append_right _ (List.mem_append_right _ (List.mem_append_right _ List.mem_cons_self))
        · rw [decide_eq_false w8] at q7
          have r : bn_4 E1 b3 = .ok (.tup (ds ++ [z])) b3 := eifT q7 (fun h => by cases h) (fun _ => op_ok v1 tz (add_tup (by rw [List.length_singleton]; omega)))
          refine ⟨_, b3, fin (seqRt n1 (seqRt n2 (seqRt n3 (rtT r)))), ?_⟩
          exact List.mem_append_right _ (List.mem_append_right _ (List.mem_append_right _ (List.mem_cons_of_mem _ (List.mem_map.mpr ⟨z, hzm, rfl⟩))))
end DL

set_option maxHeartbeats 4000000
namespace DL
open PySem PySem.Spec PyProof.Rows L2
def so0 : D := .non
def so1 : D := .bl true
def so2 : D := .int 0
def so3 : D := .lst []
def so4 : D := .dct [] []
def so5 : D := .tup [.non]
def so6 : D := .tup [.str "A", .str "B"]
def so7 : D := .int (-1)
def so8 : D := .int (10 ^ 30)
def so9 : D := .str rareT
def so10 : D := .tup [.tup [.int 1, .int 2, .int 3]]
def so11 : D := .tup [.tup [], .int 1]
def so12 : D := .tup [.str "", .str ""]
def so13 : D := .tup [.str "c", .str "c"]
def someL : List D := [so0, so1, so2, so3, so4, so5, so6, so7, so8, so9, so10, so11, so12, so13]
def okS (t : D) : Prop := ∀ b : Bag, bankD.map (fun p => F_accepts LM [.tup p.1, t] b) = bankD.map fun _ => .ok (.bl false) b
theorem so_own (b : Bag) : someL.map (fun t => (F_accepts LM [t, .tup []] b, F_accepts LM [t, t] b)) = someL.map fun _ => (.ok (.bl false) b, .ok (.bl false) b) := by kernel_rfl
end DL

set_option maxHeartbeats 4000000
namespace DL
open PySem PySem.Spec PyProof.Rows L2
theorem st0 : okS so0 := fun b => by kernel_rfl
theorem st1 : okS so1 := fun b => by kernel_rfl
theorem st2 : okS so2 := fun b => by kernel_rfl
theorem st3 : okS so3 := fun b => by kernel_rfl
theorem st4 : okS so4 := fun b => by kernel_rfl
end DL

set_option maxHeartbeats 4000000
namespace DL
open PySem PySem.Spec PyProof.Rows L2
theorem st5 : okS so5 := fun b => by kernel_rfl
theorem st6 : okS so6 := fun b => by kernel_rfl
theorem st7 : okS so7 := fun b => by kernel_rfl
theorem st8 : okS so8 := fun b => by kernel_rfl
theorem st9 : okS so9 := fun b => by kernel_rfl
end DL

set_option maxHeartbeats 4000000
namespace DL
open PySem PySem.Spec PyProof.Rows L2
theorem st10 : okS so10 := fun b => by kernel_rfl
theorem st11 : okS so11 := fun b => by kernel_rfl
theorem st12 : okS so12 := fun b => by kernel_rfl
theorem st13 : okS so13 := fun b => by kernel_rfl
end DL

set_option maxHeartbeats 4000000
namespace DL
open PySem PySem.Spec PyProof.Rows L2
def zg_0 (M : Addr) : SF := (sAsg (eCall (F__law_bank) aNil) (gN 1))
def zg_3 (M : Addr) : SF := (sOwn (eLst (aCons (eC (.bl true)) (aCons (eC (.bl false)) (aCons (eC .non) (aCons (eC (.str "nobody")) (aCons (eC (.str "Same")) (aCons (e2 addF (eV 2) (eC (.str "\n"))) (aCons (e2 addF (eC (.str " ")) (eV 2)) (aCons (e1 upperF (eV 2)) (aCons (eSl (eV 2) oNo (oSome (e1 negF (eC (.int 1))))) (aCons (e2 addF (eV 2) (eC (.str " 2"))) (aCons (eTup (aCons (eC (.int 9)) aNil)) aNil)))))))))))) 3)
def zg_4 (M : Addr) : SF := (sFreeze 3 (sOwn (eCat (eV 3) (eLst (aCons (eTup (aCons (eTup (aCons (eC (.int 9)) aNil)) aNil)) (aCons (eLst aNil) (aCons eDnew (aCons (eTup (aCons (eC (.bl true)) (aCons (eC (.int 1)) aNil))) (aCons (eTup (aCons (eC (.str "again")) (aCons (eC (.int 1)) aNil))) (aCons (eTup (aCons (eC (.str "guards")) aNil)) (aCons (eC (.str "machine ab")) (aCons (e1 negF (eC (.int 1))) aNil)))))))))) 3))
def zg_5 (M : Addr) : SF := (sPush 3 (eMake M (Fm_Machine M) (aCons (eC (.str "ab")) (aCons (eTup (aCons (eTup (aCons (eC (.int 0)) (aCons (eTup (aCons (eC (.int 0)) (aCons (eC (.int 0)) aNil))) aNil))) aNil)) aNil))))
def zg_6 (M : Addr) : SF := (sFreeze 3 (sOwn (eCat (eV 3) (eLst (aCons (e1 (replF "2" "7") (eV 2)) (aCons (e1 (replF "machine" "machine ") (eV 2)) (aCons (e2 addF (eC (.str "machine ba")) (eSl (eV 2) (oSome (eC (.int 10))) oNo)) aNil))))) 3))
def zg_7 (M : Addr) : SF := (sPush 3 (eTup (aCons (eC (.str "in")) (aCons (eTup (aCons (eC (.str "a")) (aCons (eC (.str "")) aNil))) aNil))))
def zg_8 (M : Addr) : SF := (sFor (aRng (aCons (eC (.int 10)) aNil)) (gN 4) (sFor (aAny (eV 1)) (gT 2 (gsC (gN 5) (gsC (gN 6) gsN))) (sSeq (sFreeze 3 (sAsg (eCall (F__law_bent) (aCons (eV 0) (aCons (eV 5) (aCons (eV 3) aNil)))) (gN 7))) (sIf (bAnd (bB (e2 notB2 (eCall (F_accepts M) (aCons (eV 7) (aCons (eV 6) aNil))) (eC (.bl false)))) (bB (e2 neF (eB reprN (aCons (eV 7) aNil)) (eB reprN (aCons (eV 5) aNil))))) (sRet (eC (.bl false))) sNil))))
def zg_9 (M : Addr) : SF := (sAsg (eLst (aCons (eC .non) (aCons (eC (.bl true)) (aCons (eC (.int 0)) (aCons (eLst aNil) (aCons eDnew (aCons (eTup (aCons (eC .non) aNil)) (aCons (eTup (aCons (eC (.str "A")) (aCons (eC (.str "B")) aNil))) (aCons (e1 negF (eC (.int 1))) (aCons (e2 powF (eC (.int 10)) (eC (.int 30))) (aCons (eV 2) (aCons (eTup (aCons (eTup (aCons (eC (.int 1)) (aCons (eC (.int 2)) (aCons (eC (.int 3)) aNil)))) aNil)) (aCons (eTup (aCons (eTup aNil) (aCons (eC (.int 1)) aNil))) (aCons (eTup (aCons (eC (.str "")) (aCons (eC (.str "")) aNil))) (aCons (eTup (aCons (eC (.str "c")) (aCons (eC (.str "c")) aNil))) aNil))))))))))))))) (gN 8))
def zg_10b_0 (M : Addr) : SF := (sIf (bB (e2 neF (eLc (aAny (eV 1)) [10] (gN 10) (bB (e2 notB2 (eCall (F_accepts M) (aCons (eIx (eV 10) (eC (.int 0))) (aCons (eV 9) aNil))) (eC (.bl false)))) (eV 10)) (eLst aNil))) (sRet (eC (.bl false))) sNil)
def zg_10b_1 (M : Addr) : SF := (sIf (bOr (bB (e2 notB2 (eCall (F_accepts M) (aCons (eV 9) (aCons (eTup aNil) aNil))) (eC (.bl false)))) (bB (e2 notB2 (eCall (F_accepts M) (aCons (eV 9) (aCons (eV 9) aNil))) (eC (.bl false))))) (sRet (eC (.bl false))) sNil)
def zg_10b (M : Addr) : SF := (sSeq (zg_10b_0 M) (zg_10b_1 M))
def zg_10 (M : Addr) : SF := (sFor (aAny (eV 8)) (gN 9) (zg_10b M))
def zg_11 (M : Addr) : SF := (sRet (eC (.bl true)))
def zg (M : Addr) : SF := (sSeq (zg_0 M) (sSeq (zg_1 M) (sSeq (zg_2 M) (sSeq (zg_3 M) (sSeq (zg_4 M) (sSeq (zg_5 M) (sSeq (zg_6 M) (sSeq (zg_7 M) (sSeq (zg_8 M) (sSeq (zg_9 M) (sSeq (zg_10 M) (zg_11 M))))))))))))

theorem zg_def (M : Addr) : F__law_right M = runD 11 1 (zg M) := rfl
def someV : D := .lst someL
theorem g0 (b : Bag) : zg_0 LM (v56 none none none none none none none none none) b = .nx (v56 (some bankV) none none none none none none none none) b := by kernel_rfl
theorem g37 (b : Bag) (Z : SF) : sSeq (zg_3 LM) (sSeq (zg_4 LM) (sSeq (zg_5 LM) (sSeq (zg_6 LM) (sSeq (zg_7 LM) Z)))) (v56 (some bankV) (some (.str rareT)) none none none none none none none) b = Z (v56 (some bankV) (some (.str rareT)) (some (.ow (.lst things))) none none none none none none) b := by kernel_rfl
theorem all56 : ∀ p ∈ bankD, okP p := by
  intro p hp
  simp only [bankD, List.mem_cons, List.not_mem_nil, or_false] at hp
  rcases hp with rfl | rfl | rfl | rfl | rfl | rfl | rfl | rfl | rfl | rfl | rfl | rfl | rfl | rfl | rfl
  · exact lt0
  · exact lt1
  · exact lt2
  · exact lt3
  · exact lt4
  · exact lt5
  · exact lt6
  · exact lt7
  · exact lt8
  · exact lt9
  · exact lt10
  · exact lt11
  · exact lt12
  · exact lt13
  · exact lt14
theorem late56 {p : List D × D} (hp : p ∈ bankD) {l : D} (hl : l ∈ lates p.1) (b : Bag) : F_accepts LM [l, p.2] b = .ok (.bl false) b :=
  List.map_inj_left.mp (all56 p hp b) l hl
def bQ : SF := (sSeq (sFreeze 3 (sAsg (eCall (F__law_bent) (aCons (eV 0) (aCons (eV 5) (aCons (eV 3) aNil)))) (gN 7))) (sIf (bAnd (bB (e2 notB2 (eCall (F_accepts LM) (aCons (eV 7) (aCons (eV 6) aNil))) (eC (.bl false)))) (bB (e2 neF (eB reprN (aCons (eV 7) aNil)) (eB reprN (aCons (eV 5) aNil))))) (sRet (eC (.bl false))) sNil))
abbrev x56 (s3 : SD) (o4 o5 o6 o7 : Option D) : Env := v56 (some bankV) (some (.str rareT)) (some s3) o4 o5 o6 o7 none none
def Thi (s : SD) : Prop := s = .ow (.lst things) ∨ s = .sh (.lst things)
theorem notB56 {F : EF} {ρ : Env} {b : Bag} (u : F ρ b = .ok (.bl false) b) : bB (e2 notB2 F (eC (.bl false))) ρ b = .ok false b := by
  refine tst ?_
  simp only [e2, u, eC, bind_ok_]
  rfl
theorem body56 {p : List D × D} (hp : p ∈ bankD) {s3 : SD} (h3 : Thi s3) (o4 o7 : Option D) (b : Bag) : ∃ o7' b', bQ (x56 s3 o4 (some (.tup p.1)) (some p.2) o7) b = .nx (x56 (.sh (.lst things)) o4 (some (.tup p.1)) (some p.2) o7') b' := by
  obtain ⟨e, b1, h1, he⟩ := bent56 (lens56 p hp) b
  let E0 := x56 (.sh (.lst things)) o4 (some (.tup p.1)) (some p.2) o7
  let E1 := x56 (.sh (.lst things)) o4 (some (.tup p.1)) (some p.2) (some e)
  have r : sAsg (eCall (F__law_bent) (aCons (eV 0) (aCons (eV 5) (aCons (eV 3) aNil)))) (gN 7) E0 b = .nx E1 b1 := asgT (call3 (F := eV 0) (G := eV 5) (K := eV 3) (ρ := E0) (b := b) rfl rfl rfl h1) rfl
  have r0 : sFreeze 3 (sAsg (eCall (F__law_bent) (aCons (eV 0) (aCons (eV 5) (aCons (eV 3) aNil)))) (gN 7)) (x56 s3 o4 (some (.tup p.1)) (some p.2) o7) b = .nx E1 b1 := by
    rcases h3 with rfl | rfl
    · rw [frzT (i := 3) (d := .lst things) rfl]
      exact r
    · exact r
  have t := notB56 (call2 (F := eV 7) (G := eV 6) (ρ := E1) (b := b1) rfl rfl (late56 hp he b1))
  refine ⟨some e, b1, ?_⟩
  unfold bQ
  rw [seq_step r0]
  refine if_noY ?_
  simp [-bB, bAnd, t]
theorem inner56 (o4 : Option D) : ∀ (L : List (List D × D)), (∀ p ∈ L, p ∈ bankD) → ∀ (s3 : SD), Thi s3 → ∀ (o5 o6 o7 : Option D) (b : Bag), ∃ s3' o5' o6' o7' b', Thi s3' ∧ loopD (gT 2 (gsC (gN 5) (gsC (gN 6) gsN))) bQ (L.map fun p => D.tup [.tup p.1, p.2]) (x56 s3 o4 o5 o6 o7) b = .nx (x56 s3' o4 o5' o6' o7') b'
  | [], _, s3, h3, o5, o6, o7, b => ⟨s3, o5, o6, o7, b, h3, rfl⟩
  | p :: L, h, s3, h3, o5, o6, o7, b => by
    obtain ⟨a7, b1, q⟩ := body56 (h p List.mem_cons_self) h3 o4 o7 b
    obtain ⟨s3', b5, b6, b7, b2, t3, q2⟩ := inner56 o4 L (fun z hz => h z (List.mem_cons_of_mem _ hz)) (.sh (.lst things)) (.inr rfl) (some (.tup p.1)) (some p.2) a7 b1
    refine ⟨s3', b5, b6, b7, b2, t3, ?_⟩
    rw [List.map_cons]
    unfold loopD
    rw [show gT 2 (gsC (gN 5) (gsC (gN 6) gsN)) (D.tup [.tup p.1, p.2]) (x56 s3 o4 o5 o6 o7) b = some (x56 s3 o4 (some (.tup p.1)) (some p.2) o7, b) from rfl]
    dsimp only
    rw [q]
    exact q2
def bO : SF := (sFor (aAny (eV 1)) (gT 2 (gsC (gN 5) (gsC (gN 6) gsN))) bQ)
theorem outer56 : ∀ (ds : List D) (s3 : SD), Thi s3 → ∀ (o4 o5 o6 o7 : Option D) (b : Bag), ∃ s3' o4' o5' o6' o7' b', Thi s3' ∧ loopD (gN 4) bO ds (x56 s3 o4 o5 o6 o7) b = .nx (x56 s3' o4' o5' o6' o7') b'
  | [], s3, h3, o4, o5, o6, o7, b => ⟨s3, o4, o5, o6, o7, b, h3, rfl⟩
  | d :: ds, s3, h3, o4, o5, o6, o7, b => by
    obtain ⟨t3, b5, b6, b7, b1, ht, q⟩ := inner56 (some d) bankD (fun _ h => h) s3 h3 o5 o6 o7 b
    have r : bO (x56 s3 (some d) o5 o6 o7) b = .nx (x56 t3 (some d) b5 b6 b7) b1 := q
    obtain ⟨u3, c4, c5, c6, c7, b2, hu, q2⟩ := outer56 ds t3 ht (some d) b5 b6 b7 b1
    refine ⟨u3, c4, c5, c6, c7, b2, hu, ?_⟩
    unfold loopD
    rw [show gN 4 d (x56 s3 o4 o5 o6 o7) b = some (x56 s3 (some d) o5 o6 o7, b) from rfl]
    dsimp only
    rw [r]
    exact q2
theorem g9 (s3 : SD) (o4 o5 o6 o7 : Option D) (b : Bag) : zg_9 LM (x56 s3 o4 o5 o6 o7) b = .nx (v56 (some bankV) (some (.str rareT)) (some s3) o4 o5 o6 o7 (some someV) none) b := by kernel_rfl
theorem all_so : ∀ t ∈ someL, okS t := by
  intro t ht
  simp only [someL, List.mem_cons, List.not_mem_nil, or_false] at ht
  rcases ht with rfl | rfl | rfl | rfl | rfl | rfl | rfl | rfl | rfl | rfl | rfl | rfl | rfl | rfl
  · exact st0
  · exact st1
  · exact st2
  · exact st3
  · exact st4
  · exact st5
  · exact st6
  · exact st7
  · exact st8
  · exact st9
  · exact st10
  · exact st11
  · exact st12
  · exact st13
theorem some56 {t : D} (ht : t ∈ someL) {p : List D × D} (hp : p ∈ bankD) (b : Bag) : F_accepts LM [.tup p.1, t] b = .ok (.bl false) b :=
  List.map_inj_left.mp (all_so t ht b) p hp
theorem own56 {t : D} (ht : t ∈ someL) (b : Bag) : F_accepts LM [t, .tup []] b = .ok (.bl false) b ∧ F_accepts LM [t, t] b = .ok (.bl false) b := by
  have h := List.map_inj_left.mp (so_own b) t ht
  exact ⟨congrArg Prod.fst h, congrArg Prod.snd h⟩
abbrev y56 (s3 : Option SD) (o4 o5 o6 o7 o9 : Option D) : Env := v56 (some bankV) (some (.str rareT)) s3 o4 o5 o6 o7 (some someV) o9
theorem thing56 {t : D} (ht : t ∈ someL) {s3 : SD} (h3 : Thi s3) (o4 o5 o6 o7 : Option D) (b : Bag) : zg_10b LM (y56 (some s3) o4 o5 o6 o7 (some t)) b = .nx (y56 (some s3) o4 o5 o6 o7 (some t)) b := by
  let E := y56 (some s3) o4 o5 o6 o7 (some t)
  obtain ⟨s, hu⟩ : ∃ s : Option SD, wipeE (unown E) [10] = y56 s o4 o5 o6 o7 (some t) := by
    rcases h3 with rfl | rfl
    · exact ⟨none, by cases o4 <;> cases o5 <;> cases o6 <;> cases o7 <;> rfl⟩
    · exact ⟨some (.sh (.lst things)), by cases o4 <;> cases o5 <;> cases o6 <;> cases o7 <;> rfl⟩
  have m : lcD (gN 10) (bB (e2 notB2 (eCall (F_accepts LM) (aCons (eIx (eV 10) (eC (.int 0))) (aCons (eV 9) aNil))) (eC (.bl false)))) (eV 10) (bankD.map fun p => D.tup [.tup p.1, p.2]) (y56 s o4 o5 o6 o7 (some t)) b = .ok [] b := lc_none _ _ fun d hd => by
    obtain ⟨p, hp, rfl⟩ := List.mem_map.mp hd
    let Ep := (y56 s o4 o5 o6 o7 (some t)).set 10 (some (.sh (D.tup [.tup p.1, p.2])))
    have i0 : eIx (eV 10) (eC (.int 0)) Ep b = .ok (.tup p.1) b := ix_ok (x := D.tup [.tup p.1, p.2]) (y := .int 0) rfl rfl (atI_nat rfl : L2.atI _ ((0 : Nat) : Int) = _)
    exact notB56 (call2 i0 (show eV 9 Ep b = .ok t b from rfl) (some56 ht hp b))
  have e := eLcG (ρ := E) (vs := [10]) (show aAny (eV 1) E b = .ok (bankD.map fun p => D.tup [.tup p.1, p.2]) b from rfl) (by rw [List.length_map]; decide) (by rw [hu]; exact m)
  have n0 : zg_10b_0 LM E b = .nx E b := if_noY (tst (op_ok (f := neF) e (show eLst aNil E b = .ok (.lst []) b from rfl) (by kernel_rfl : neF (.lst []) (.lst []) = some (.bl false))))
  obtain ⟨a1, a2⟩ := own56 ht b
  have n1 : zg_10b_1 LM E b = .nx E b := if_noY (bor_ff (notB56 (call2 (show eV 9 E b = .ok t b from rfl) (show eTup aNil E b = .ok (.tup []) b from rfl) a1)) (notB56 (call2 (show eV 9 E b = .ok t b from rfl) (show eV 9 E b = .ok t b from rfl) a2)))
  unfold zg_10b
  rw [seq_step n0, n1]
theorem things56 {s3 : SD} (h3 : Thi s3) (o4 o5 o6 o7 : Option D) (b : Bag) : ∀ (L : List D), (∀ t ∈ L, t ∈ someL) → ∀ o9 : Option D, ∃ o9', loopD (gN 9) (zg_10b LM) L (y56 (some s3) o4 o5 o6 o7 o9) b = .nx (y56 (some s3) o4 o5 o6 o7 o9') b
  | [], _, o9 => ⟨o9, rfl⟩
  | t :: L, h, o9 => by
    obtain ⟨p9, q⟩ := things56 h3 o4 o5 o6 o7 b L (fun z hz => h z (List.mem_cons_of_mem _ hz)) (some t)
    refine ⟨p9, ?_⟩
    unfold loopD
    rw [show gN 9 t (y56 (some s3) o4 o5 o6 o7 o9) b = some (y56 (some s3) o4 o5 o6 o7 (some t), b) from rfl]
    dsimp only
    rw [thing56 (h t List.mem_cons_self) h3]
    exact q
theorem g10 {s3 : SD} (h3 : Thi s3) (o4 o5 o6 o7 : Option D) (b : Bag) : ∃ o9, zg_10 LM (v56 (some bankV) (some (.str rareT)) (some s3) o4 o5 o6 o7 (some someV) none) b = .nx (v56 (some bankV) (some (.str rareT)) (some s3) o4 o5 o6 o7 (some someV) o9) b := by
  obtain ⟨o9, q⟩ := things56 h3 o4 o5 o6 o7 b someL (fun _ h => h) none
  exact ⟨o9, q⟩
theorem right56_ok (b : Bag) : ∃ b', F__law_right LM [.bag] b = .ok (.bl true) b' := by
  obtain ⟨s3, o4, o5, o6, o7, b1, h3, q⟩ := outer56 (rangeOf ((10 : Nat) : Int)) (.ow (.lst things)) (.inl rfl) none none none none b
  have r8 : zg_8 LM (v56 (some bankV) (some (.str rareT)) (some (.ow (.lst things))) none none none none none none) b = .nx (x56 s3 o4 o5 o6 o7) b1 := by
    unfold zg_8 sFor
    rw [show aRng (aCons (eC (.int 10)) aNil) (v56 (some bankV) (some (.str rareT)) (some (.ow (.lst things))) none none none none none none) b = .ok (rangeOf ((10 : Nat) : Int)) b by simp [aRng]]
    exact q
  obtain ⟨o9, r10⟩ := g10 h3 o4 o5 o6 o7 b1
  refine ⟨b1, ?_⟩
  have hst : startE 11 [D.bag] = v56 none none none none none none none none none := rfl
  rw [zg_def]
  simp only [runD, List.length_cons, List.length_nil, if_true, hst]
  unfold zg
  rw [seq_step (g0 b), seq_step (g1 b), seq_step (g2 b), g37, seq_step r8, seq_step (g9 s3 o4 o5 o6 o7 b1), seq_step r10]
  rfl
theorem m_law (M : Addr) (hM : M = LM) (ns : List Int) (h : ns.length ≤ 63) : ∃ b', F_law M [.fl (ns.map D.int)] ⟨0, 0, 0⟩ = .ok (.bl true) b' := by
  subst hM
  exact law_well (F__law_right LM) 4 (by decide) (by decide) (fun x y => right56_ok _) ns h
end DL

set_option maxHeartbeats 0
open PySem PySem.W PySem.Calls PyProof.Rows
theorem PySem.Challenge.cw_guardhopes_k56_values_that_are_none_holds : PySem.Challenge.rw_guardhopes_k56_values_that_are_none.Holds := by
  w_on; o_law
  refine HandSHeadRun.head_any (r := OpenLaw.row PySem.Challenge.rw_guardhopes_k56_values_that_are_none) (q := view DL.R.prog [128]) (H := DL.hk) (ob := DL.ob) (M := 9000) (loose := DL.loose) (d := HandSHeadRun.topDef DL.R.prog 128) (kwd := []) DL.ob_eq
    (by kernel_rfl) (fun s => by kernel_rfl) DL.run (by kernel_rfl) (by kernel_rfl) (by kernel_rfl) (by rfl) (by first | assumption | decide +kernel) (by decide +kernel) ⟨rfl, rfl, rfl, rfl, rfl, by decide +kernel⟩ ?hw ?hc
  case hw => w_witness2
  case hc =>
    refine DL.walkG (l := PySem.Challenge.rw_guardhopes_k56_values_that_are_none) (n := 63) (k := 17) (x := "_law_cells") rfl (by decide) (by kernel_rfl) ⟨rfl, by decide, by decide⟩ ?F
    intro w mg fa h Y G hmg0
    obtain ⟨K, KX, c⟩ := Y
    have hmg : mg ("law" : PySem.Str) = some (.ref fa) := by
      have e : (HandSHeadRun.topDef DL.R.prog 128).name = ("law" : PySem.Str) := by kernel_rfl
      rw [← e]
      exact hmg0
    obtain ⟨fd, hb, hF⟩ := DL.ok_all KX G c
    have e : fa = He.ga K "law" := by
      have g := He.glo_ok KX G (x := "law") (DL.glo_law c)
      rw [hmg] at g
      cases g
      rfl
    subst e
    exact ⟨K, fd, DL.F_law (He.ga K "Machine"), KX, hb, fun ns hn => DL.m_law _ (DL.mach_lit c) ns hn, fun base _ _ => hF _ w base⟩
