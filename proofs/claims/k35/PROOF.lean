import PyProof.Rows.All
import Wide.All
import OpenK.AllK
import Wide.FinOn
import HandS.Base
import HandS.Call
import HandS.List
import HandS.Comp
import HandS.Exc
import HandS.Words
import HandS.Lambda
import HandS.Iter
import HandS.HeadHook1
import HandS.ExcOwn
import HandS.TupAny
import HandS.Text
import HandS.WordsExc
import HandS.TupMul
import HandS.Star
import HandS.IsInst
import HandS.Property
import HandS.StrMore
import HandS.Replace
import HandS.Style
import HandS.Defaults
import HandS.ClsMeth
import KE.GoesNew
import HandS.MakeKw
import KE.KStateDown
import HandS.Ends
import HandS.Head0
import HandS.Head1
import HandS.Head2
import HandS.HeadEnd
import HandS.HeadHook2
import HandS.Conv
import HandS.More
import HandS.Zip
import HandS.DictComp
import HandS.Deep
import HandS.OwnEq
import HandS.SortRule
import PyProof.Rows.SortKeyStr
import PyProof.Rows.TupIter
import PyProof.Seq
import HandS.ListItems
import KE.KDictList
import PyProof.InstNe
import PyProof.StrWalks
import PyProof.EnumMake
import HandS.FStr
import HandS.MapJoin
import HandS.RaiseMore
import PyProof.Rows.Range3
import PyProof.CallStr
import HandS.Small
import HandS.DictSub
import KE.KDictZip
import KE.KDictPairs
import KE.KDictKeyed
import HandS.TupLe
import HandS.ExcInit
import HandS.TryOnly
import HandS.ReplaceLit
import KE.KTryMore
import HandS.ExcIs
import HandS.ExcField
import KE.DataFind
import KE.SortKeyHeap
import HandS.EndTab
import HandS.HeadHook4
import HandS.NestedK
import HandS.Codes
import PySem.Challenge.RW_guardhopes_k35_errors_of_kinds_and_parts
section
set_option Elab.async false
set_option linter.all false
set_option maxRecDepth 100000
set_option maxHeartbeats 4000000
namespace DL
open PySem PySem.Spec PyProof.Rows L2

inductive D where
  | non | bl (b : Bool) | int (i : Int) | str (x : Str)
  | tup (ds : List D) | lst (ds : List D) | fl (ds : List D)
  | ins (C : Addr) (ns : List Str) (ds : List D)
  | obj (v : V)
  | bag
  | dct (ks : List Key) (ds : List D)
  | dtp (ks : List (List Key)) (ds : List D)

structure Bag where
  x : Int
  y : Int
  z : Int

inductive Out (α : Type) where
  | ok (a : α) (b : Bag)
  | ex (c : Str) (ns : List Str) (ds : List D) (bx : Bag)
  | stuck
namespace Out
def bind {α β : Type} (o : Out α) (k : α → Bag → Out β) : Out β := match o with
  | .ok a b => k a b
  | .ex c ns ds bx => .ex c ns ds bx
  | .stuck => .stuck
def pureO {α : Type} (o : Option α) (b : Bag) : Out α := match o with
  | some a => .ok a b
  | none => .stuck
end Out

mutual
inductive DR (K : PySem.W.Frag) (ba : Option Addr) (S : Hp) : V → D → Prop
  | non : DR K ba S .non .non
  | bl (b : Bool) : DR K ba S (.bl b) (.bl b)
  | int (i : Int) : DR K ba S (.int i) (.int i)
  | str (x : Str) : DR K ba S (.str x) (.str x)
  | tup {a : Addr} {xs : List V} {ds : List D} : S a = some (.tup xs) → DRs K ba S xs ds → DR K ba S (.ref a) (.tup ds)
  | lst {a : Addr} {xs : List V} {ds : List D} : S a = some (.lst xs) → DRs K ba S xs ds → DR K ba S (.ref a) (.lst ds)
  | fl {a : Addr} {xs : List V} {ds : List D} : SqL K S a xs → DRs K ba S xs ds → DR K ba S (.ref a) (.fl ds)
  | ins {a C dx : Addr} {fs : List (Str × V)} {ns : List Str} {ds : List D} : S a = some (.ins C dx fs) → fs.map (·.1) = ns → DRs K ba S (fs.map (·.2)) ds → DR K ba S (.ref a) (.ins C ns ds)
  | obj (v : V) : DR K ba S v (.obj v)
  | bag {a : Addr} : ba = some a → DR K ba S (.ref a) .bag
  | dct {a : Addr} {o : Obj} {kvs : List (Key × V)} {ks : List Key} {ds : List D} : S a = some (.frz o (.dK kvs)) → kvs.map (·.1) = ks → DRs K ba S (kvs.map (·.2)) ds → DR K ba S (.ref a) (.dct ks ds)
  | dtp {a : Addr} {o : Obj} {kvs : List (List Key × V)} {ks : List (List Key)} {ds : List D} : S a = some (.frz o (.dT kvs)) → kvs.map (·.1) = ks → DRs K ba S (kvs.map (·.2)) ds → DR K ba S (.ref a) (.dtp ks ds)
inductive DRs (K : PySem.W.Frag) (ba : Option Addr) (S : Hp) : List V → List D → Prop
  | nil : DRs K ba S [] []
  | cons {v : V} {vs : List V} {d : D} {ds : List D} : DR K ba S v d → DRs K ba S vs ds → DRs K ba S (v :: vs) (d :: ds)
end

theorem seqT {K : PySem.W.Frag} {H H' : Hp} {a : Addr} {xs : List V} (e : Same H H') (h : H a = some (.tup xs)) : SqT K H' a xs := .inl (.inl (e _ _ h))
section
variable {K : PySem.W.Frag} {ba : Option Addr} {S S' : Hp}
mutual
theorem DR.mono (e : Same S S') : ∀ (d : D) (v : V), DR K ba S v d → DR K ba S' v d
  | .non, _, h => by cases h; exact .non
  | .bl _, _, h => by cases h; exact .bl _
  | .int _, _, h => by cases h; exact .int _
  | .str _, _, h => by cases h; exact .str _
  | .tup ds, _, h => by
    cases h with
    | tup h1 h2 => exact .tup (e _ _ h1) (DRs.mono e ds _ h2)
  | .lst ds, _, h => by
    cases h with
    | lst h1 h2 => exact .lst (e _ _ h1) (DRs.mono e ds _ h2)
  | .fl ds, _, h => by
    cases h with
    | fl h1 h2 => exact .fl (e.seq h1) (DRs.mono e ds _ h2)
  | .ins C ns ds, _, h => by
    cases h with
    | ins h1 h2 h3 => exact .ins (e _ _ h1) h2 (DRs.mono e ds _ h3)
  | .obj _, _, h => by cases h; exact .obj _
  | .bag, _, h => by
    cases h with
    | bag h1 => exact .bag h1
  | .dct ks ds, _, h => by
    cases h with
    | dct h1 h2 h3 => exact .dct (e _ _ h1) h2 (DRs.mono e ds _ h3)
  | .dtp ks ds, _, h => by
    cases h with
    | dtp h1 h2 h3 => exact .dtp (e _ _ h1) h2 (DRs.mono e ds _ h3)
theorem DRs.mono (e : Same S S') : ∀ (ds : List D) (vs : List V), DRs K ba S vs ds → DRs K ba S' vs ds
  | [], _, h => by cases h; exact .nil
  | d :: ds, _, h => by
    cases h with
    | cons h1 h2 => exact .cons (DR.mono e d _ h1) (DRs.mono e ds _ h2)
end
theorem DR.up {v : V} {d : D} (h : DR K ba S v d) (e : Same S S') : DR K ba S' v d := DR.mono e d v h
theorem DRs.up {vs : List V} {ds : List D} (h : DRs K ba S vs ds) (e : Same S S') : DRs K ba S' vs ds := DRs.mono e ds vs h
theorem DRs.length : ∀ {vs : List V} {ds : List D}, DRs K ba S vs ds → vs.length = ds.length
  | _, [], h => by cases h; rfl
  | _, d :: ds, h => by
    cases h with
    | cons _ h2 => simp [DRs.length h2]
end

/-- an object that is written, told -/
inductive ODR (K : PySem.W.Frag) (ba : Option Addr) (S : Hp) : HO → D → Prop
  | lst {xs : List V} {ds : List D} : DRs K ba S xs ds → ODR K ba S (.lst xs) (.lst ds)
  | ins {C dx : Addr} {fs : List (Str × V)} {ns : List Str} {ds : List D} : fs.map (·.1) = ns → DRs K ba S (fs.map (·.2)) ds → ODR K ba S (.ins C dx fs) (.ins C ns ds)
  | dct {kvs : List (Key × V)} {ks : List Key} {ds : List D} : kvs.map (·.1) = ks → DRs K ba S (kvs.map (·.2)) ds → ODR K ba S (.dK kvs) (.dct ks ds)
  | dtp {kvs : List (List Key × V)} {ks : List (List Key)} {ds : List D} : kvs.map (·.1) = ks → DRs K ba S (kvs.map (·.2)) ds → ODR K ba S (.dT kvs) (.dtp ks ds)
theorem ODR.up {K : PySem.W.Frag} {ba : Option Addr} {S S' : Hp} {u : HO} {d : D} (h : ODR K ba S u d) (e : Same S S') : ODR K ba S' u d := by
  cases h with
  | lst r => exact .lst (r.up e)
  | ins h r => exact .ins h (r.up e)
  | dct h r => exact .dct h (r.up e)
  | dtp h r => exact .dtp h (r.up e)
/-- how an object of ours stands once it is shared: dicts are locked -/
def lockU (o : Obj) : HO → HO
  | .dK kvs => .frz o (.dK kvs)
  | .dT kvs => .frz o (.dT kvs)
  | u => u
/-- a thing of ours is shared as it is, or it must be locked -/
theorem ODR.how {K : PySem.W.Frag} {ba : Option Addr} {S : Hp} {u : HO} {d : D} (h : ODR K ba S u d) : (∀ o, lockU o u = u) ∨ (Mut (some u) ∧ ∀ o, lockU o u = .frz o u) := by
  cases h with
  | lst r => exact .inl fun _ => rfl
  | ins h r => exact .inl fun _ => rfl
  | dct h r => exact .inr ⟨trivial, fun _ => rfl⟩
  | dtp h r => exact .inr ⟨trivial, fun _ => rfl⟩
/-- the tables that are told (a law's lambdas), the names of their code objects -/
class TabSet where
  T : List (Addr × Str)
/-- where no tables are spoken of -/
instance (priority := 10) noTabs : TabSet := ⟨[]⟩
variable [TB : TabSet]
/-- a heap without its tables -/
def noTb (S : Hp) : Hp := fun a => match S a with
  | some (.tbl _) => none
  | o => o
theorem noTb_of {S : Hp} {a : Addr} {o : HO} (h : noTb S a = some o) : S a = some o ∧ ∀ ps, o ≠ .tbl ps := by
  unfold noTb at h
  split at h
  · cases h
  · rename_i n
    exact ⟨h, fun ps e => n ps (by rw [h, e])⟩
theorem noTb_some {S : Hp} {a : Addr} {o : HO} (h : S a = some o) (n : ∀ ps, o ≠ .tbl ps) : noTb S a = some o := by
  unfold noTb
  split
  · rename_i ps q
    rw [h] at q
    cases q
    exact absurd rfl (n ps)
  · exact h
def NoTbl (H : Hp) : Prop := ∀ a ps, H a ≠ some (.tbl ps)
theorem noTbl_no {H : Hp} : NoTbl (noTb H) := fun a ps h => (noTb_of h).2 ps rfl
/-- neither a table nor a code object -/
def plainB : HO → Bool
  | .tbl _ => false
  | .ext _ => false
  | _ => true
theorem plain_tbl {u : HO} (h : plainB u = true) : ∀ ps, u ≠ .tbl ps := fun ps e => by subst e; cases h
theorem noTb_pl {S : Hp} {a : Addr} {o : HO} (h : S a = some o) (n : plainB o = true) : noTb S a = some o := noTb_some h (plain_tbl n)
theorem ODR.plain {K : PySem.W.Frag} {ba : Option Addr} {S : Hp} {u : HO} {d : D} (h : ODR K ba S u d) : plainB u = true := by
  cases h <;> rfl
theorem tabs_new {T : List (Addr × Str)} {H : Hp} {p : Addr} {z : HO} (t : LamX.Tabs T H) (h : H p = none) : LamX.Tabs T (upd H p z) := t.ext fun b o e => by
  rw [upd_ne (ne_of_none e h)]
  exact e
inductive SD where
  | sh (d : D)
  | ow (d : D)
abbrev Env := List (Option SD)

/-- at a def's entry: the heap, what is shared, the bag's address -/
structure Cq where
  H0 : Hp
  S0 : Hp
  ba : Option Addr

def BagOk (ba : Option Addr) (b : Bag) (S H : Hp) : Prop := ∀ a, ba = some a → H a = some (.lst [.int b.x, .int b.y, .int b.z]) ∧ S a = none

structure Core (C : Cq) (S : Hp) (b : Bag) (H : Hp) : Prop where
  sub : Same S H
  fr : ∀ a o, C.H0 a = some o → C.ba ≠ some a → H a = some o
  bag : BagOk C.ba b S H
  new : ∀ a o, S a = some o → C.S0 a = some o ∨ C.H0 a = none ∨ ∃ xs, o = .tup xs
  nt : NoTbl C.H0
  ns : NoTbl S
  tb : LamX.Tabs TB.T H

inductive Slots (K : PySem.W.Frag) (ba : Option Addr) (S H : Hp) : L2.St → Env → List Addr → Prop
  | nil : Slots K ba S H [] [] []
  | no {x : Option V} {σ : L2.St} {ρ : Env} {O : List Addr} : Slots K ba S H σ ρ O → Slots K ba S H (x :: σ) (none :: ρ) O
  | sh {v : V} {d : D} {σ : L2.St} {ρ : Env} {O : List Addr} : DR K ba S v d → Slots K ba S H σ ρ O → Slots K ba S H (some v :: σ) (some (.sh d) :: ρ) O
  | ow {p : Addr} {u : HO} {d : D} {σ : L2.St} {ρ : Env} {O : List Addr} : H p = some u → ODR K ba S u d → Slots K ba S H σ ρ O → Slots K ba S H (some (.ref p) :: σ) (some (.ow d) :: ρ) (p :: O)

structure Own (C : Cq) (S : Hp) (O : List Addr) : Prop where
  nd : O.Nodup
  al : ∀ p ∈ O, S p = none ∧ C.H0 p = none ∧ C.ba ≠ some p

structure OkS (K : PySem.W.Frag) (C : Cq) (S : Hp) (ρ : Env) (b : Bag) (σ : L2.St) (H : Hp) : Prop where
  core : Core C S b H
  sl : ∃ O, Slots K C.ba S H σ ρ O ∧ Own C S O

section
variable {K : PySem.W.Frag} {ba : Option Addr} {S S' H H' : Hp} {σ : L2.St} {ρ : Env} {O : List Addr}
theorem Slots.len (s : Slots K ba S H σ ρ O) : σ.length = ρ.length := by
  induction s with
  | nil => rfl
  | no _ ih => simp [ih]
  | sh _ _ ih => simp [ih]
  | ow _ _ _ ih => simp [ih]
theorem Slots.mono (s : Slots K ba S H σ ρ O) (e : Same S S') (k : ∀ p ∈ O, ∀ u, H p = some u → H' p = some u) : Slots K ba S' H' σ ρ O := by
  induction s with
  | nil => exact .nil
  | no _ ih => exact .no (ih k)
  | sh r _ ih => exact .sh (r.up e) (ih k)
  | ow h1 h2 _ ih => exact .ow (k _ (List.mem_cons_self) _ h1) (h2.up e) (ih fun p hp => k p (List.mem_cons_of_mem _ hp))
theorem Slots.there (s : Slots K ba S H σ ρ O) : ∀ p ∈ O, ∃ u, H p = some u := by
  induction s with
  | nil => intro p hp; cases hp
  | no _ ih => exact ih
  | sh _ _ ih => exact ih
  | ow h1 _ _ ih =>
    intro p hp
    rcases List.mem_cons.mp hp with e | hp
    · subst e; exact ⟨_, h1⟩
    · exact ih p hp
theorem ODR.nt {u : HO} {d : D} (r : ODR K ba S u d) (xs : List V) : u ≠ .tup xs := fun z => by
  subst z
  cases r
theorem Slots.thereO (s : Slots K ba S H σ ρ O) : ∀ p ∈ O, ∃ u, H p = some u ∧ ∀ xs, u ≠ .tup xs := by
  induction s with
  | nil => intro p hp; cases hp
  | no _ ih => exact ih
  | sh _ _ ih => exact ih
  | ow h1 h2 _ ih =>
    intro p hp
    rcases List.mem_cons.mp hp with e | hp
    · subst e; exact ⟨_, h1, h2.nt⟩
    · exact ih p hp
theorem Own.sub {C : Cq} {S : Hp} {O O' : List Addr} (w : Own C S O) (l : O'.Sublist O) : Own C S O' := ⟨w.nd.sublist l, fun p hp => w.al p (l.subset hp)⟩
end
end DL

set_option maxHeartbeats 4000000
namespace DL
open PySem PySem.Spec PyProof.Rows L2
variable [TB : TabSet]
section
variable {K : PySem.W.Frag} {C : Cq} {S S' H H' : Hp} {σ : L2.St} {ρ : Env} {b b' : Bag} {p : Addr} {u : HO}
theorem Core.h0 (o : Core C S b H) (hp : H p = none) : C.H0 p = none := by
  cases e : C.H0 p with
  | none => rfl
  | some x =>
    by_cases hb : C.ba = some p
    · rw [(o.bag p hb).1] at hp; cases hp
    · rw [o.fr p x e hb] at hp; cases hp
theorem Core.nba (o : Core C S b H) (hp : H p = none) : C.ba ≠ some p := fun hb => by
  rw [(o.bag p hb).1] at hp; cases hp
theorem Core.sn (o : Core C S b H) (hp : H p = none) : S p = none := o.sub.free hp
theorem Core.allocH (o : Core C S b H) (hp : H p = none) : Core C S b (upd H p u) := by
  refine ⟨fun a x e => ?_, fun a x e hb => ?_, fun a e => ?_, o.new, o.nt, o.ns, tabs_new o.tb hp⟩
  · have h := o.sub a x e
    rw [upd_ne (ne_of_none h hp)]; exact h
  · have h := o.fr a x e hb
    rw [upd_ne (ne_of_none h hp)]; exact h
  · obtain ⟨h1, h2⟩ := o.bag a e
    exact ⟨by rw [upd_ne (ne_of_none h1 hp)]; exact h1, h2⟩
/-- a fresh list of ours, not shared yet -/
structure OkF (K : PySem.W.Frag) (C : Cq) (S : Hp) (ρ : Env) (b : Bag) (σ : L2.St) (H : Hp) (p : Addr) (u : HO) : Prop where
  core : Core C S b H
  at_ : H p = some u
  sn : S p = none
  h0 : C.H0 p = none
  nba : C.ba ≠ some p
  sl : ∃ O, Slots K C.ba S H σ ρ O ∧ Own C S O ∧ p ∉ O
  pl : plainB u = true
theorem OkS.fresh (o : OkS K C S ρ b σ H) (hp : H p = none) (pu : plainB u = true := by rfl) : OkF K C S ρ b σ (upd H p u) p u := by
  obtain ⟨c, O, s, w⟩ := o
  have ne : ∀ q ∈ O, q ≠ p := fun q hq => by
    obtain ⟨vs, h⟩ := s.there q hq
    exact ne_of_none h hp
  exact ⟨c.allocH hp, upd_same, c.sn hp, c.h0 hp, c.nba hp, ⟨O, s.mono (Same.refl _) (fun q hq vs h => by rw [upd_ne (ne q hq)]; exact h), w, fun z => ne p z rfl⟩, pu⟩
theorem OkF.ok (o : OkF K C S ρ b σ H p u) : OkS K C S ρ b σ H := by
  obtain ⟨c, h1, h2, h3, h4, ⟨O, s, w, n⟩, pl⟩ := o
  exact ⟨c, O, s, w⟩
end

def XR (K : PySem.W.Frag) (ba : Option Addr) (S : Hp) (dx : Option Addr) (ns : List Str) (ds : List D) : Prop := match ns with
  | [] => dx = none
  | _ :: _ => ∃ a fs, dx = some a ∧ S a = some (.xd fs) ∧ fs.map (·.1) = ns ∧ DRs K ba S (fs.map (·.2)) ds
/-- an outcome, told: R of what comes, the bag, what is shared, the heap -/
def OutG (K : PySem.W.Frag) (C : Cq) (W : WX) (S : Hp) (ρ : Env) (σ : L2.St) {α : Type} (R : α → Bag → Hp → Hp → Prop) : Out α → Prop
  | .ok a b => ∀ S' H', Same S S' → OkS K C S' ρ b σ H' → R a b S' H'
  | .ex c ns ds bx => ∀ (dx : Option Addr) (S' H' : Hp) (b : Bag), Same S S' → OkS K C S' ρ b σ H' → XR K C.ba S' dx ns ds → b = bx → W (.ref (He.ga K c)) dx σ H'
  | .stuck => False
section
variable {K : PySem.W.Frag} {C : Cq} {W : WX} {S S1 : Hp} {ρ : Env} {σ : L2.St} {α β : Type}
theorem OutG.up {R : α → Bag → Hp → Hp → Prop} {o : Out α} (h : OutG K C W S ρ σ R o) (e : Same S S1) : OutG K C W S1 ρ σ R o := by
  cases o with
  | ok a b => exact fun S' H' e' => h S' H' (e.trans e')
  | ex c ns ds bx => exact fun dx S' H' b e' => h dx S' H' b (e.trans e')
  | stuck => exact h
theorem OutG.bind {R : β → Bag → Hp → Hp → Prop} {o : Out α} {k : α → Bag → Out β} (h : OutG K C W S ρ σ R (o.bind k)) : OutG K C W S ρ σ (fun a b S' _ => OutG K C W S' ρ σ R (k a b)) o := by
  cases o with
  | ok a b => exact fun S' H' e _ => OutG.up h e
  | ex c ns ds bx => exact h
  | stuck => exact h
theorem OutG.pureO {R : α → Bag → Hp → Hp → Prop} {o : Option α} {b : Bag} (h : OutG K C W S ρ σ R (Out.pureO o b)) : ∃ a, o = some a ∧ ∀ S' H', Same S S' → OkS K C S' ρ b σ H' → R a b S' H' := by
  cases o with
  | some a => exact ⟨a, rfl, h⟩
  | none => exact h.elim
end

abbrev EF := Env → Bag → Out D
abbrev AF := Env → Bag → Out (List D)

section
variable {X : Cx} {C : Cq} {W : WX} {e a b c : Expr} {pos : Pos} {F Fa Fb Fc : EF}
@[simp] def e2 (f : D → D → Option D) (Fa Fb : EF) : EF := fun ρ b => (Fa ρ b).bind fun x b1 => (Fb ρ b1).bind fun y b2 => Out.pureO (f x y) b2
def Op2 (K : PySem.W.Frag) (C : Cq) (r : R2) (f : D → D → Option D) : Prop := ∀ (S : Hp) (ρ : Env) (b : Bag) (σ : L2.St) (H : Hp) (v w : V) (d e z : D) (Q : VK), OkS K C S ρ b σ H → DR K C.ba S v d → DR K C.ba S w e → f d e = some z →
  (∀ u S' H', Same S S' → OkS K C S' ρ b σ H' → DR K C.ba S' u z → Q u H') → r v w H Q
variable {Ga Gb : BF} {rest : List Expr}
end
end DL

set_option maxHeartbeats 4000000
namespace DL
open PySem PySem.Spec PyProof.Rows L2
variable [TB : TabSet]
inductive SO where
  | nx (ρ : Env) (b : Bag)
  | rt (d : D) (b : Bag)
  | ro (d : D) (b : Bag)
  | bk (ρ : Env) (b : Bag)
  | ct (ρ : Env) (b : Bag)
  | ex (ρ : Env) (c : Str) (ns : List Str) (ds : List D) (bx : Bag)
  | stuck
def SOk (K : PySem.W.Frag) (C : Cq) (W : WX) (S : Hp) (E : Ends) : SO → Prop
  | .nx ρ b => ∀ S' σ H, Same S S' → OkS K C S' ρ b σ H → E.nx σ H
  | .rt d b => ∀ S' H v, Same S S' → Core C S' b H → DR K C.ba S' v d → E.rt v H
  | .ro d b => ∀ S' H p u, Same S S' → Core C S' b H → H p = some u → S' p = none → C.H0 p = none → C.ba ≠ some p → ODR K C.ba S' u d → E.rt (.ref p) H
  | .bk ρ b => ∀ S' σ H, Same S S' → OkS K C S' ρ b σ H → E.bk σ H
  | .ct ρ b => ∀ S' σ H, Same S S' → OkS K C S' ρ b σ H → E.ct σ H
  | .ex ρ c ns ds bx => ∀ (dx : Option Addr) S' σ H b, Same S S' → OkS K C S' ρ b σ H → XR K C.ba S' dx ns ds → b = bx → W (.ref (He.ga K c)) dx σ H
  | .stuck => False
/-- what an expression gives to a statement -/
def Out.st {α : Type} (o : Out α) (ρ : Env) (k : α → Bag → SO) : SO := match o with
  | .ok a b => k a b
  | .ex c ns ds bx => .ex ρ c ns ds bx
  | .stuck => .stuck
def SO.seq (o : SO) (k : Env → Bag → SO) : SO := match o with
  | .nx ρ b => k ρ b
  | .rt d b => .rt d b
  | .ro ds b => .ro ds b
  | .bk ρ b => .bk ρ b
  | .ct ρ b => .ct ρ b
  | .ex ρ c ns ds bx => .ex ρ c ns ds bx
  | .stuck => .stuck
section
variable {K : PySem.W.Frag} {C : Cq} {W : WX} {S S1 : Hp} {ρ : Env} {σ : L2.St} {E : Ends} {α : Type}
theorem SOk.up {o : SO} (h : SOk K C W S E o) (e : Same S S1) : SOk K C W S1 E o := by
  cases o with
  | nx ρ b => exact fun S' σ H e' => h S' σ H (e.trans e')
  | rt d b => exact fun S' H v e' => h S' H v (e.trans e')
  | ro ds b => exact fun S' H p vs e' => h S' H p vs (e.trans e')
  | bk ρ b => exact fun S' σ H e' => h S' σ H (e.trans e')
  | ct ρ b => exact fun S' σ H e' => h S' σ H (e.trans e')
  | ex ρ c ns ds bx => exact fun dx S' σ H b e' => h dx S' σ H b (e.trans e')
  | stuck => exact h
theorem SOk.st {o : Out α} {k : α → Bag → SO} (h : SOk K C W S E (o.st ρ k)) : OutG K C W S ρ σ (fun a b S' _ => SOk K C W S' E (k a b)) o := by
  cases o with
  | ok a b => exact fun S' H' e _ => SOk.up h e
  | ex c ns ds bx => exact fun dx S' H' b e o x => h dx S' σ H' b e o x
  | stuck => exact h
theorem SOk.seq {o : SO} {k : Env → Bag → SO} (h : SOk K C W S E (o.seq k)) : SOk K C W S { E with nx := fun σ H => ∃ S' ρ b, OkS K C S' ρ b σ H ∧ SOk K C W S' E (k ρ b) } o := by
  cases o with
  | nx ρ b => exact fun S' σ H e ok => ⟨S', ρ, b, ok, SOk.up h e⟩
  | rt d b => exact h
  | ro ds b => exact h
  | bk ρ b => exact h
  | ct ρ b => exact h
  | ex ρ c ns ds bx => exact h
  | stuck => exact h
end
end DL

set_option maxHeartbeats 400000
namespace DL
open PySem PySem.Spec PyProof.Rows L2
variable [TB : TabSet]
section
variable {K : PySem.W.Frag} {C : Cq} {S S' H H' : Hp} {σ : L2.St} {ρ : Env} {b b' : Bag}
def inner (C : Cq) (S H : Hp) : Cq := ⟨noTb H, S, C.ba⟩
theorem Core.inner (c : Core C S b H) : Core (DL.inner C S H) S b H := ⟨c.sub, fun _ _ e _ => (noTb_of e).1, c.bag, fun _ _ e => .inl e, noTbl_no, c.ns, c.tb⟩
theorem Core.h0t (c : Core C S b H) {a : Addr} (h : noTb H a = none) : C.H0 a = none := by
  cases q : C.H0 a with
  | none => rfl
  | some o =>
    have n : ∀ ps, o ≠ .tbl ps := fun ps z => c.nt a ps (by rw [q, z])
    by_cases hb : C.ba = some a
    · have z := noTb_some (c.bag a hb).1 (fun _ z => by cases z)
      rw [z] at h; cases h
    · have z := noTb_some (c.fr a o q hb) n
      rw [z] at h; cases h
theorem Core.outer (c : Core C S b H) (d : Core (DL.inner C S H) S' b' H') : Core C S' b' H' := by
  refine ⟨d.sub, fun a o e hb => d.fr a o (noTb_some (c.fr a o e hb) fun ps z => c.nt a ps (by rw [e, z])) hb, d.bag, fun a o e => ?_, c.nt, d.ns, d.tb⟩
  rcases d.new a o e with h | h | h
  · exact c.new a o h
  · exact .inr (.inl (c.h0t h))
  · exact .inr (.inr h)
theorem slots_odr {O : List Addr} {ba : Option Addr} (s : Slots K ba S H σ ρ O) : ∀ p ∈ O, ∃ u d, H p = some u ∧ ODR K ba S u d := by
  induction s with
  | nil => intro p hp; cases hp
  | no _ ih => exact ih
  | sh _ _ ih => exact ih
  | ow h1 h2 _ ih =>
    intro p hp
    rcases List.mem_cons.mp hp with rfl | hp
    · exact ⟨_, _, h1, h2⟩
    · exact ih p hp
theorem slots_pl {O : List Addr} {ba : Option Addr} (s : Slots K ba S H σ ρ O) {p : Addr} (hp : p ∈ O) {u : HO} (h : H p = some u) : noTb H p = some u := by
  obtain ⟨u', d, h1, r⟩ := slots_odr s p hp
  rw [h1] at h
  cases h
  exact noTb_pl h1 r.plain
theorem OkS.frame (o : OkS K C S ρ b σ H) (d : Core (DL.inner C S H) S' b' H') (e : Same S S') : OkS K C S' ρ b' σ H' := by
  obtain ⟨c, O, s, w⟩ := o
  refine ⟨c.outer d, O, s.mono e (fun p hp u h => d.fr p u (slots_pl s hp h) (w.al p hp).2.2), w.nd, fun p hp => ⟨?_, (w.al p hp).2⟩⟩
  cases q : S' p with
  | none => rfl
  | some u =>
    rcases d.new p u q with h | h | ⟨xs, h⟩
    · have z : S p = some u := h
      rw [(w.al p hp).1] at z; cases z
    · obtain ⟨u', hu⟩ := s.there p hp
      have z : noTb H p = none := h
      rw [slots_pl s hp hu] at z; cases z
    · obtain ⟨u', hu, nt⟩ := s.thereO p hp
      have z := d.sub _ _ q
      rw [d.fr p u' (slots_pl s hp hu) (w.al p hp).2.2, h] at z
      exact absurd (Option.some.inj z) (nt xs)
/-- without the owned -/
@[simp] def unown : Env → Env
  | [] => []
  | some (.ow _) :: ρ => none :: unown ρ
  | x :: ρ => x :: unown ρ
theorem Slots.unown {ba : Option Addr} : ∀ {σ : L2.St} {ρ : Env} {O : List Addr}, Slots K ba S H σ ρ O → Slots K ba S H σ (DL.unown ρ) []
  | _, _, _, .nil => .nil
  | _, _, _, .no s => .no (Slots.unown s)
  | _, _, _, .sh r s => .sh r (Slots.unown s)
  | _, _, _, .ow _ _ s => .no (Slots.unown s)
theorem OkS.inner (o : OkS K C S ρ b σ H) : OkS K (DL.inner C S H) S (DL.unown ρ) b σ H := by
  obtain ⟨c, O, s, w⟩ := o
  exact ⟨c.inner, [], s.unown, List.nodup_nil, fun _ h => by cases h⟩
end
def ItD (K : PySem.W.Frag) (ba : Option Addr) (J : It) (ds : List D) (S : Hp) : Prop := ∀ (C : Cq), C.ba = ba → ∀ (i : Nat) (S' : Hp) (ρ : Env) (b : Bag) (σ : L2.St) (H : Hp), Same S S' → OkS K C S' ρ b σ H →
  (∀ d, ds[i]? = some d → J.go i H ∧ ∀ x H', J.yld i H x H' → ∃ S2, Same S' S2 ∧ OkS K C S2 ρ b σ H' ∧ DR K ba S2 x d ∧ (∀ p u, H p = some u → H' p = some u)) ∧ (ds.length = i → J.stop i H)
theorem ItD.up {K : PySem.W.Frag} {ba : Option Addr} {J : It} {ds : List D} {S S1 : Hp} (h : ItD K ba J ds S) (e : Same S S1) : ItD K ba J ds S1 := fun C hC i S' ρ b σ H e' => h C hC i S' ρ b σ H (e.trans e')
end DL

set_option maxHeartbeats 1000000
namespace DL
open PySem PySem.Spec PyProof.Rows L2
variable [TB : TabSet]
def SO.out : SO → Out D
  | .rt d b => .ok d b
  | .nx _ b => .ok .non b
  | .ex _ c ns ds bx => .ex c ns ds bx
  | _ => .stuck
variable {Gd Gd' : Around → Prop}
structure FnG (P : Program) (w : World) (K : PySem.W.Frag) (mg : Str → Option Value) (base : Heap) (Gd : Around → Prop) (k : Nat) (f : Addr) (fd : FuncData) (ps : List Str) (sp : Sp) : Prop where
  many : ∀ vs H Q E, sp vs H Q E → vs.length = ps.length
  go : ∀ (A : Around) (fr : List PySem.Env) (s : Shared) (H : Hp) (ar : Args) (us : List Value) (vs : List V) (Q : VK) (E : XK), Room k A → Gd A → Env0 P w K mg base A fr s H → BindsTo s fd ar (ps.zip us) → Vals vs us → sp vs H Q E →
    codeAny (model P w) A (.call (.ref f) ar) (CR (L2.CX P w) fr P w H s Q E) s
section
variable {P : Program} {w : World} {K : PySem.W.Frag} {mg : Str → Option Value} {base : Heap} {k : Nat} {f : Addr} {fd : FuncData} {ps N : List Str} {sp : Sp}
theorem FnG.up {j : Nat} (F : FnG P w K mg base Gd j f fd ps sp) (h : j ≤ k) : FnG P w K mg base Gd k f fd ps sp := ⟨F.many, fun A fr s H ar us vs Q E r => F.go A fr s H ar us vs Q E (r.mono h)⟩
theorem FnG.body {x qual : Str} {st : Stmt} (F : Fun K x qual st f fd) (Sc : FnScope N ps (defScope st)) (many : ∀ vs H Q E, sp vs H Q E → vs.length = ps.length)
    (hb : ∀ (cdv : Value) (A : Around) (fr : List PySem.Env) (s : Shared) (H : Hp) (vs : List V) (Q : VK) (E : XK), Room k (A.deeper (envOfC qual (defScope st) s.heap.objs.size f cdv)) → Gd A → sp vs H Q E →
      ∃ t, PSs (cxOf (L2.CX P w) P w K mg base N qual (defScope st) f cdv A fr s H E) (defBody st) t ∧ t { nx := fun _ H' => Q .non H', rt := Q } (L2.start N vs) H) : FnG P w K mg base Gd (k + 1) f fd ps sp := by
  obtain ⟨oc, od, kV, doc, pm, an, cdv, ct, osl, rfl, lk, hc⟩ := F.ex
  refine ⟨many, fun A fr s H ar us vs Q E room hg e bt rv hs => ?_⟩
  have old : ∀ b o, base.get? b = some o → s.heap.get? b = some o := fun b o q => (e.bs b o q).1
  have kin := e.mod.kin.keeps old
  refine codeAny_call_function room.depth (kin f _ lk) rfl Sc.co Sc.gen rfl (PySem.W.codeRec_of kin hc) (bt _ _ _ _ (wpAny_newFunctionEnv_cells Sc.kind (fun y hy => ?_) fun env he s1 x => ?_))
  · have hm := (List.of_mem_zip (show (y.1, y.2) ∈ ps.zip us from hy)).1
    rcases Sc.par y.1 hm with q | q
    · exact Or.inl q
    · exact Or.inr ⟨q, PySem.W.cellsFrom_some _ _ _ (Or.inl q)⟩
  · subst he
    obtain ⟨t, ht, hq⟩ := hb cdv A fr s H vs Q E (room.deeper _) hg hs
    have start := inv_start (CX := L2.CX P w) (f := f) (qual := qual) (cd := cdv) (E := E) Sc room.hd e (many vs H Q E hs) rv x
    refine ⟨(e.mod.nolimit.keeps old).keeps x.toInCall.keep, codeAny_func (wpAny_mono (ht.run [] s1 _ H _ start hq) (fun fl s' z => ?_) fun _ _ z => z)⟩
    cases fl with
    | brk => obtain ⟨_, _, _, z⟩ := z; exact z.elim
    | cont => obtain ⟨_, _, _, z⟩ := z; exact z.elim
    | next => obtain ⟨_, H', J, z⟩ := z; exact ⟨V.non, H', J.os, J.bare, J.base, J.hok, rfl, z⟩
    | ret u => obtain ⟨v, _, H', J, r, z⟩ := z; exact ⟨v, H', J.os, J.bare, J.base, J.hok, r, z⟩
end
section
variable {X : Cx} {k : Nat} {f : Addr} {fd : FuncData} {ps : List Str} {sp : Sp} {pins : List (Addr × Obj)} {σ : L2.St} {H : Hp} {s : Shared} {Q : VK} {W : WX}
/-- what a code of ours ends with, seen from the caller -/
theorem end_of (tk : Takes X W) (I : Inv X pins σ H s) {r : Result} {s' : Shared} (h : CR (L2.CX X.prog X.w) X.stack X.prog X.w H s Q (fun c d H' => W c d σ H') r s') :
    (∃ u, r = .ok (.ret u) ∧ EP X pins σ Q u s') ∨ ∃ e, r = .error e ∧ X.xe e s' := by
  cases r with
  | error e => exact Or.inr ⟨e, rfl, tk e s' (XE.of_call I (fun _ _ _ z => z) h)⟩
  | ok fl =>
    cases fl with
    | ret u => exact Or.inl ⟨u, rfl, I.after h⟩
    | brk => exact False.elim h
    | cont => exact False.elim h
    | next => exact False.elim h
/-- the callee's run; bt says how what is passed comes to its parameters -/
theorem FnG.at_ (F : FnG X.prog X.w X.K X.mg X.base Gd k f fd ps sp) (room : Room k X.A) (hg : Gd X.A) (tk : Takes X W) (I : Inv X pins σ H s) {us : List Value} {kw : List (Str × Value)} {ws : List Value} {zs : List V} (bt : BindsTo s fd ⟨us, kw⟩ (ps.zip ws)) (r : Vals zs ws)
    (h : sp zs H Q (fun c d H' => W c d σ H')) : wpAny (model X.prog X.w) X.A (call (.ref f) us kw) (EP X pins σ Q) X.xe s := by
  refine wpAny_call (codeAny_mono (F.go X.A X.stack s H ⟨us, kw⟩ ws zs Q _ room hg I.env0 bt r h) fun r s' z => ?_)
  rcases end_of tk I z with ⟨u, rfl, q⟩ | ⟨e, rfl, q⟩
  · exact q
  · exact q
end
end DL

set_option maxHeartbeats 1000000
namespace DL
open PySem PySem.Spec PyProof.Rows L2
variable [TB : TabSet]
mutual
def D.pd : D → Option PyData
  | .non => some .none
  | .bl b => some (.bool b)
  | .int i => some (.int i)
  | .str x => some (.str x)
  | .tup ds => (pds ds).map .tuple
  | .lst ds => (pds ds).map .list
  | .fl ds => (pds ds).map .list
  | .ins _ _ _ => none
  | .obj _ => none
  | .bag => none
  | .dct _ _ => none
  | .dtp _ _ => none
def pds : List D → Option (List PyData)
  | [] => some []
  | d :: ds => match d.pd with
    | some p => (pds ds).map (p :: ·)
    | none => none
end
section
variable {K : PySem.W.Frag} {ba : Option Addr} {S H : Hp}
mutual
theorem DR.dp (e : Same S H) : ∀ (d : D) (v : V) (p : PyData), DR K ba S v d → d.pd = some p → Dp K H v p
  | .non, _, _, h, q => by
    simp only [D.pd, Option.some.injEq] at q
    subst q; cases h; exact .non
  | .bl _, _, _, h, q => by
    simp only [D.pd, Option.some.injEq] at q
    subst q; cases h; exact .bl _
  | .int _, _, _, h, q => by
    simp only [D.pd, Option.some.injEq] at q
    subst q; cases h; exact .int _
  | .str _, _, _, h, q => by
    simp only [D.pd, Option.some.injEq] at q
    subst q; cases h; exact .str _
  | .tup ds, _, _, h, q => by
    simp only [D.pd, Option.map_eq_some_iff] at q
    obtain ⟨ps, hp, rfl⟩ := q
    cases h with
    | tup h1 h2 => exact .tup (seqT e h1) (DRs.dp e ds _ _ h2 hp)
  | .lst ds, _, _, h, q => by
    simp only [D.pd, Option.map_eq_some_iff] at q
    obtain ⟨ps, hp, rfl⟩ := q
    cases h with
    | lst h1 h2 => exact .lst (SqL.of (e _ _ h1)) (DRs.dp e ds _ _ h2 hp)
  | .fl ds, _, _, h, q => by
    simp only [D.pd, Option.map_eq_some_iff] at q
    obtain ⟨ps, hp, rfl⟩ := q
    cases h with
    | fl h1 h2 => exact .lst (e.seq h1) (DRs.dp e ds _ _ h2 hp)
  | .ins _ _ _, _, _, _, q => by simp [D.pd] at q
  | .obj _, _, _, _, q => by simp [D.pd] at q
  | .bag, _, _, _, q => by simp [D.pd] at q
  | .dct _ _, _, _, _, q => by simp [D.pd] at q
  | .dtp _ _, _, _, _, q => by simp [D.pd] at q
theorem DRs.dp (e : Same S H) : ∀ (ds : List D) (vs : List V) (ps : List PyData), DRs K ba S vs ds → pds ds = some ps → DpAll K H vs ps
  | [], _, _, h, q => by
    simp only [pds, Option.some.injEq] at q
    subst q; cases h; exact .nil
  | d :: ds, _, _, h, q => by
    cases h with
    | cons h1 h2 =>
      unfold pds at q
      cases hd : d.pd with
      | none => rw [hd] at q; simp at q
      | some p =>
        rw [hd] at q
        simp only [Option.map_eq_some_iff] at q
        obtain ⟨ps', hp, rfl⟩ := q
        exact .cons (DR.dp e d _ _ h1 hd) (DRs.dp e ds _ _ h2 hp)
end
end
section
variable {X : Cx} {C : Cq} {W : WX} {e a b : Expr} {pos : Pos} {F Fa Fb : EF} {G : AF}
theorem i2 {K : PySem.W.Frag} {f : D → D → Option D} {Cc : Int → Int → Prop} {g : Int → Int → V} {g' : Int → Int → D} (hf : ∀ d e z, f d e = some z → ∃ i j, d = .int i ∧ e = .int j ∧ Cc i j ∧ z = g' i j) (hg : ∀ S i j, DR K C.ba S (g i j) (g' i j)) : Op2 K C (rI Cc g) f := by
  intro S ρ b σ H v w d e z Q ok r1 r2 hz q
  obtain ⟨i, j, rfl, rfl, hc, rfl⟩ := hf _ _ _ hz
  cases r1; cases r2
  exact ⟨i, j, rfl, rfl, hc, q _ S H (Same.refl _) ok (hg S i j)⟩
/-- a < b < c: both asked -/
@[simp] def e3 (f f' : D → D → Option D) (Fa Fb Fc : EF) : EF := fun ρ b => (Fa ρ b).bind fun x b1 => (Fb ρ b1).bind fun y b2 => match f x y with
  | some (.bl true) => (Fc ρ b2).bind fun z b3 => Out.pureO (f' y z) b3
  | some (.bl false) => .ok (.bl false) b2
  | _ => .stuck
@[simp] def e1 (f : D → Option D) (Fa : EF) : EF := fun ρ b => (Fa ρ b).bind fun x b1 => Out.pureO (f x) b1
end
end DL

set_option maxHeartbeats 1000000
namespace DL
open PySem PySem.Spec PyProof.Rows L2
variable [TB : TabSet]
section
variable {X : Cx} {C : Cq} {W : WX} {e a b : Expr} {pos : Pos} {F Fa Fb : EF} {G : AF}
@[simp] def Bag.ds (b : Bag) : List D := [.int b.x, .int b.y, .int b.z]
end
end DL

set_option maxHeartbeats 1000000
namespace DL
open PySem PySem.Spec PyProof.Rows L2
variable [TB : TabSet]
section
variable {X : Cx} {C : Cq} {W : WX} {st : Stmt} {e a b o : Expr} {es : List Expr} {pos apos cpos : Pos} {F Fa Fb : EF} {G : AF}
theorem OkF.frame {K : PySem.W.Frag} {S S' H H' : Hp} {ρ : Env} {b b' : Bag} {σ : L2.St} {p : Addr} {u : HO} (o : OkF K C S ρ b σ H p u) (d : Core (inner C S H) S' b' H') (es : Same S S') (nt : ∀ xs, u ≠ .tup xs := by first | (intro _ z; cases z; done) | (intro _ z; subst z; cases ‹ODR _ _ _ (.tup _) _›)) : OkF K C S' ρ b' σ H' p u := by
  obtain ⟨c, h1, h2, h3, h4, ⟨O, s, w, n⟩, pl⟩ := o
  have none_of : ∀ q u, S q = none → noTb H q = some u → C.ba ≠ some q → (∀ xs, u ≠ .tup xs) → S' q = none := fun q u hS hH hb nt => by
    cases z : S' q with
    | none => rfl
    | some v =>
      rcases d.new q v z with y | y | ⟨ys, y⟩
      · have y' : S q = some v := y
        rw [hS] at y'; cases y'
      · have y' : noTb H q = none := y
        rw [hH] at y'; cases y'
      · have y' := d.sub _ _ z
        rw [d.fr q u hH hb, y] at y'
        exact absurd (Option.some.inj y') (nt ys)
  refine ⟨c.outer d, d.fr p u (noTb_pl h1 pl) h4, none_of p u h2 (noTb_pl h1 pl) h4 nt, h3, h4, ⟨O, s.mono es (fun q hq v h => d.fr q v (slots_pl s hq h) (w.al q hq).2.2), ⟨w.nd, fun q hq => ⟨?_, (w.al q hq).2⟩⟩, n⟩, pl⟩
  obtain ⟨v, hv, nv⟩ := s.thereO q hq
  exact none_of q v (w.al q hq).1 (slots_pl s hq hv) (w.al q hq).2.2 nv
end
end DL

set_option maxHeartbeats 2000000

set_option maxHeartbeats 1000000

set_option maxHeartbeats 1000000

set_option maxHeartbeats 1000000
namespace DL
open PySem PySem.Spec PyProof.Rows L2
variable [TB : TabSet]
section
variable {K : PySem.W.Frag} {C : Cq} {S S' H H' : Hp} {ρ : Env} {b : Bag} {σ : L2.St} {p : Addr} {u u' : HO}
/-- what was run in an inner run, its names otherwise, is ours again -/
theorem OkF.again {ρ' : Env} {b' : Bag} {σ' : L2.St} (o : OkF K C S ρ b σ H p u) (d : OkS K (inner C S H) S' ρ' b' σ' H') (nt : ∀ xs, u ≠ .tup xs := by first | (intro _ z; cases z; done) | (intro _ z; subst z; cases ‹ODR _ _ _ (.tup _) _›)) : OkF K C S' ρ' b' σ' H' p u := by
  obtain ⟨c, h1, h2, h3, h4, ⟨O, s, w, n⟩, pl⟩ := o
  obtain ⟨dc, O', s', w'⟩ := d
  have sp' : S' p = none := by
    cases z : S' p with
    | none => rfl
    | some v =>
      rcases dc.new p v z with y | y | ⟨ys, y⟩
      · have y' : S p = some v := y
        rw [h2] at y'; cases y'
      · have y' : noTb H p = none := y
        rw [noTb_pl h1 pl] at y'; cases y'
      · have y' := dc.sub _ _ z
        rw [dc.fr p u (noTb_pl h1 pl) h4, y] at y'
        exact absurd (Option.some.inj y') (nt ys)
  have hin : ∀ q ∈ O', noTb H q = none := fun q hq => (w'.al q hq).2.1
  refine ⟨c.outer dc, dc.fr p u (noTb_pl h1 pl) h4, sp', h3, h4, ⟨O', s', ⟨w'.nd, fun q hq => ⟨(w'.al q hq).1, ?_, (w'.al q hq).2.2⟩⟩, fun z => ?_⟩, pl⟩
  · exact c.h0t (hin q hq)
  · have y := noTb_pl h1 pl
    rw [hin p z] at y; cases y
end
abbrev IO := Out (List Str × List D)
def IOk (K : PySem.W.Frag) (C : Cq) (W : WX) (A x : Addr) (S : Hp) (E : Ends) : IO → Prop
  | .ok z b => ∀ S' σ H dx fs, Same S S' → Core C S' b H → H x = some (.ins A dx fs) → S' x = none → fs.map (·.1) = z.1 → DRs K C.ba S' (fs.map (·.2)) z.2 → E.nx σ H
  | .ex c ns ds bx => ∀ (dx : Option Addr) S' σ H b, Same S S' → Core C S' b H → XR K C.ba S' dx ns ds → b = bx → W (.ref (He.ga K c)) dx σ H
  | .stuck => False
theorem IOk.up {K : PySem.W.Frag} {C : Cq} {W : WX} {A x : Addr} {S S1 : Hp} {E : Ends} {o : IO} (h : IOk K C W A x S E o) (e : Same S S1) : IOk K C W A x S1 E o := by
  cases o with
  | ok z b => exact fun S' σ H dx fs e' => h S' σ H dx fs (e.trans e')
  | ex c ns ds bx => exact fun dx S' σ H b e' => h dx S' σ H b (e.trans e')
  | stuck => exact h
end DL

set_option maxHeartbeats 1000000
namespace DL
open PySem PySem.Spec PyProof.Rows L2
variable [TB : TabSet]
section
variable {X : Cx} {C : Cq} {W : WX} {st : Stmt} {e a b c o tg l : Expr} {es : List Expr} {pos apos cpos : Pos} {F Fa Fb Fc : EF} {G : AF}
theorem OkF.allocH {K : PySem.W.Frag} {S H : Hp} {ρ : Env} {b : Bag} {σ : L2.St} {p q : Addr} {u t : HO} (o : OkF K C S ρ b σ H p u) (hq : H q = none) : OkF K C S ρ b σ (upd H q t) p u := by
  obtain ⟨c, h1, h2, h3, h4, ⟨O, s, w, n⟩, pl⟩ := o
  refine ⟨c.allocH hq, ?_, h2, h3, h4, ⟨O, s.mono (Same.refl _) (fun r hr v h => ?_), w, n⟩, pl⟩
  · rw [upd_ne (ne_of_none h1 hq)]; exact h1
  · rw [upd_ne (ne_of_none h hq)]; exact h
end
end DL

set_option maxHeartbeats 1000000
namespace DL
open PySem PySem.Spec PyProof.Rows L2
variable [TB : TabSet]
structure QD where
  at_ : PySem.W.Frag → Addr
  name : Str
  qual : Str
  st : Stmt
def fnV (K : PySem.W.Frag) (a : Addr) : He.FnW := match K.lookup a with
  | some ⟨_, _, .func fd, _⟩ => some (fd.name, fd.qualname, fd.params, fd.body, fd.scope, fd.globals, fd.closure, fd.builtins)
  | _ => none
def QD.val (d : QD) : He.FnW := some (d.name, d.qual, defArgs d.st, .stmts (defBody d.st), defScope d.st, mainGlobals, [], builtinsNs)
def noneV : Value → Bool
  | .none => true
  | _ => false
def QD.ok (K : PySem.W.Frag) (d : QD) : Bool := PySem.W.keepIn K (.ref (d.at_ K)) && (match K.lookup (d.at_ K) with
  | some ⟨_, _, .func fd, _⟩ => PySem.W.codeIn K fd.code d.qual && noneV fd.defaults
  | _ => false)
abbrev QA : Type := Bool × List He.FnW
def obK (fn : List QD) (ex : PySem.W.Frag → Bool) (K : PySem.W.Frag) : QA := (ex K && fn.all fun d => d.ok K, fn.map fun d => fnV K (d.at_ K))
def vaK (fn : List QD) : QA := (true, fn.map QD.val)
end DL

set_option maxHeartbeats 1000000

set_option maxHeartbeats 1000000
namespace DL
open PySem PySem.Spec PyProof.Rows L2
variable [TB : TabSet]
def topI : Int → List Int → Int
  | m, [] => m
  | m, i :: is => topI (if m < i then i else m) is
end DL

set_option maxHeartbeats 1000000

set_option maxHeartbeats 1000000
namespace DL
open PySem PySem.Spec PyProof.Rows L2
variable [TB : TabSet]
section
variable {X : Cx} {C : Cq} {W : WX} {o e a b : Expr} {es : List Expr} {pos apos cpos p : Pos} {F Fa Fb : EF} {G : AF} {st : Stmt}
@[simp] def isNF : D → Option D
  | .obj _ => none
  | .non => some (.bl true)
  | _ => some (.bl false)
end
end DL

set_option maxHeartbeats 1000000

set_option maxHeartbeats 2000000

set_option maxHeartbeats 1000000

set_option maxHeartbeats 2000000

set_option maxHeartbeats 2000000

set_option maxHeartbeats 1000000

set_option maxHeartbeats 1000000
namespace DL
open PySem PySem.Spec PyProof.Rows L2
variable [TB : TabSet]
@[simp] def isN2 (d e : D) : Option D := match e with
  | .non => isNF d
  | _ => none
@[simp] def notN2 (d e : D) : Option D := match e with
  | .non => (match isNF d with
    | some (.bl k) => some (.bl (!k))
    | _ => none)
  | _ => none
end DL

set_option maxHeartbeats 1000000

set_option maxHeartbeats 1000000

set_option maxHeartbeats 1000000
namespace DL
open PySem PySem.Spec PyProof.Rows L2
variable [TB : TabSet]
section
variable {K : PySem.W.Frag} {C : Cq} {ba : Option Addr} {S S' H H' : Hp} {b b' : Bag}
theorem Slots.append {σ' : L2.St} {ρ' : Env} {O' : List Addr} : ∀ {σ : L2.St} {ρ : Env} {O : List Addr}, Slots K ba S H σ ρ O → Slots K ba S H σ' ρ' O' → Slots K ba S H (σ ++ σ') (ρ ++ ρ') (O ++ O')
  | _, _, _, .nil, h' => h'
  | _, _, _, .no s, h' => .no (Slots.append s h')
  | _, _, _, .sh r s, h' => .sh r (Slots.append s h')
  | _, _, _, .ow h1 h2 s, h' => .ow h1 h2 (Slots.append s h')
theorem Slots.split {σ' : L2.St} {ρ' : Env} : ∀ {σ : L2.St} {ρ : Env} {O : List Addr}, σ.length = ρ.length → Slots K ba S H (σ ++ σ') (ρ ++ ρ') O → ∃ O1 O2, O = O1 ++ O2 ∧ Slots K ba S H σ ρ O1 ∧ Slots K ba S H σ' ρ' O2
  | [], [], O, _, h => ⟨[], O, rfl, .nil, h⟩
  | [], _ :: _, _, hl, _ => by simp at hl
  | _ :: _, [], _, hl, _ => by simp at hl
  | x :: σ, y :: ρ, O, hl, h => by
    have hl2 : σ.length = ρ.length := by simpa using hl
    rw [List.cons_append, List.cons_append] at h
    cases h with
    | no s =>
      obtain ⟨O1, O2, e, h1, h2⟩ := Slots.split hl2 s
      exact ⟨O1, O2, e, .no h1, h2⟩
    | sh r s =>
      obtain ⟨O1, O2, e, h1, h2⟩ := Slots.split hl2 s
      exact ⟨O1, O2, e, .sh r h1, h2⟩
    | ow g1 g2 s =>
      obtain ⟨O1, O2, e, h1, h2⟩ := Slots.split hl2 s
      exact ⟨_ :: O1, O2, by rw [e]; rfl, .ow g1 g2 h1, h2⟩
end
section
variable {X : Cx} {C : Cq} {W : WX} {st : Stmt}
theorem OkS.len {K : PySem.W.Frag} {S H : Hp} {ρ : Env} {b : Bag} {σ : L2.St} (o : OkS K C S ρ b σ H) : σ.length = ρ.length := by
  obtain ⟨c, O, s, w⟩ := o
  exact s.len
end
end DL

set_option maxHeartbeats 1000000

set_option maxHeartbeats 1000000

set_option maxHeartbeats 1000000

set_option maxHeartbeats 1000000

set_option maxHeartbeats 1000000

set_option maxHeartbeats 4000000
namespace SrtO
open PySem PyProof.Rows Srt
section
variable {prog : Program} {w : World} {A : Around} {E : Value → Shared → Prop} {s : Shared}
def IsPairS (h : Heap) (v : Value) (x : PySem.Str) (y : Int) : Prop := ∃ a o t u n, v = .ref a ∧ h.get? a = some o ∧ o.cls = .type "tuple" ∧ o.data = .seq #[.str x t, .int y u] n
theorem IsPairS.keeps {h h' : Heap} {v : Value} {x : PySem.Str} {y : Int} (p : IsPairS h v x y) (k : ∀ b o, h.get? b = some o → o.cls = .type "tuple" → h'.get? b = some o) : IsPairS h' v x y := by
  obtain ⟨a, o, t, u, n, e, ho, hc, hd⟩ := p
  exact ⟨a, o, t, u, n, e, k _ _ ho hc, hc, hd⟩
def lexT (p q : PySem.Str × Int) : Bool := if p.1 = q.1 then decide (p.2 < q.2) else decide (p.1.cps.toList < q.1.cps.toList)
end
end SrtO

set_option maxHeartbeats 1000000
namespace DL
open PySem PySem.Spec PyProof.Rows L2
variable [TB : TabSet]
open SrtO (lexT Swo Stb Srtd)
/-- what stands behind the items -/
inductive ItT (K : PySem.W.Frag) (H : Hp) : List V → List (Str × Int) → Prop
  | nil : ItT K H [] []
  | cons {t : Addr} {p : Str × Int} {vs : List V} {l : List (Str × Int)} : SqT K H t [.str p.1, .int p.2] → ItT K H vs l → ItT K H (.ref t :: vs) (p :: l)
open Classical in
noncomputable def keyOf (K : PySem.W.Frag) (H : Hp) (v : V) : Str × Int := if h : ∃ (p : Str × Int) (t : Addr), v = .ref t ∧ SqT K H t [.str p.1, .int p.2] then h.choose else ("", 0)
theorem ItT.all {K : PySem.W.Frag} {H : Hp} : ∀ {vs : List V} {l : List (Str × Int)}, ItT K H vs l → (∀ v ∈ vs, ∃ (p : Str × Int) (t : Addr), v = .ref t ∧ SqT K H t [.str p.1, .int p.2])
  | _, _, .nil => fun v h => by cases h
  | _, _, .cons h r => fun v hv => by
    rcases List.mem_cons.mp hv with rfl | hv
    · exact ⟨_, _, rfl, h⟩
    · exact r.all v hv
theorem ItT.of {K : PySem.W.Frag} {H : Hp} : ∀ (ys : List V), (∀ v ∈ ys, ∃ t, v = .ref t ∧ SqT K H t [.str (keyOf K H v).1, .int (keyOf K H v).2]) → ItT K H ys (ys.map (keyOf K H))
  | [], _ => .nil
  | y :: ys, h => by
    have h1 := h y List.mem_cons_self
    have h2 := ItT.of ys fun v hv => h v (List.mem_cons_of_mem _ hv)
    obtain ⟨t, e, h1⟩ := h1
    rw [List.map_cons]
    generalize keyOf K H y = p at h1 ⊢
    subst e
    exact .cons h1 h2
end DL

set_option maxHeartbeats 1000000

set_option maxHeartbeats 2000000

set_option maxHeartbeats 1000000

set_option maxHeartbeats 1000000

set_option maxHeartbeats 1000000

set_option maxHeartbeats 1000000

set_option maxHeartbeats 1000000

set_option maxHeartbeats 2000000
namespace LzZ
open PySem PySem.Spec PyProof.Rows L2 PySem.W
section
variable {prog : Program} {w : World} {A : Around} {E : Value → Shared → Prop} {s : Shared} {z TI TO i1 i2 T : Addr} {fp1 fp2 : List Addr} {n1 n2 i : Nat} {P1 P2 : Nat → Value → Prop} {St1 St2 : Nat → Heap → Prop} {a1 a2 : Value} {f : Bool} {oT : Obj}
def ZSt (z TI TO i1 i2 L : Addr) (St1 St2 : Nat → Heap → Prop) (i : Nat) (h : Heap) : Prop :=
  IsTupOf2 h TI (.ref i1) (.ref i2) ∧ St1 i h ∧ St2 i h ∧ ((IsZip h z TI TO .none ∧ ∃ a b, IsTupOf2 h TO a b) ∨ ∃ T f oT, IsZipHeld h z TI TO T f ∧ h.get? T = some oT ∧ T ≠ z ∧ T ≠ i1 ∧ T ≠ i2 ∧ T ≠ L)
structure Off (z TI TO : Addr) (fp1 fp2 : List Addr) (L : Addr) : Prop where
  z : L ≠ z
  TI : L ≠ TI
  TO : L ≠ TO
  f1 : L ∉ fp1
  f2 : L ∉ fp2
theorem ZSt.keep {L : Addr} {h h' : Heap} (D1 : Draws prog w A.in1 i1 fp1 n1 P1 St1) (D2 : Draws prog w A.in1 i2 fp2 n2 P2 St2) (o : Off z TI TO fp1 fp2 L) (x : ZSt z TI TO i1 i2 L St1 St2 i h) (hk : ∀ b o, b ≠ L → h.get? b = some o → h'.get? b = some o) : ZSt z TI TO i1 i2 L St1 St2 i h' := by
  obtain ⟨hTI, s1, s2, hz⟩ := x
  refine ⟨hk _ _ o.TI.symm hTI, D1.frame _ _ _ s1 fun b hb u e => hk b u (fun q => o.f1 (q ▸ hb)) e, D2.frame _ _ _ s2 fun b hb u e => hk b u (fun q => o.f2 (q ▸ hb)) e, ?_⟩
  rcases hz with ⟨hz, a, b, hTO⟩ | ⟨T, f, oT, hz, hT, r1, r2, r3, r4⟩
  · exact .inl ⟨hk _ _ o.z.symm hz, a, b, hk _ _ o.TO.symm hTO⟩
  · exact .inr ⟨T, f, oT, hk _ _ o.z.symm hz, hk _ _ r4 hT, r1, r2, r3, r4⟩
end
/-- the tuples that were made -/
structure Made (P1 P2 : Nat → Value → Prop) (lo : Addr) (h : Heap) (as : List Addr) : Prop where
  rise : as.Pairwise (· < ·)
  above : ∀ a ∈ as, lo ≤ a
  pairs : ∀ (j : Nat) (a : Addr), as[j]? = some a → ∃ x y, P1 j x ∧ P2 j y ∧ IsTupOf2 h a x y
theorem Made.there {P1 P2 : Nat → Value → Prop} {lo : Addr} {h : Heap} {as : List Addr} (g : Made P1 P2 lo h as) {a : Addr} (ha : a ∈ as) : a < h.objs.size := by
  obtain ⟨j, hj⟩ := List.mem_iff_getElem?.mp ha
  obtain ⟨_, _, _, _, e⟩ := g.pairs j a hj
  exact Heap.lt_size e
end LzZ

set_option maxHeartbeats 2000000

set_option maxHeartbeats 2000000

set_option maxHeartbeats 1000000

set_option maxHeartbeats 1000000

set_option maxHeartbeats 1000000

set_option maxHeartbeats 1000000

set_option maxHeartbeats 1000000

set_option maxHeartbeats 1000000
namespace DL
open PySem PySem.Spec PyProof.Rows L2
variable [TB : TabSet]
def excO (K : PySem.W.Frag) (C : Addr) : Bool := match K.lookup C with
  | some ⟨.type "type", _, .cls cd, sl⟩ => (match cd.mro, sl.toList with
    | .ref C' :: bm, [_, _, _, _, some (.builtin n), _] => C' == C && (n == "ValueError.__new__" && (!cd.hasDel && (cd.hasDict && PySem.HandSPX.refsVE bm)))
    | _, _ => false)
  | _ => false
def excB (K : PySem.W.Frag) (x f : Str) : Bool := excO K (He.ga K x) && (He.eqO (PySem.W.findIn K (.ref (He.ga K x)) "__setattr__") (some (some (.builtin "object.__setattr__"))) && (decide (PySem.W.subIn K (.ref (He.ga K x)) (.type "BaseException") = some true) && (decide (PySem.W.typeIn K (.ref (He.ga K x)) = some (.type "type")) && (PySem.W.keepIn K (.ref (He.ga K x)) &&
  (He.eqO (PySem.W.findIn K (.ref (He.ga K x)) "__init__") (some (some (.ref (He.ma K (He.ga K x) "__init__")))) && (decide (PySem.W.typeIn K (.ref (He.ma K (He.ga K x) "__init__")) = some (.type "function")) && He.eqO (PySem.W.findIn K (.ref (He.ga K x)) f) (some none)))))))
end DL

set_option maxHeartbeats 1000000

set_option maxHeartbeats 2000000

set_option maxHeartbeats 2000000

set_option maxHeartbeats 2000000

set_option maxHeartbeats 2000000

set_option maxHeartbeats 2000000

set_option maxHeartbeats 2000000

set_option maxHeartbeats 2000000

set_option maxHeartbeats 2000000

set_option maxHeartbeats 2000000

set_option maxHeartbeats 2000000

set_option maxHeartbeats 2000000

set_option maxHeartbeats 2000000

set_option maxHeartbeats 2000000

set_option maxHeartbeats 2000000

set_option maxHeartbeats 2000000

set_option maxHeartbeats 2000000

set_option maxHeartbeats 2000000

set_option maxHeartbeats 2000000

set_option maxHeartbeats 2000000

set_option maxHeartbeats 2000000

set_option maxHeartbeats 2000000

set_option maxHeartbeats 2000000

set_option maxHeartbeats 2000000

set_option maxHeartbeats 2000000

set_option maxHeartbeats 2000000

set_option maxHeartbeats 2000000

set_option maxHeartbeats 2000000

set_option maxHeartbeats 2000000

set_option maxHeartbeats 2000000

set_option maxHeartbeats 2000000

set_option maxHeartbeats 2000000

set_option maxHeartbeats 2000000

set_option maxHeartbeats 1000000

set_option maxHeartbeats 2000000

set_option maxHeartbeats 1000000

set_option maxHeartbeats 2000000

set_option maxHeartbeats 2000000

set_option maxHeartbeats 1000000

set_option maxHeartbeats 1000000

set_option maxHeartbeats 1000000
namespace DL
open PySem PySem.Spec PyProof.Rows L2
variable [TB : TabSet]
/-- what the body's run asks of the heap -/
structure LamH (h : Heap) (mg : Str → Option Value) : Prop where
  glob : h.Ns mainGlobals mg
  blt : ∃ mb, h.Ns builtinsNs mb ∧ ∀ x : Str, x ≠ "__name__" → mb x = bootBuiltins x
  lim : h.NoLimit
section
variable {prog : Program} {w : World} {A : Around} {E : Value → Shared → Prop} {s : Shared} {K : PySem.W.Frag} {mg mb : Str → Option Value}
theorem LamH.keeps {h h' : Heap} (l : LamH h mg) (k : ∀ b o, h.get? b = some o → h'.get? b = some o) : LamH h' mg := by
  obtain ⟨g, ⟨mb, b1, b2⟩, n⟩ := l
  exact ⟨g.keeps k, ⟨mb, b1.keeps k, b2⟩, n.keeps k⟩
end
end DL

set_option maxHeartbeats 1000000

set_option maxHeartbeats 1000000
namespace DL
open PySem PySem.Spec PyProof.Rows L2
def codeAt (K : PySem.W.Frag) (f : Addr) : Value := match K.lookup f with
  | some ⟨_, _, .func fd, _⟩ => fd.code
  | _ => .none
def refOf : Value → Addr
  | .ref c => c
  | _ => 0
/-- code objects and their tables; the tables' names -/
def cTs (tf : List QD) (K : PySem.W.Frag) : List (Addr × Addr) := tf.map fun d => (refOf (codeAt K (d.at_ K)), He.tabOf K (refOf (codeAt K (d.at_ K))))
def tTs (tf : List QD) (K : PySem.W.Frag) : List (Addr × Str) := tf.map fun d => (He.tabOf K (refOf (codeAt K (d.at_ K))), (d.qual ++ ".<locals>.") ++ "<lambda>")
def isRef : Value → Bool
  | .ref _ => true
  | _ => false
def tabG (g : Addr → Option Obj) (P : Addr) : Bool := match g P with
  | some o => He.emptyTab o
  | none => false
def tabsB (g : Addr → Option Obj) (tf : List QD) (K : PySem.W.Frag) : Bool := (tf.all fun d => isRef (codeAt K (d.at_ K))) && (((cTs tf K).all fun p => PySem.W.codeHdIn K p.1 p.2 && tabG g p.2) && (tTs tf K).all fun p => (tTs tf K).all fun q => !decide (p.1 = q.1) || decide (p.2 = q.2))
/-- what is told of the tables -/
structure TabsAre (tf : List QD) (K : PySem.W.Frag) (h : Heap) : Prop where
  ref : ∀ d ∈ tf, isRef (codeAt K (d.at_ K)) = true
  hd : ∀ p ∈ cTs tf K, PySem.W.codeHdIn K p.1 p.2 = true
  out : ∀ p ∈ cTs tf K, K.lookup p.2 = none
  emp : ∀ p ∈ cTs tf K, h.get? p.2 = some { cls := .none, data := .fields #[] }
  one : ∀ p ∈ tTs tf K, ∀ q ∈ tTs tf K, p.1 = q.1 → p.2 = q.2
abbrev QAT : Type := QA × Bool
def obT (as : List Addr) (fn tf : List QD) (ex : PySem.W.Frag → Bool) (g : Addr → Option Obj) : QAT := (obK fn ex (He.frT g as), tabsB g tf (He.frT g as))
def vaT (fn : List QD) : QAT := (vaK fn, true)
theorem tabs_are {as : List Addr} {tf : List QD} {h : Heap} (e : tabsB h.get? tf (He.frT h.get? as) = true) : TabsAre tf (He.frT h.get? as) h := by
  unfold tabsB at e
  simp only [Bool.and_eq_true, List.all_eq_true, Bool.or_eq_true, Bool.not_eq_true', decide_eq_true_eq, decide_eq_false_iff_not] at e
  obtain ⟨e1, e2, e3⟩ := e
  have at_ : ∀ p ∈ cTs tf (He.frT h.get? as), ∃ o, h.get? p.2 = some o ∧ He.emptyTab o = true := fun p hp => by
    have z := (e2 p hp).2
    unfold tabG at z
    cases q : h.get? p.2 with
    | none => rw [q] at z; cases z
    | some o => rw [q] at z; exact ⟨o, rfl, z⟩
  refine ⟨e1, fun p hp => (e2 p hp).1, fun p hp => ?_, fun p hp => ?_, fun p hp q hq hpq => ?_⟩
  · obtain ⟨o, q, z⟩ := at_ p hp
    exact He.frT_none q z
  · obtain ⟨o, q, z⟩ := at_ p hp
    rw [q, He.emptyTab_eq z]
  · rcases e3 p hp q hq with z | z
    · exact absurd hpq z
    · exact z
def hookT (as : List Addr) (fn tf : List QD) (ex : PySem.W.Frag → Bool) : PySem.W.Hook where
  α := QAT
  obs := fun s => obT as fn tf ex s.heap.get?
  val := fun _ => vaT fn
  says := fun _ h => ∃ K : PySem.W.Frag, K.In h ∧ obK fn ex K = vaK fn ∧ TabsAre tf K h
  of := fun _ _ e => ⟨_, He.frT_in, congrArg (fun z : QAT => z.1) e, tabs_are (congrArg (fun z : QAT => z.2) e)⟩
  keeps := fun _ _ _ ⟨K, h, c, t⟩ k => ⟨K, PySem.W.Frag.In.keeps h k, c, t.ref, t.hd, t.out, fun p hp => k _ _ (t.emp p hp), t.one⟩
end DL

set_option maxHeartbeats 1000000

set_option maxHeartbeats 1000000

set_option maxHeartbeats 2000000

set_option maxHeartbeats 2000000

set_option maxHeartbeats 2000000

set_option maxHeartbeats 2000000

set_option maxHeartbeats 2000000
namespace DL
open PySem PySem.Spec PyProof.Rows L2
variable [TB : TabSet]
def qV (K : PySem.W.Frag) : Sum Str String → Value
  | .inl x => .ref (He.ga K x)
  | .inr t => .type t
def exccB (K : PySem.W.Frag) (D : Addr) : Bool := decide (PySem.W.findIn K (.ref D) "__getattribute__" = some (some (.builtin "BaseException.__getattribute__"))) && (decide (PySem.W.findIn K (.ref D) "__getattr__" = some none) && (decide (PySem.W.subIn K (.ref D) (.type "BaseException") = some true) && (PySem.W.hasDictIn K D &&
  (decide (PySem.W.findIn K (.ref D) "__class__" = some (some (.builtin "object.__class__"))) && (decide (PySem.W.specialIn K (.builtin "object.__class__") "__get__" = some (some (.builtin "getset_descriptor.__get__"))) && (decide (PySem.W.takesIn K (.builtin "object.__class__") = some true) && decide (PySem.W.mroIn K D (.type "object") = some true)))))))
def errB (K : PySem.W.Frag) (cs : List Str) (qs : List (Sum Str String)) (n c : Str) (fl : List Bool) : Bool := exccB K (He.ga K c) && (decide (PySem.W.findIn K (.ref (He.ga K c)) n = some none) && (decide (PySem.W.exmAny K (.ref (He.ga K c)) (cs.map fun x => .ref (He.ga K x)) = some true) && (List.range qs.length).all fun i => match qs[i]? with
  | some q => decide (PySem.W.kitOne K (.ref (He.ga K c)) (qV K q) = some (fl.getD i false))
  | none => true))
end DL

set_option maxHeartbeats 2000000

set_option maxHeartbeats 2000000
namespace DL
open PySem PySem.Spec PyProof.Rows L2
variable [TB : TabSet]
def top (i : Nat) : Stmt := PySem.Challenge.pw_guardhopes_k35_errors_of_kinds_and_parts.main.body.getD i (.Pass ⟨0, 0, 0, 0⟩)
section
variable {P : Program} {w : World} {K : PySem.W.Frag} {mg : Str → Option Value} {base : Heap} {M fa : Addr} {fd : FuncData}
abbrev s_state_row : Stmt := (top 21)
abbrev s_Machine_str_ : Stmt := (inClass (top 24) 5)
abbrev s__law_draw : Stmt := (top 70)
abbrev s__law_pick : Stmt := (top 71)
abbrev s__law_tool : Stmt := (top 72)
abbrev s_is_letters : Stmt := (top 18)
abbrev s_is_number : Stmt := (top 17)
abbrev s_is_state : Stmt := (top 19)
abbrev s_first_wrong_state : Stmt := (top 20)
abbrev s_Machine_init : Stmt := (inClass (top 24) 0)
abbrev s__law_made : Stmt := (top 73)
abbrev s_Machine_len_ : Stmt := (inClass (top 24) 4)
abbrev s_check_machine : Stmt := (top 25)
abbrev s_arrows_of : Stmt := (top 30)
abbrev s_colours_of : Stmt := (top 31)
abbrev s_bits_ahead : Stmt := (top 36)
abbrev s_greatest_loops : Stmt := (top 37)
abbrev s_without_wrong_top : Stmt := (top 38)
abbrev s_loops_as_asked : Stmt := (top 39)
abbrev s_leading_to : Stmt := (top 35)
abbrev s_leading_to_loops : Stmt := (top 40)
abbrev s_live : Stmt := (top 41)
abbrev s_dead : Stmt := (top 43)
abbrev s_groups_of : Stmt := (top 49)
abbrev s_words_from : Stmt := (top 32)
abbrev s_guard : Stmt := (top 51)
abbrev s_with_colours : Stmt := (top 48)
abbrev s_hope : Stmt := (top 52)
abbrev s_least_colours : Stmt := (top 50)
abbrev s_opposite : Stmt := (top 53)
abbrev s_first_words : Stmt := (top 33)
abbrev s_reached : Stmt := (top 34)
abbrev s_recoloured : Stmt := (top 54)
abbrev s_has_loop : Stmt := (top 58)
abbrev s_is_guard : Stmt := (top 60)
abbrev s_is_hope : Stmt := (top 61)
abbrev s_sure : Stmt := (top 42)
abbrev s_is_promise : Stmt := (top 62)
abbrev s_nested_loops : Stmt := (top 59)
abbrev s_comes_again : Stmt := (top 63)
abbrev s_does_stay : Stmt := (top 64)
abbrev s_is_duty : Stmt := (top 65)
abbrev s_depth : Stmt := (top 66)
abbrev s__law_caught : Stmt := (top 74)
abbrev s__law_of_parts : Stmt := (top 76)
abbrev s__law_first : Stmt := (top 75)
abbrev s_check_wanted : Stmt := (top 29)
abbrev s_top_of : Stmt := (top 45)
abbrev s_word_round : Stmt := (top 46)
abbrev s_turning : Stmt := (top 67)
abbrev s__law_right : Stmt := (top 77)
abbrev s__law_purse : Stmt := (top 69)
abbrev s_law : Stmt := (top 78)
end
end DL

set_option maxHeartbeats 0
namespace DL
open PySem PySem.Spec PyProof.Rows L2
def getA (K : PySem.W.Frag) (A : Addr) (f : Str) : Addr := match PySem.W.recIn K (He.ma K A f) "property" with
  | some (.ref g :: _) => g
  | _ => 0
def isGet (K : PySem.W.Frag) (A : Addr) (f : Str) : Bool := He.eqO (PySem.W.findIn K (.ref A) f) (some (some (.ref (He.ma K A f)))) && (He.eqO (PySem.W.specialIn K (.ref (He.ma K A f)) "__get__") (some (some (.builtin "property.__get__"))) && (decide (PySem.W.takesIn K (.ref (He.ma K A f)) = some true) && (match PySem.W.recIn K (He.ma K A f) "property" with
  | some (.ref _ :: _) => true
  | _ => false)))
def isI (K : PySem.W.Frag) (A : Addr) : Bool := He.eqO (PySem.W.findIn K (.ref A) "__class__") (some (some (.builtin "object.__class__"))) && (He.eqO (PySem.W.specialIn K (.builtin "object.__class__") "__get__") (some (some (.builtin "getset_descriptor.__get__"))) && (decide (PySem.W.takesIn K (.builtin "object.__class__") = some true) && decide (PySem.W.mroIn K A (.type "object") = some true)))
def kinds : List String := ["NoneType", "bool", "int", "str", "tuple", "list", "dict"]
def isK (K : PySem.W.Frag) (A : Addr) : Bool := (["str", "int", "bool", "tuple"].all fun n => decide (PySem.W.kitOne K (.ref A) (.type n) = some false)) && (decide (PySem.W.kitOne K (.ref A) (.ref A) = some true) && kinds.all fun n => decide (PySem.W.kitOne K (.type n) (.ref A) = some false))
def exL : List He.Fa := [.free "ValueError", .free "abs", .free "all", .free "any", .free "bool", .free "divmod", .free "enumerate", .free "int", .free "isinstance", .free "len", .free "list", .free "max", .free "min", .free "range", .free "repr", .free "str", .free "sum", .free "tuple", .free "zip", .int "EVEN" 0, .int "MOST_COLOUR" 6, .int "MOST_LETTERS" 3, .int "MOST_STATES" 6, .int "ODD" 1, .str "AGAIN" "again", .str "ALPHABET" "abcdefghijklmnopqrstuvwxyz", .str "STAYS" "stays", .glo "Machine", .glo "InvalidLetters", .glo "InvalidStates", .glo "NotAMachine", .glo "InvalidVerdict", .glo "BadValue", .glo "BadName", .glo "NoAnswer", .glo "OtherLetters", .glo "_law_caught", .glo "state_row", .glo "_law_draw", .glo "_law_pick", .glo "_law_tool", .glo "is_letters", .glo "is_number", .glo "is_state", .glo "first_wrong_state", .glo "_law_made", .glo "check_machine", .glo "arrows_of", .glo "colours_of", .glo "bits_ahead", .glo "greatest_loops", .glo "without_wrong_top", .glo "loops_as_asked", .glo "leading_to", .glo "leading_to_loops", .glo "live", .glo "dead", .glo "groups_of", .glo "words_from", .glo "guard", .glo "with_colours", .glo "hope", .glo "least_colours", .glo "opposite", .glo "first_words", .glo "reached", .glo "recoloured", .glo "has_loop", .glo "is_guard", .glo "is_hope", .glo "sure", .glo "is_promise", .glo "nested_loops", .glo "comes_again", .glo "does_stay", .glo "is_duty", .glo "depth", .glo "_law_of_parts", .glo "_law_first", .glo "check_wanted", .glo "top_of", .glo "word_round", .glo "turning", .glo "_law_right", .glo "_law_purse", .glo "law", .meth "Machine" "__len__", .meth "Machine" "__str__", .cls "Machine", .noat "Machine" "_letters", .noat "Machine" "_states", .mkr "Machine"]
def exK (K : PySem.W.Frag) : Bool := (exL.all fun f => f.ok K) && (isGet K (He.ga K "Machine") "letters" && (isGet K (He.ga K "Machine") "states" && (isI K (He.ga K "Machine") && (excB K "InvalidLetters" "given" && (excB K "InvalidStates" "index" && (excB K "NotAMachine" "given" && (excB K "InvalidVerdict" "given" && (errB K ["BadValue", "BadName", "NoAnswer"] [.inl "NotAMachine", .inl "InvalidVerdict", .inl "OtherLetters", .inl "BadValue", .inl "BadName", .inl "NoAnswer", .inr "ValueError"] "given" "NotAMachine" [true, false, false, true, false, false, true] && (errB K ["BadValue", "BadName", "NoAnswer"] [.inl "NotAMachine", .inl "InvalidVerdict", .inl "OtherLetters", .inl "BadValue", .inl "BadName", .inl "NoAnswer", .inr "ValueError"] "given" "InvalidVerdict" [false, true, false, true, false, false, true] && (errB K ["BadValue", "BadName", "NoAnswer"] [.inl "NotAMachine", .inl "InvalidVerdict", .inl "OtherLetters", .inl "BadValue", .inl "BadName", .inl "NoAnswer", .inr "ValueError"] "given" "OtherLetters" [false, false, true, true, false, false, true] && isK K (He.ga K "Machine")))))))))))
def fns : List QD := [⟨fun K => He.ga K "state_row", "state_row", "state_row", s_state_row⟩,
  ⟨fun K => He.ma K (He.ga K "Machine") "__str__", "__str__", "Machine.__str__", s_Machine_str_⟩,
  ⟨fun K => He.ga K "_law_draw", "_law_draw", "_law_draw", s__law_draw⟩,
  ⟨fun K => He.ga K "_law_pick", "_law_pick", "_law_pick", s__law_pick⟩,
  ⟨fun K => He.ga K "_law_tool", "_law_tool", "_law_tool", s__law_tool⟩,
  ⟨fun K => He.ga K "is_letters", "is_letters", "is_letters", s_is_letters⟩,
  ⟨fun K => He.ga K "is_number", "is_number", "is_number", s_is_number⟩,
  ⟨fun K => He.ga K "is_state", "is_state", "is_state", s_is_state⟩,
  ⟨fun K => He.ga K "first_wrong_state", "first_wrong_state", "first_wrong_state", s_first_wrong_state⟩,
  ⟨fun K => He.ga K "_law_made", "_law_made", "_law_made", s__law_made⟩,
  ⟨fun K => He.ma K (He.ga K "Machine") "__len__", "__len__", "Machine.__len__", s_Machine_len_⟩,
  ⟨fun K => He.ga K "check_machine", "check_machine", "check_machine", s_check_machine⟩,
  ⟨fun K => He.ga K "arrows_of", "arrows_of", "arrows_of", s_arrows_of⟩,
  ⟨fun K => He.ga K "colours_of", "colours_of", "colours_of", s_colours_of⟩,
  ⟨fun K => He.ga K "bits_ahead", "bits_ahead", "bits_ahead", s_bits_ahead⟩,
  ⟨fun K => He.ga K "greatest_loops", "greatest_loops", "greatest_loops", s_greatest_loops⟩,
  ⟨fun K => He.ga K "without_wrong_top", "without_wrong_top", "without_wrong_top", s_without_wrong_top⟩,
  ⟨fun K => He.ga K "loops_as_asked", "loops_as_asked", "loops_as_asked", s_loops_as_asked⟩,
  ⟨fun K => He.ga K "leading_to", "leading_to", "leading_to", s_leading_to⟩,
  ⟨fun K => He.ga K "leading_to_loops", "leading_to_loops", "leading_to_loops", s_leading_to_loops⟩,
  ⟨fun K => He.ga K "live", "live", "live", s_live⟩,
  ⟨fun K => He.ga K "dead", "dead", "dead", s_dead⟩,
  ⟨fun K => He.ga K "groups_of", "groups_of", "groups_of", s_groups_of⟩,
  ⟨fun K => He.ga K "words_from", "words_from", "words_from", s_words_from⟩,
  ⟨fun K => He.ga K "guard", "guard", "guard", s_guard⟩,
  ⟨fun K => He.ga K "with_colours", "with_colours", "with_colours", s_with_colours⟩,
  ⟨fun K => He.ga K "hope", "hope", "hope", s_hope⟩,
  ⟨fun K => He.ga K "least_colours", "least_colours", "least_colours", s_least_colours⟩,
  ⟨fun K => He.ga K "opposite", "opposite", "opposite", s_opposite⟩,
  ⟨fun K => He.ga K "first_words", "first_words", "first_words", s_first_words⟩,
  ⟨fun K => He.ga K "reached", "reached", "reached", s_reached⟩,
  ⟨fun K => He.ga K "recoloured", "recoloured", "recoloured", s_recoloured⟩,
  ⟨fun K => He.ga K "has_loop", "has_loop", "has_loop", s_has_loop⟩,
  ⟨fun K => He.ga K "is_guard", "is_guard", "is_guard", s_is_guard⟩,
  ⟨fun K => He.ga K "is_hope", "is_hope", "is_hope", s_is_hope⟩,
  ⟨fun K => He.ga K "sure", "sure", "sure", s_sure⟩,
  ⟨fun K => He.ga K "is_promise", "is_promise", "is_promise", s_is_promise⟩,
  ⟨fun K => He.ga K "nested_loops", "nested_loops", "nested_loops", s_nested_loops⟩,
  ⟨fun K => He.ga K "comes_again", "comes_again", "comes_again", s_comes_again⟩,
  ⟨fun K => He.ga K "does_stay", "does_stay", "does_stay", s_does_stay⟩,
  ⟨fun K => He.ga K "is_duty", "is_duty", "is_duty", s_is_duty⟩,
  ⟨fun K => He.ga K "depth", "depth", "depth", s_depth⟩,
  ⟨fun K => He.ga K "_law_of_parts", "_law_of_parts", "_law_of_parts", s__law_of_parts⟩,
  ⟨fun K => He.ga K "_law_first", "_law_first", "_law_first", s__law_first⟩,
  ⟨fun K => He.ga K "check_wanted", "check_wanted", "check_wanted", s_check_wanted⟩,
  ⟨fun K => He.ga K "top_of", "top_of", "top_of", s_top_of⟩,
  ⟨fun K => He.ga K "word_round", "word_round", "word_round", s_word_round⟩,
  ⟨fun K => He.ga K "turning", "turning", "turning", s_turning⟩,
  ⟨fun K => He.ga K "_law_right", "_law_right", "_law_right", s__law_right⟩,
  ⟨fun K => He.ga K "_law_purse", "_law_purse", "_law_purse", s__law_purse⟩,
  ⟨fun K => He.ga K "law", "law", "law", s_law⟩,
  ⟨fun K => He.ga K "_law_caught", "_law_caught", "_law_caught", s__law_caught⟩,
  ⟨fun K => He.ma K (He.ga K "Machine") "__init__", "__init__", "Machine.__init__", s_Machine_init⟩,
  ⟨fun K => He.ma K (He.ga K "InvalidLetters") "__init__", "__init__", "InvalidLetters.__init__", (inClass (top 4) 0)⟩,
  ⟨fun K => He.ma K (He.ga K "InvalidStates") "__init__", "__init__", "InvalidStates.__init__", (inClass (top 8) 0)⟩,
  ⟨fun K => He.ma K (He.ga K "NotAMachine") "__init__", "__init__", "NotAMachine.__init__", (inClass (top 6) 0)⟩,
  ⟨fun K => He.ma K (He.ga K "InvalidVerdict") "__init__", "__init__", "InvalidVerdict.__init__", (inClass (top 5) 0)⟩,
  ⟨fun K => getA K (He.ga K "Machine") "letters", "letters", "Machine.letters", (inClass (top 24) 2)⟩,
  ⟨fun K => getA K (He.ga K "Machine") "states", "states", "Machine.states", (inClass (top 24) 3)⟩]
def tfs : List QD := [⟨fun K => He.ga K "_law_of_parts", "_law_of_parts", "_law_of_parts", s__law_of_parts⟩, ⟨fun K => He.ga K "_law_right", "_law_right", "_law_right", s__law_right⟩]

def fad : List Addr := ([PySem.cStatics] : List Addr) ++ ([3, 6, 4, 21, 31, 51, 70, 89, 108, 127, 146, 158, 171, 181, 186, 191, 198, 203, 208, 215, 282, 293, 300, 305, 310, 317, 324, 331, 336, 341, 346, 351, 358, 363, 370, 375, 380, 385, 390, 395, 400, 405, 410, 415, 420, 425, 432, 439, 444, 449, 454, 461, 468, 475, 482, 487, 494, 501, 508, 513] : List Addr) ++ ([520, 527, 532, 539, 546, 553, 0, 20, 30, 50, 69, 88, 107, 126, 145, 157, 170, 180, 185, 190, 197, 202, 207, 214, 281, 292, 299, 304, 309, 316, 323, 330, 335, 340, 345, 350, 357, 362, 369, 374, 379, 384, 389, 394, 399, 404, 409, 414, 419, 424, 431, 438, 443, 448, 453, 460, 467, 474, 481, 486] : List Addr) ++ ([493, 500, 507, 512, 519, 526, 531, 538, 545, 552, 15, 16, 17, 18, 19, 29, 32, 48, 49, 67, 68, 86, 87, 105, 106, 124, 125, 143, 144, 156, 159, 169, 172, 175, 176, 177, 178, 179, 182, 183, 184, 187, 188, 189, 192, 193, 194, 195, 196, 199, 200, 201, 204, 205, 206, 209, 210, 211, 212, 213] : List Addr) ++ ([229, 236, 245, 253, 260, 265, 272, 279, 280, 283, 284, 287, 288, 289, 290, 291, 294, 295, 296, 297, 298, 301, 302, 303, 306, 307, 308, 311, 312, 313, 314, 315, 318, 319, 320, 321, 322, 325, 326, 327, 328, 329, 332, 333, 334, 337, 338, 339, 342, 343, 344, 347, 348, 349, 352, 353, 354, 355, 356, 359] : List Addr) ++ ([360, 361, 364, 365, 366, 367, 368, 371, 372, 373, 376, 377, 378, 381, 382, 383, 386, 387, 388, 391, 392, 393, 396, 397, 398, 401, 402, 403, 406, 407, 408, 411, 412, 413, 416, 417, 418, 421, 422, 423, 426, 427, 428, 429, 430, 433, 434, 435, 436, 437, 440, 441, 442, 445, 446, 447, 450, 451, 452, 455] : List Addr) ++ ([456, 457, 458, 459, 462, 463, 464, 465, 466, 469, 470, 471, 472, 473, 476, 477, 478, 479, 480, 483, 484, 485, 488, 489, 490, 491, 492, 495, 496, 497, 498, 499, 502, 503, 504, 505, 506, 509, 510, 511, 514, 515, 516, 517, 518, 521, 522, 523, 524, 525, 528, 529, 530, 533, 534, 535, 536, 537, 540, 541] : List Addr) ++ ([542, 543, 544, 547, 548, 549, 550, 551, 47, 66, 85, 104, 123, 142, 228, 234, 235, 244, 252, 259, 264, 271, 278, 42, 43, 44, 45, 46, 61, 62, 63, 64, 65, 80, 81, 82, 83, 84, 99, 100, 101, 102, 103, 118, 119, 120, 121, 122, 137, 138, 139, 140, 141, 223, 224, 225, 226, 227, 233, 237] : List Addr) ++ ([243, 251, 254, 255, 256, 257, 258, 261, 262, 263, 266, 267, 268, 269, 270, 273, 274, 275, 276, 277, 230, 231, 232, 238, 239, 240, 241, 242, 246, 247, 248, 249, 250] : List Addr)
abbrev R : PySem.W.OpenRow := PySem.W.OpenLaw.row PySem.Challenge.rw_guardhopes_k35_errors_of_kinds_and_parts
abbrev hk : PySem.W.Hook := hookT fad fns tfs exK
def ob (s : PySem.W.SharedT) : QAT := obT fad fns tfs exK (HandSHeadRun.getT s)
def loose : List Str := (["_wall", "BadValue", "InvalidText", "InvalidLetters", "InvalidVerdict", "NotAMachine", "OtherLetters", "InvalidStates", "BadName", "NoAnswer", "MOST_LETTERS", "MOST_STATES", "MOST_COLOUR", "ALPHABET", "DIGITS", "is_number", "is_letters", "is_state", "first_wrong_state", "state_row", "told_state", "told_letters", "Machine", "check_machine", "EVEN"] : List Str) ++ (["ODD", "check_wanted", "arrows_of", "colours_of", "words_from", "first_words", "reached", "leading_to", "bits_ahead", "greatest_loops", "without_wrong_top", "loops_as_asked", "leading_to_loops", "live", "sure", "dead", "top_of", "word_round", "with_colours", "groups_of", "least_colours", "guard", "hope", "opposite", "recoloured"] : List Str) ++ (["AGAIN", "STAYS", "has_loop", "nested_loops", "is_guard", "is_hope", "is_promise", "comes_again", "does_stay", "is_duty", "depth", "turning", "_law_purse", "_law_draw", "_law_pick", "_law_tool", "_law_made", "_law_caught", "_law_first", "_law_of_parts", "_law_right"] : List Str)
theorem run (w : World) : HandSHeadRun.RunEq R (PySem.W.view R.prog [78]) hk ob 6000 loose w := by
  intro os
  kernel_rfl
end DL

set_option maxHeartbeats 1000000
namespace DL
open PySem PySem.Spec PyProof.Rows L2
abbrev Row := Int × List Int
structure RowOk (k n : Nat) (r : Row) : Prop where
  c0 : 0 ≤ r.1
  c1 : r.1 ≤ 6
  len : r.2.length = k
  go : ∀ g ∈ r.2, 0 ≤ g ∧ g < n
structure RowsOk (k : Nat) (rs : List Row) : Prop where
  n0 : 1 ≤ rs.length
  n1 : rs.length ≤ 6
  ok : ∀ r ∈ rs, RowOk k rs.length r
end DL

set_option maxHeartbeats 1000000

set_option maxHeartbeats 1000000
namespace DL
open PySem PySem.Spec PyProof.Rows L2
abbrev one (c : Nat) : Str := ⟨#[c]⟩
def Wd (x w : Str) : Prop := ∀ c ∈ w.cps.toList, c ∈ x.cps.toList
def idx (x : Str) (c : Nat) : Nat := x.cps.toList.idxOf c
def goal (rs : List Row) (s : Int) (i : Nat) : Int := ((rs[s.toNat]?).bind fun r => r.2[i]?).getD 0
def walkL (x : Str) (rs : List Row) : Int → List Nat → List Int
  | _, [] => []
  | s, c :: cs => goal rs s (idx x c) :: walkL x rs (goal rs s (idx x c)) cs
def walkE (x : Str) (rs : List Row) : Int → List Nat → Int
  | s, [] => s
  | s, c :: cs => walkE x rs (goal rs s (idx x c)) cs
end DL

set_option maxHeartbeats 1000000

set_option maxHeartbeats 1000000

set_option maxHeartbeats 1000000
namespace DL
open PySem PySem.Spec PyProof.Rows L2
theorem str_len (w : Str) : w.cps.toList.length = w.length := by simp [Str.length]
/-- the state behind n rounds -/
abbrev endE (x : Str) (rs : List Row) (s : Int) (w : List Nat) (n : Nat) : Int := walkE x rs s (List.replicate n w).flatten
abbrev allL (x : Str) (rs : List Row) (s : Int) (w : List Nat) (n : Nat) : List Int := walkL x rs s (List.replicate n w).flatten
def colour (rs : List Row) (s : Int) : Int := ((rs[s.toNat]?).map (·.1)).getD 0
/-- the greatest of some numbers, 0 of none -/
def top0 (is : List Int) : Int := match is with
  | [] => 0
  | i :: is => topI i is
end DL

set_option maxHeartbeats 1000000

set_option maxHeartbeats 1000000

set_option maxHeartbeats 1000000
namespace DL
open PySem PySem.Spec PyProof.Rows L2
def lassoD (u v : Str) : D := .tup [.str u, .str v]
/-- the greatest colour behind rounds -/
def topOf (x : Str) (rs : List Row) (u v : List Nat) : Int := top0 ((allL x rs (endE x rs (walkE x rs 0 u) v rs.length) v rs.length).map (colour rs))
end DL

set_option maxHeartbeats 1000000

set_option maxHeartbeats 1000000
namespace DL
open PySem PySem.Spec PyProof.Rows L2
section
variable {sc : Int → List Int} {ok ok' : Int → Prop}
/-- one or more steps, all behind the first number by numbers that are ok -/
inductive Pth (sc : Int → List Int) (ok : Int → Prop) : Int → Int → Prop
  | one {a b : Int} : b ∈ sc a → ok b → Pth sc ok a b
  | step {a b c : Int} : b ∈ sc a → ok b → Pth sc ok b c → Pth sc ok a c
theorem Pth.trans {a b c : Int} (h : Pth sc ok a b) (h' : Pth sc ok b c) : Pth sc ok a c := by
  induction h with
  | one h1 h2 => exact .step h1 h2 h'
  | step h1 h2 _ ih => exact .step h1 h2 (ih h')
theorem Pth.mono {a b : Int} (h : Pth sc ok a b) (f : ∀ x, ok x → ok' x) : Pth sc ok' a b := by
  induction h with
  | one h1 h2 => exact .one h1 (f _ h2)
  | step h1 h2 _ ih => exact .step h1 (f _ h2) ih
theorem Pth.first {a b : Int} (h : Pth sc ok a b) : ∃ c, c ∈ sc a ∧ ok c ∧ (c = b ∨ Pth sc ok c b) := by
  cases h with
  | one h1 h2 => exact ⟨_, h1, h2, .inl rfl⟩
  | step h1 h2 h3 => exact ⟨_, h1, h2, .inr h3⟩
end
end DL

set_option maxHeartbeats 1000000
namespace DL
open PySem PySem.Spec PyProof.Rows L2
inductive Via (sc : Int → List Int) (mid : Int → Prop) : Int → Int → Prop
  | one {a b : Int} : b ∈ sc a → Via sc mid a b
  | step {a b c : Int} : b ∈ sc a → mid b → Via sc mid b c → Via sc mid a c
section
variable {sc : Int → List Int} {mid mid' : Int → Prop}
theorem Via.mono {a b : Int} (h : Via sc mid a b) (f : ∀ x, mid x → mid' x) : Via sc mid' a b := by
  induction h with
  | one h1 => exact .one h1
  | step h1 h2 _ ih => exact .step h1 (f _ h2) ih
theorem Via.trans {a m b : Int} (h : Via sc mid a m) (hm : mid m) (h' : Via sc mid m b) : Via sc mid a b := by
  induction h with
  | one h1 => exact .step h1 hm h'
  | step h1 h2 _ ih => exact .step h1 h2 (ih hm h')
theorem Via.split {m a b : Int} (h : Via sc (fun x => mid x ∨ x = m) a b) : Via sc mid a b ∨ (Via sc mid a m ∧ Via sc mid m b) := by
  induction h with
  | one h1 => exact .inl (.one h1)
  | step h1 h2 _ ih =>
    rcases h2 with h2 | rfl
    · rcases ih with ih | ⟨i1, i2⟩
      · exact .inl (.step h1 h2 ih)
      · exact .inr ⟨.step h1 h2 i1, i2⟩
    · rcases ih with ih | ⟨_, i2⟩
      · exact .inr ⟨.one h1, ih⟩
      · exact .inr ⟨.one h1, i2⟩
end
/-- numbers of a graph, each once -/
structure Ns (n : Nat) (ns : List Int) : Prop where
  nd : ns.Nodup
  lo : ∀ k ∈ ns, 0 ≤ k ∧ k < n
theorem Ns.len {n : Nat} {ns : List Int} (h : Ns n ns) : ns.length ≤ n := by
  have h1 : (ns.map Int.toNat).Nodup := by
    have nd := h.nd
    have lo := h.lo
    clear h
    induction ns with
    | nil => exact List.nodup_nil
    | cons k ns ih =>
      obtain ⟨a, b⟩ := List.nodup_cons.mp nd
      rw [List.map_cons]
      refine List.nodup_cons.mpr ⟨fun hm => ?_, ih b fun k hk => lo k (List.mem_cons_of_mem _ hk)⟩
      obtain ⟨j, hj, e⟩ := List.mem_map.mp hm
      have z1 := lo k List.mem_cons_self
      have z2 := lo j (List.mem_cons_of_mem _ hj)
      have : j = k := by omega
      subst this
      exact a hj
  have h2 : ∀ x ∈ ns.map Int.toNat, x < n := fun x hx => by
    obtain ⟨k, hk, rfl⟩ := List.mem_map.mp hx
    have := h.lo k hk
    omega
  have : ∀ (l : List Nat) (n : Nat), l.Nodup → (∀ x ∈ l, x < n) → l.length ≤ n := by
    intro l n
    induction n generalizing l with
    | zero =>
      intro _ h
      cases l with
      | nil => exact Nat.le_refl _
      | cons a l => exact absurd (h a List.mem_cons_self) (Nat.not_lt_zero _)
    | succ n ih =>
      intro nd h
      have i1 := ih (l.erase n) (nd.erase n) (fun x hx => by
        have h1 := h x (List.mem_of_mem_erase hx)
        have h2 : x ≠ n := fun e => by
          subst e
          exact (List.Nodup.mem_erase_iff nd).mp hx |>.1 rfl
        omega)
      have : l.length ≤ (l.erase n).length + 1 := by
        rw [List.length_erase]
        split <;> omega
      omega
  have := this _ _ h1 h2
  rwa [List.length_map] at this
end DL

set_option maxHeartbeats 1000000

set_option maxHeartbeats 1000000

set_option maxHeartbeats 1000000
namespace DL
open PySem PySem.Spec PyProof.Rows L2
def bth (β : Int → Nat) (a k : Int) : Bool := (β a).testBit k.toNat && (β k).testBit a.toNat
def cls (ns : List Int) (β : Int → Nat) (a : Int) : List Int := ns.filter (bth β a)
end DL

set_option maxHeartbeats 1000000

set_option maxHeartbeats 1000000

set_option maxHeartbeats 1000000

set_option maxHeartbeats 1000000

set_option maxHeartbeats 1000000

set_option maxHeartbeats 1000000

set_option maxHeartbeats 1000000

set_option maxHeartbeats 1000000

set_option maxHeartbeats 1000000

set_option maxHeartbeats 1000000

set_option maxHeartbeats 1000000
namespace DL
open PySem PySem.Spec PyProof.Rows L2
/-- numbers below n, not too many -/
structure NsW (n : Nat) (ns : List Int) : Prop where
  len : ns.length ≤ n
  lo : ∀ k ∈ ns, 0 ≤ k ∧ k < n
theorem Ns.w {n : Nat} {ns : List Int} (h : Ns n ns) : NsW n ns := ⟨h.len, h.lo⟩
end DL

set_option maxHeartbeats 1000000

set_option maxHeartbeats 1000000

set_option maxHeartbeats 1000000

set_option maxHeartbeats 1000000

set_option maxHeartbeats 1000000
namespace DL
open PySem PySem.Spec PyProof.Rows L2
theorem len_cps {w : Str} : w.cps.toList = [] ↔ w.length = 0 := by
  rw [← str_len]
  exact List.length_eq_zero_iff.symm
end DL

set_option maxHeartbeats 1000000

set_option maxHeartbeats 1000000

set_option maxHeartbeats 1000000

set_option maxHeartbeats 1000000

set_option maxHeartbeats 1000000

set_option maxHeartbeats 1000000

set_option maxHeartbeats 1000000

set_option maxHeartbeats 1000000

set_option maxHeartbeats 1000000

set_option maxHeartbeats 1000000
namespace DL
open PySem PySem.Spec PyProof.Rows L2
/-- some lasso has these evennesses in the two wishes -/
def Bet (x : Str) (rs1 rs2 : List Row) (e1 e2 : Int) : Prop := ∃ u v : List Nat, (∀ c ∈ u, c ∈ x.cps.toList) ∧ (∀ c ∈ v, c ∈ x.cps.toList) ∧ v ≠ [] ∧ topOf x rs1 u v % 2 = e1 ∧ topOf x rs2 u v % 2 = e2
structure LasB (x : Str) (rs1 rs2 : List Row) (e1 e2 : Int) (u v : Str) : Prop where
  u1 : Wd x u
  u2 : u.length ≤ 36
  v1 : Wd x v
  v2 : v.length ≤ 109
  v0 : v.length ≠ 0
  t1 : topOf x rs1 u.cps.toList v.cps.toList % 2 = e1
  t2 : topOf x rs2 u.cps.toList v.cps.toList % 2 = e2
theorem LasB.bet {x : Str} {rs1 rs2 : List Row} {e1 e2 : Int} {u v : Str} (h : LasB x rs1 rs2 e1 e2 u v) : Bet x rs1 rs2 e1 e2 := ⟨_, _, h.u1, h.v1, fun e => h.v0 (len_cps.mp e), h.t1, h.t2⟩
end DL

set_option maxHeartbeats 1000000

set_option maxHeartbeats 1000000

set_option maxHeartbeats 1000000

set_option maxHeartbeats 1000000

set_option maxHeartbeats 1000000

set_option maxHeartbeats 1000000

set_option maxHeartbeats 1000000

set_option maxHeartbeats 1000000

set_option maxHeartbeats 1000000

set_option maxHeartbeats 1000000

set_option maxHeartbeats 1000000
namespace DL
open PySem PySem.Spec PyProof.Rows L2
structure RowsW (k N : Nat) (ws : List Row) : Prop where
  n0 : 1 ≤ ws.length
  n1 : ws.length ≤ N
  ok : ∀ r ∈ ws, RowOk k ws.length r
theorem RowsOk.w {k : Nat} {rs : List Row} (h : RowsOk k rs) : RowsW k 6 rs := ⟨h.n0, h.n1, h.ok⟩
end DL

set_option maxHeartbeats 1000000

set_option maxHeartbeats 1000000

set_option maxHeartbeats 1000000

set_option maxHeartbeats 1000000

set_option maxHeartbeats 1000000
namespace DL
open PySem PySem.Spec PyProof.Rows L2
/-- the first letters of a run -/
def pre (α : Nat → Nat) (i : Nat) : List Nat := (List.range i).map α
end DL

set_option maxHeartbeats 1000000

set_option maxHeartbeats 1000000

set_option maxHeartbeats 1000000

set_option maxHeartbeats 1000000

set_option maxHeartbeats 1000000
namespace DL
open PySem PySem.Spec PyProof.Rows L2
structure ShP (p : PyData) (k n : Nat) : Prop where
  sh : p.showable = true
  nd : p.hasDict = false
  dp : p.depth ≤ k
  ln : p.shown.length ≤ n
  ok : PyData.strOk p.shown = true
def ShB (d : D) (k n : Nat) : Prop := ∃ p, d.pd = some p ∧ ShP p k n
theorem ShP.mono {p : PyData} {k n k' n' : Nat} (h : ShP p k n) (hk : k ≤ k') (hn : n ≤ n') : ShP p k' n' := ⟨h.sh, h.nd, Nat.le_trans h.dp hk, Nat.le_trans h.ln hn, h.ok⟩
theorem ShB.mono {d : D} {k n k' n' : Nat} (h : ShB d k n) (hk : k ≤ k') (hn : n ≤ n') : ShB d k' n' := by
  obtain ⟨p, a, b⟩ := h
  exact ⟨p, a, b.mono hk hn⟩
end DL

set_option maxHeartbeats 1000000

set_option maxHeartbeats 1000000

set_option maxHeartbeats 1000000

set_option maxHeartbeats 1000000

set_option maxHeartbeats 1000000

set_option maxHeartbeats 1000000

set_option maxHeartbeats 1000000
namespace DL
open PySem PySem.Spec PyProof.Rows L2
def sbF (found : List (List Int)) (e : Int) : List (List Int) := found ++ found.map (· ++ [e])
structure SInv (pre : List Int) (found : List (List Int)) : Prop where
  sub : ∀ l ∈ found, l.Sublist pre
  all : ∀ p : Int → Bool, pre.filter p ∈ found
  len : found.length = 2 ^ pre.length
theorem SInv.step {pre : List Int} {found : List (List Int)} (I : SInv pre found) (e : Int) : SInv (pre ++ [e]) (sbF found e) := by
  refine ⟨fun l hl => ?_, fun p => ?_, ?_⟩
  · rcases List.mem_append.mp hl with hl | hl
    · exact (I.sub l hl).trans (List.sublist_append_left _ _)
    · obtain ⟨m, hm, rfl⟩ := List.mem_map.mp hl
      exact (I.sub m hm).append (List.Sublist.refl _)
  · unfold sbF
    rw [List.filter_append]
    by_cases hp : p e = true
    · refine List.mem_append_right _ (List.mem_map.mpr ⟨_, I.all p, ?_⟩)
      simp [hp]
    · refine List.mem_append_left _ ?_
      have := I.all p
      simpa [hp] using this
  · unfold sbF
    rw [List.length_append, List.length_map, I.len, List.length_append, List.length_singleton, Nat.pow_succ]
    omega
end DL

set_option maxHeartbeats 1000000

set_option maxHeartbeats 1000000

set_option maxHeartbeats 1000000

set_option maxHeartbeats 1000000

set_option maxHeartbeats 1000000

set_option maxHeartbeats 1000000

set_option maxHeartbeats 1000000

set_option maxHeartbeats 1000000

set_option maxHeartbeats 1000000

set_option maxHeartbeats 1000000

set_option maxHeartbeats 1000000

set_option maxHeartbeats 1000000
namespace DL
open PySem PySem.Spec PyProof.Rows L2
structure RowsT (k : Nat) (T : Int) (rs : List Row) : Prop where
  n0 : 1 ≤ rs.length
  n1 : rs.length ≤ 6
  ok : ∀ r ∈ rs, 0 ≤ r.1 ∧ r.1 ≤ T ∧ r.2.length = k ∧ ∀ g ∈ r.2, 0 ≤ g ∧ g < rs.length
theorem RowsOk.t {k : Nat} {rs : List Row} (h : RowsOk k rs) : RowsT k 6 rs := ⟨h.n0, h.n1, fun r hr => by
  obtain ⟨a, b, c, d⟩ := h.ok r hr
  exact ⟨a, b, c, d⟩⟩
theorem RowsT.mono {k : Nat} {T T' : Int} {rs : List Row} (h : RowsT k T rs) (ht : T ≤ T') : RowsT k T' rs := ⟨h.n0, h.n1, fun r hr => by
  obtain ⟨a, b, c, d⟩ := h.ok r hr
  exact ⟨a, by omega, c, d⟩⟩
end DL

set_option maxHeartbeats 1000000

set_option maxHeartbeats 1000000

set_option maxHeartbeats 1000000
namespace DL
open PySem PySem.Spec PyProof.Rows L2
def OneD (x : Str) (rs qs : List Row) (e1 e2 : Int) (d : D) : Prop := (d = .non ∧ ¬ Bet x rs qs e1 e2) ∨ ∃ u v : Str, d = lassoD u v ∧ LasB x rs qs e1 e2 u v
def TwoD (x : Str) (rs qs : List Row) (d : D) : Prop := (d = .non ∧ ¬ Bet x rs qs 0 1 ∧ ¬ Bet x rs qs 1 0) ∨ ∃ u v : Str, d = lassoD u v ∧ (LasB x rs qs 0 1 u v ∨ LasB x rs qs 1 0 u v)
def isNB : D → Bool
  | .non => true
  | _ => false
theorem OneD.is {x : Str} {rs qs : List Row} {e1 e2 : Int} {d : D} (h : OneD x rs qs e1 e2 d) : (isNB d = true ↔ ¬ Bet x rs qs e1 e2) ∧ isN2 d .non = some (.bl (isNB d)) ∧ notN2 d .non = some (.bl (!isNB d)) := by
  rcases h with ⟨rfl, h⟩ | ⟨u, v, rfl, h⟩
  · exact ⟨⟨fun _ => h, fun _ => rfl⟩, rfl, rfl⟩
  · exact ⟨⟨fun z => Bool.noConfusion (show false = true from z), fun z => absurd h.bet z⟩, rfl, rfl⟩
theorem TwoD.is {x : Str} {rs qs : List Row} {d : D} (h : TwoD x rs qs d) : (isNB d = true ↔ ¬ Bet x rs qs 0 1 ∧ ¬ Bet x rs qs 1 0) ∧ isN2 d .non = some (.bl (isNB d)) ∧ notN2 d .non = some (.bl (!isNB d)) := by
  rcases h with ⟨rfl, h⟩ | ⟨u, v, rfl, h⟩
  · exact ⟨⟨fun _ => h, fun _ => rfl⟩, rfl, rfl⟩
  · exact ⟨⟨fun z => Bool.noConfusion (show false = true from z), fun z => h.elim (fun q => absurd q.bet z.1) fun q => absurd q.bet z.2⟩, rfl, rfl⟩
end DL

set_option maxHeartbeats 1000000

set_option maxHeartbeats 1000000

set_option maxHeartbeats 1000000

set_option maxHeartbeats 0
open PySem PySem.W PySem.Calls PyProof.Rows
end
set_option Elab.async false
set_option linter.all false
set_option maxRecDepth 100000
set_option maxHeartbeats 4000000
namespace DL
open PySem PySem.Spec PyProof.Rows L2



section
variable {K : PySem.W.Frag} {ba : Option Addr} {S S' : Hp}
theorem DRs.get : ∀ {vs : List V} {ds : List D} {i : Nat} {d : D}, DRs K ba S vs ds → ds[i]? = some d → ∃ v, vs[i]? = some v ∧ DR K ba S v d
  | _, [], i, d, h, e => by simp at e
  | _, d' :: ds, 0, d, h, e => by
    cases h with
    | cons h1 _ => simp at e; subst e; exact ⟨_, rfl, h1⟩
  | _, d' :: ds, i + 1, d, h, e => by
    cases h with
    | cons _ h2 =>
      obtain ⟨v, e1, r⟩ := DRs.get (i := i) h2 (by simpa using e)
      exact ⟨v, by simpa using e1, r⟩
theorem DRs.app : ∀ {vs ws : List V} {ds es : List D}, DRs K ba S vs ds → DRs K ba S ws es → DRs K ba S (vs ++ ws) (ds ++ es)
  | _, _, [], _, h, h' => by cases h; exact h'
  | _, _, d :: ds, _, h, h' => by
    cases h with
    | cons h1 h2 => exact .cons h1 (DRs.app h2 h')
theorem DRs.take : ∀ {vs : List V} {ds : List D} (n : Nat), DRs K ba S vs ds → DRs K ba S (vs.take n) (ds.take n)
  | _, _, 0, _ => by simpa using DRs.nil
  | _, [], n + 1, h => by cases h; exact .nil
  | _, d :: ds, n + 1, h => by
    cases h with
    | cons h1 h2 => exact .cons h1 (DRs.take n h2)
theorem DRs.drop : ∀ {vs : List V} {ds : List D} (n : Nat), DRs K ba S vs ds → DRs K ba S (vs.drop n) (ds.drop n)
  | _, _, 0, h => by simpa using h
  | _, [], n + 1, h => by cases h; exact .nil
  | _, d :: ds, n + 1, h => by
    cases h with
    | cons h1 h2 => exact DRs.drop n h2
theorem DRs.set : ∀ {vs : List V} {ds : List D} (i : Nat) {v : V} {d : D}, DRs K ba S vs ds → DR K ba S v d → DRs K ba S (vs.set i v) (ds.set i d)
  | _, [], _, _, _, h, _ => by cases h; exact .nil
  | _, _ :: _, 0, _, _, h, r => by
    cases h with
    | cons _ h2 => exact .cons r h2
  | _, _ :: _, i + 1, _, _, h, r => by
    cases h with
    | cons h1 h2 => exact .cons h1 (DRs.set i h2 r)
end

theorem ODR.dr {K : PySem.W.Frag} {ba : Option Addr} {S : Hp} {u : HO} {d : D} {p : Addr} {o : Obj} (h : ODR K ba S u d) (e : S p = some (lockU o u)) : DR K ba S (.ref p) d := by
  cases h with
  | lst r => exact .lst e r
  | ins h r => exact .ins e h r
  | dct h r => exact .dct e h r
  | dtp h r => exact .dtp e h r
theorem upd_at {H : Hp} {p : Addr} {u : HO} (h : H p = some u) : upd H p u = H := by
  funext b
  by_cases e : b = p
  · subst e; rw [upd_same, h]
  · rw [upd_ne e]

variable [TB : TabSet]
theorem noTb_none {S : Hp} {a : Addr} (h : S a = none) : noTb S a = none := by
  unfold noTb
  rw [h]
theorem plain_code {u : HO} (h : plainB u = true) : ∀ c q, u ≠ LamX.CodeO c q := fun c q e => by
  unfold LamX.CodeO at e
  subst e
  cases h
theorem lock_plain {o : Obj} {u : HO} (h : plainB u = true) : plainB (lockU o u) = true := by
  cases u <;> first | rfl | exact h
theorem tabs_upd {T : List (Addr × Str)} {H : Hp} {p : Addr} {u z : HO} (t : LamX.Tabs T H) (h : H p = some u) (n : plainB u = true) : LamX.Tabs T (upd H p z) := fun k hk => by
  obtain ⟨ps, h1, h2, h3⟩ := t k hk
  refine ⟨ps, ?_, h2, fun pos cv hc => ?_⟩
  · rw [upd_ne (fun e => by rw [e, h] at h1; exact plain_tbl n _ (Option.some.inj h1))]
    exact h1
  · obtain ⟨c, e1, e2⟩ := h3 pos cv hc
    exact ⟨c, e1, by rw [upd_ne (fun e => by rw [e, h] at e2; exact plain_code n _ _ (Option.some.inj e2))]; exact e2⟩
theorem noTbl_upd {S : Hp} {p : Addr} {u : HO} (h : NoTbl S) (n : plainB u = true) : NoTbl (upd S p u) := fun a ps e => by
  by_cases q : a = p
  · rw [q, upd_same] at e
    exact plain_tbl n ps (Option.some.inj e)
  · rw [upd_ne q] at e
    exact h a ps e
section
variable {K : PySem.W.Frag} {ba : Option Addr} {S S' H H' : Hp} {σ : L2.St} {ρ : Env} {O : List Addr}
theorem Slots.getSh : ∀ {σ : L2.St} {ρ : Env} {O : List Addr} {i : Nat} {d : D}, Slots K ba S H σ ρ O → ρ[i]? = some (some (.sh d)) → ∃ v, σ[i]? = some (some v) ∧ DR K ba S v d
  | _, _, _, _, _, .nil, e => by simp at e
  | _, _, _, 0, _, .no _, e => by simp at e
  | _, _, _, 0, _, .sh r _, e => by
    simp at e
    subst e
    exact ⟨_, rfl, r⟩
  | _, _, _, 0, _, .ow _ _ _, e => by simp at e
  | _, _, _, i + 1, _, .no s, e => by
    obtain ⟨v, a, r⟩ := Slots.getSh (i := i) s (by simpa using e)
    exact ⟨v, by simpa using a, r⟩
  | _, _, _, i + 1, _, .sh _ s, e => by
    obtain ⟨v, a, r⟩ := Slots.getSh (i := i) s (by simpa using e)
    exact ⟨v, by simpa using a, r⟩
  | _, _, _, i + 1, _, .ow _ _ s, e => by
    obtain ⟨v, a, r⟩ := Slots.getSh (i := i) s (by simpa using e)
    exact ⟨v, by simpa using a, r⟩
/-- an owned slot: its list; writing it -/
theorem Slots.getOw : ∀ {σ : L2.St} {ρ : Env} {O : List Addr} {i : Nat} {d : D}, Slots K ba S H σ ρ O → ρ[i]? = some (some (.ow d)) → ∃ p u, σ[i]? = some (some (.ref p)) ∧ H p = some u ∧ ODR K ba S u d ∧ p ∈ O
  | _, _, _, _, _, .nil, e => by simp at e
  | _, _, _, 0, _, .no _, e => by simp at e
  | _, _, _, 0, _, .sh r _, e => by simp at e
  | _, _, _, 0, _, .ow h1 h2 _, e => by
    simp at e
    subst e
    exact ⟨_, _, rfl, h1, h2, List.mem_cons_self⟩
  | _, _, _, i + 1, _, .no s, e => by
    obtain ⟨p, vs, a, h1, h2, h3⟩ := Slots.getOw (i := i) s (by simpa using e)
    exact ⟨p, vs, by simpa using a, h1, h2, h3⟩
  | _, _, _, i + 1, _, .sh _ s, e => by
    obtain ⟨p, vs, a, h1, h2, h3⟩ := Slots.getOw (i := i) s (by simpa using e)
    exact ⟨p, vs, by simpa using a, h1, h2, h3⟩
  | _, _, _, i + 1, _, .ow _ _ s, e => by
    obtain ⟨p, vs, a, h1, h2, h3⟩ := Slots.getOw (i := i) s (by simpa using e)
    exact ⟨p, vs, by simpa using a, h1, h2, List.mem_cons_of_mem _ h3⟩
/-- a slot is given a shared value -/
theorem Slots.setSh {v : V} {d : D} (r : DR K ba S v d) : ∀ {σ : L2.St} {ρ : Env} {O : List Addr} {i : Nat}, Slots K ba S H σ ρ O → ∃ O', Slots K ba S H (σ.set i (some v)) (ρ.set i (some (.sh d))) O' ∧ (O'.Sublist O)
  | _, _, _, _, .nil => ⟨[], .nil, .refl _⟩
  | _, _, _, 0, .no s => ⟨_, .sh r s, .refl _⟩
  | _, _, _, 0, .sh _ s => ⟨_, .sh r s, .refl _⟩
  | _, _, _, 0, .ow _ _ s => ⟨_, .sh r s, List.sublist_cons_self _ _⟩
  | _, _, _, i + 1, .no s => by
    obtain ⟨O', h, l⟩ := Slots.setSh r (i := i) s
    exact ⟨O', .no h, l⟩
  | _, _, _, i + 1, .sh q s => by
    obtain ⟨O', h, l⟩ := Slots.setSh r (i := i) s
    exact ⟨O', .sh q h, l⟩
  | _, _, _, i + 1, .ow h1 h2 s => by
    obtain ⟨O', h, l⟩ := Slots.setSh r (i := i) s
    exact ⟨_, .ow h1 h2 h, l.cons_cons _⟩
/-- a slot is given an owned list -/
theorem Slots.setOw {p : Addr} {u : HO} {d : D} (hp : H p = some u) (r : ODR K ba S u d) : ∀ {σ : L2.St} {ρ : Env} {O : List Addr} {i : Nat}, Slots K ba S H σ ρ O → p ∉ O → O.Nodup → ∃ O', Slots K ba S H (σ.set i (some (.ref p))) (ρ.set i (some (.ow d))) O' ∧ O'.Nodup ∧ (∀ q ∈ O', q = p ∨ q ∈ O)
  | _, _, _, _, .nil, _, _ => ⟨[], .nil, List.nodup_nil, fun q hq => by cases hq⟩
  | _, _, O, 0, .no s, n, nd => ⟨_, .ow hp r s, List.nodup_cons.mpr ⟨n, nd⟩, fun q hq => by simpa using hq⟩
  | _, _, O, 0, .sh _ s, n, nd => ⟨_, .ow hp r s, List.nodup_cons.mpr ⟨n, nd⟩, fun q hq => by simpa using hq⟩
  | _, _, _ :: O, 0, .ow _ _ s, n, nd => ⟨_, .ow hp r s, List.nodup_cons.mpr ⟨fun z => n (List.mem_cons_of_mem _ z), (List.nodup_cons.mp nd).2⟩, fun q hq => by
    rcases List.mem_cons.mp hq with z | z
    · exact .inl z
    · exact .inr (List.mem_cons_of_mem _ z)⟩
  | _, _, _, i + 1, .no s, n, nd => by
    obtain ⟨O', h, l, m⟩ := Slots.setOw hp r (i := i) s n nd
    exact ⟨O', .no h, l, m⟩
  | _, _, _, i + 1, .sh q s, n, nd => by
    obtain ⟨O', h, l, m⟩ := Slots.setOw hp r (i := i) s n nd
    exact ⟨O', .sh q h, l, m⟩
  | _, _, _, i + 1, .ow h1 h2 s, n, nd => by
    obtain ⟨O', h, l, m⟩ := Slots.setOw hp r (i := i) s (fun z => n (List.mem_cons_of_mem _ z)) (List.nodup_cons.mp nd).2
    refine ⟨_, .ow h1 h2 h, List.nodup_cons.mpr ⟨fun z => ?_, l⟩, fun q hq => ?_⟩
    · rcases m _ z with e | e
      · exact n (by rw [e]; exact List.mem_cons_self)
      · exact (List.nodup_cons.mp nd).1 e
    · rcases List.mem_cons.mp hq with e | e
      · exact .inr (by rw [e]; exact List.mem_cons_self)
      · rcases m _ e with z | z
        · exact .inl z
        · exact .inr (List.mem_cons_of_mem _ z)
/-- the owned list of a slot is written: the others stand -/
theorem Slots.write {p : Addr} {u' : HO} {d' : D} (r : ODR K ba S u' d') : ∀ {σ : L2.St} {ρ : Env} {O : List Addr} {i : Nat}, Slots K ba S H σ ρ O → O.Nodup → σ[i]? = some (some (.ref p)) → p ∈ O → (∃ ds, ρ[i]? = some (some (.ow ds))) → Slots K ba S (upd H p u') σ (ρ.set i (some (.ow d'))) O
  | _, _, _, _, .nil, _, e, _, _ => by simp at e
  | _, _, _, 0, .no _, _, _, _, e => by obtain ⟨_, e⟩ := e; simp at e
  | _, _, _, 0, .sh _ _, _, _, _, e => by obtain ⟨_, e⟩ := e; simp at e
  | _, _, _, 0, .ow h1 h2 s, nd, e, _, _ => by
    simp at e
    subst e
    refine .ow upd_same r (s.mono (Same.refl _) fun q hq vs z => ?_)
    rw [upd_ne (fun y => (List.nodup_cons.mp nd).1 (by rw [← y]; exact hq))]
    exact z
  | _, _, _, i + 1, .no s, nd, e, hp, o => .no (Slots.write r (i := i) s nd (by simpa using e) hp (by simpa using o))
  | _, _, _, i + 1, .sh q s, nd, e, hp, o => .sh q (Slots.write r (i := i) s nd (by simpa using e) hp (by simpa using o))
  | _, _, _, i + 1, .ow (p := p') h1 h2 s, nd, e, hp, o => by
    have o' : ∃ ds, _ := o
    have e' := e
    simp only [List.getElem?_cons_succ] at e' o'
    obtain ⟨ds, o'⟩ := o'
    obtain ⟨q, vs, a, _, _, hq⟩ := s.getOw o'
    rw [e'] at a
    cases a
    have ne : p' ≠ p := fun z => (List.nodup_cons.mp nd).1 (by rw [z]; exact hq)
    refine .ow ?_ h2 (Slots.write r (i := i) s (List.nodup_cons.mp nd).2 e' hq ⟨ds, o'⟩)
    rw [upd_ne ne]
    exact h1
end
end DL

set_option maxHeartbeats 4000000
namespace DL
open PySem PySem.Spec PyProof.Rows L2
variable [TB : TabSet]
@[simp] def wipeE (ρ : Env) : List Nat → Env
  | [] => ρ
  | v :: vs => (wipeE ρ vs).set v none
section
variable {K : PySem.W.Frag} {C : Cq} {S S' H H' : Hp} {σ : L2.St} {ρ : Env} {b b' : Bag} {p : Addr} {u : HO}
theorem same_upd {S : Hp} (hp : S p = none) : Same S (upd S p u) := fun a x e => by
  rw [upd_ne (ne_of_none e hp)]; exact e
theorem Core.alloc (o : Core C S b H) (hp : H p = none) (pu : plainB u = true := by rfl) : Core C (upd S p u) b (upd H p u) := by
  refine ⟨fun a x e => ?_, fun a x e hb => ?_, fun a e => ?_, fun a x e => ?_, o.nt, noTbl_upd o.ns pu, tabs_new o.tb hp⟩
  · by_cases h : a = p
    · subst h; rw [upd_same] at e ⊢; exact e
    · rw [upd_ne h] at e ⊢; exact o.sub a x e
  · have h := o.fr a x e hb
    rw [upd_ne (ne_of_none h hp)]; exact h
  · obtain ⟨h1, h2⟩ := o.bag a e
    have n := ne_of_none h1 hp
    exact ⟨by rw [upd_ne n]; exact h1, by rw [upd_ne n]; exact h2⟩
  · by_cases h : a = p
    · subst h; exact .inr (.inl (o.h0 hp))
    · rw [upd_ne h] at e; exact o.new a x e
/-- an object that is not shared is written -/
theorem Core.write {u0 : HO} (o : Core C S b H) (h0 : H p = some u0) (hl : plainB u0 = true) (h1 : S p = none) (h2 : C.H0 p = none) (h3 : C.ba ≠ some p) : Core C S b (upd H p u) := by
  refine ⟨fun a x e => ?_, fun a x e hb => ?_, fun a e => ?_, o.new, o.nt, o.ns, tabs_upd o.tb h0 hl⟩
  · rw [upd_ne (ne_of_none e h1)]; exact o.sub a x e
  · rw [upd_ne (ne_of_none e h2)]; exact o.fr a x e hb
  · obtain ⟨q1, q2⟩ := o.bag a e
    exact ⟨by rw [upd_ne (fun z => h3 (by rw [← z]; exact e))]; exact q1, q2⟩
theorem Core.shareL {u0 u' : HO} (o : Core C S b H) (h0 : H p = some u0) (hl : plainB u0 = true) (hu : plainB u' = true) (h1 : S p = none) (h2 : C.H0 p = none) (h3 : C.ba ≠ some p) : Core C (upd S p u') b (upd H p u') := by
  refine ⟨fun a x e => ?_, fun a x e hb => ?_, fun a e => ?_, fun a x e => ?_, o.nt, noTbl_upd o.ns hu, tabs_upd o.tb h0 hl⟩
  · by_cases z : a = p
    · subst z; rw [upd_same] at e ⊢; exact e
    · rw [upd_ne z] at e ⊢; exact o.sub a x e
  · rw [upd_ne (ne_of_none e h2)]; exact o.fr a x e hb
  · obtain ⟨q1, q2⟩ := o.bag a e
    have n : a ≠ p := fun z => h3 (by rw [← z]; exact e)
    exact ⟨by rw [upd_ne n]; exact q1, by rw [upd_ne n]; exact q2⟩
  · by_cases z : a = p
    · subst z; exact .inr (.inl h2)
    · rw [upd_ne z] at e; exact o.new a x e
theorem Core.share (o : Core C S b H) (h : H p = some u) (hl : plainB u = true) (h1 : S p = none) (h2 : C.H0 p = none) (h3 : C.ba ≠ some p) : Core C (upd S p u) b H := by
  have := o.shareL (u' := u) h hl hl h1 h2 h3
  rw [upd_at h] at this
  exact this
theorem OkS.get {i : Nat} {d : D} (o : OkS K C S ρ b σ H) (e : ρ[i]? = some (some (.sh d))) : ∃ v, σ[i]? = some (some v) ∧ DR K C.ba S v d := by
  obtain ⟨O, s, _⟩ := o.sl
  exact s.getSh e
theorem OkS.alloc (o : OkS K C S ρ b σ H) (hp : H p = none) (pu : plainB u = true := by rfl) : OkS K C (upd S p u) ρ b σ (upd H p u) := by
  obtain ⟨c, O, s, w⟩ := o
  have ne : ∀ q ∈ O, q ≠ p := fun q hq => by
    obtain ⟨vs, h⟩ := s.there q hq
    exact ne_of_none h hp
  refine ⟨c.alloc hp pu, O, s.mono (same_upd (c.sn hp)) (fun q hq _ h => by rw [upd_ne (ne q hq)]; exact h), w.nd, fun q hq => ?_⟩
  rw [upd_ne (ne q hq)]
  exact w.al q hq
theorem OkS.same (o : OkS K C S ρ b σ H) (hp : H p = none) : Same S (upd S p u) := same_upd (o.core.sn hp)
theorem OkS.setSh {i : Nat} {v : V} {d : D} (o : OkS K C S ρ b σ H) (r : DR K C.ba S v d) : OkS K C S (ρ.set i (some (.sh d))) b (σ.set i (some v)) H := by
  obtain ⟨c, O, s, w⟩ := o
  obtain ⟨O', s', l⟩ := s.setSh r (i := i)
  exact ⟨c, O', s', w.sub l⟩
theorem Slots.setNo {ba : Option Addr} : ∀ {σ : L2.St} {ρ : Env} {O : List Addr} {i : Nat}, Slots K ba S H σ ρ O → ∃ O', Slots K ba S H (σ.set i none) (ρ.set i none) O' ∧ (O'.Sublist O)
  | _, _, _, _, .nil => ⟨[], .nil, .refl _⟩
  | _, _, _, 0, .no s => ⟨_, .no s, .refl _⟩
  | _, _, _, 0, .sh _ s => ⟨_, .no s, .refl _⟩
  | _, _, _, 0, .ow _ _ s => ⟨_, .no s, List.sublist_cons_self _ _⟩
  | _, _, _, i + 1, .no s => by
    obtain ⟨O', h, l⟩ := Slots.setNo (i := i) s
    exact ⟨O', .no h, l⟩
  | _, _, _, i + 1, .sh q s => by
    obtain ⟨O', h, l⟩ := Slots.setNo (i := i) s
    exact ⟨O', .sh q h, l⟩
  | _, _, _, i + 1, .ow h1 h2 s => by
    obtain ⟨O', h, l⟩ := Slots.setNo (i := i) s
    exact ⟨_, .ow h1 h2 h, l.cons_cons _⟩
theorem OkS.setNo {i : Nat} (o : OkS K C S ρ b σ H) : OkS K C S (ρ.set i none) b (σ.set i none) H := by
  obtain ⟨c, O, s, w⟩ := o
  obtain ⟨O', s', l⟩ := s.setNo (i := i)
  exact ⟨c, O', s', w.sub l⟩
theorem OkS.wipe (o : OkS K C S ρ b σ H) : ∀ vs : List Nat, OkS K C S (wipeE ρ vs) b (L2.wipe σ vs) H
  | [] => o
  | v :: vs => (OkS.wipe o vs).setNo
theorem OkF.shareL {u' : HO} (o : OkF K C S ρ b σ H p u) (hu : plainB u' = true := by first | rfl | exact lock_plain (OkF.pl ‹_›)) : OkS K C (upd S p u') ρ b σ (upd H p u') := by
  obtain ⟨c, h1, h2, h3, h4, ⟨O, s, w, n⟩, pl⟩ := o
  refine ⟨c.shareL h1 pl hu h2 h3 h4, O, s.mono (same_upd h2) (fun q hq vs h => by rw [upd_ne (fun z => n (by rw [← z]; exact hq))]; exact h), w.nd, fun q hq => ?_⟩
  rw [upd_ne (fun z => n (by rw [← z]; exact hq))]
  exact w.al q hq
theorem OkF.same {u' : HO} (o : OkF K C S ρ b σ H p u) : Same S (upd S p u') := same_upd o.sn
theorem OkF.setOw {d : D} {i : Nat} (o : OkF K C S ρ b σ H p u) (r : ODR K C.ba S u d) : OkS K C S (ρ.set i (some (.ow d))) b (σ.set i (some (.ref p))) H := by
  obtain ⟨c, h1, h2, h3, h4, ⟨O, s, w, n⟩, pl⟩ := o
  obtain ⟨O', s', nd, m⟩ := s.setOw h1 r (i := i) n w.nd
  refine ⟨c, O', s', nd, fun q hq => ?_⟩
  rcases m q hq with e | e
  · subst e; exact ⟨h2, h3, h4⟩
  · exact w.al q e
/-- an owned slot -/
theorem OkS.getOw {i : Nat} {d : D} (o : OkS K C S ρ b σ H) (e : ρ[i]? = some (some (.ow d))) :
    ∃ p u, σ[i]? = some (some (.ref p)) ∧ H p = some u ∧ ODR K C.ba S u d ∧ S p = none ∧ C.H0 p = none ∧ C.ba ≠ some p ∧
      (∀ u' d', ODR K C.ba S u' d' → OkS K C S (ρ.set i (some (.ow d'))) b σ (upd H p u')) ∧ ∀ od, OkS K C (upd S p (lockU od u)) (ρ.set i (some (.sh d))) b σ (upd H p (lockU od u)) := by
  obtain ⟨c, O, s, w⟩ := o
  obtain ⟨p, u, e1, h1, h2, hp⟩ := s.getOw e
  obtain ⟨a1, a2, a3⟩ := w.al p hp
  refine ⟨p, u, e1, h1, h2, a1, a2, a3, fun u' d' r => ⟨c.write h1 h2.plain a1 a2 a3, O, s.write r w.nd e1 hp ⟨_, e⟩, w⟩, fun od => ⟨c.shareL h1 h2.plain (lock_plain h2.plain) a1 a2 a3, ?_⟩⟩
  -- the slot's own address is owned no more
  have hl : i < σ.length := (List.getElem?_eq_some_iff.mp e1).1
  have es : σ.set i (some (.ref p)) = σ := by
    apply List.ext_getElem?
    intro j
    by_cases hj : i = j
    · subst hj; rw [List.getElem?_set_self hl, e1]
    · rw [List.getElem?_set_ne hj]
  have key : ∀ {σ : L2.St} {ρ : Env} {O : List Addr} {i : Nat} {d : D}, Slots K C.ba S H σ ρ O → O.Nodup → (∀ q ∈ O, S q = none) → ρ[i]? = some (some (.ow d)) → σ[i]? = some (some (.ref p)) → p ∈ O →
      ∃ O', Slots K C.ba (upd S p (lockU od u)) (upd H p (lockU od u)) σ (ρ.set i (some (.sh d))) O' ∧ O'.Sublist O ∧ p ∉ O' := by
    intro σ ρ O i d s
    induction s generalizing i with
    | nil => intro _ _ e; simp at e
    | no s ih =>
      intro nd al e e1 hp
      cases i with
      | zero => simp at e
      | succ i =>
        obtain ⟨O', q1, q2, q3⟩ := ih nd al (by simpa using e) (by simpa using e1) hp
        exact ⟨O', .no q1, q2, q3⟩
    | sh r s ih =>
      intro nd al e e1 hp
      cases i with
      | zero => simp at e
      | succ i =>
        obtain ⟨O', q1, q2, q3⟩ := ih nd al (by simpa using e) (by simpa using e1) hp
        exact ⟨O', .sh (r.up (same_upd a1)) q1, q2, q3⟩
    | @ow p' u' d' σ ρ O g1 g2 s ih =>
      intro nd al e e1 hp
      cases i with
      | zero =>
        simp only [List.getElem?_cons_zero, Option.some.injEq, SD.ow.injEq] at e
        simp only [List.getElem?_cons_zero, Option.some.injEq, V.ref.injEq] at e1
        subst e
        subst e1
        rw [h1] at g1
        cases g1
        refine ⟨O, .sh ((g2.up (same_upd a1)).dr upd_same) (s.mono (same_upd a1) fun q hq _ z => by rw [upd_ne (fun y => (List.nodup_cons.mp nd).1 (by rw [← y]; exact hq))]; exact z), List.sublist_cons_self _ _, (List.nodup_cons.mp nd).1⟩
      | succ i =>
        simp only [List.getElem?_cons_succ] at e e1
        obtain ⟨q, ws, f1, _, _, f2⟩ := s.getOw e
        rw [e1] at f1
        cases f1
        obtain ⟨O', q1, q2, q3⟩ := ih (List.nodup_cons.mp nd).2 (fun q hq => al q (List.mem_cons_of_mem _ hq)) e e1 f2
        have ne : p ≠ p' := fun z => (List.nodup_cons.mp nd).1 (by rw [← z]; exact f2)
        refine ⟨p' :: O', .ow (by rw [upd_ne (fun y => ne y.symm)]; exact g1) (g2.up (same_upd a1)) q1, q2.cons_cons _, fun z => ?_⟩
        rcases List.mem_cons.mp z with z | z
        · exact ne z
        · exact q3 z
  obtain ⟨O', q1, q2, q3⟩ := key s w.nd (fun q hq => (w.al q hq).1) e e1 hp
  refine ⟨O', q1, (w.sub q2).nd, fun q hq => ?_⟩
  have ne : q ≠ p := fun z => q3 (by rw [← z]; exact hq)
  rw [upd_ne ne]
  exact (w.sub q2).al q hq
/-- the bag is written -/
theorem OkS.bagW {a : Addr} (o : OkS K C S ρ b σ H) (e : C.ba = some a) : OkS K C S ρ b' σ (upd H a (.lst [.int b'.x, .int b'.y, .int b'.z])) := by
  obtain ⟨c, O, s, w⟩ := o
  obtain ⟨h1, h2⟩ := c.bag a e
  refine ⟨⟨fun q x z => ?_, fun q x z hb => ?_, fun q z => ?_, c.new, c.nt, c.ns, tabs_upd c.tb h1 rfl⟩, O, s.mono (Same.refl _) (fun q hq vs z => ?_), w⟩
  · rw [upd_ne (ne_of_none z h2)]; exact c.sub q x z
  · rw [upd_ne (fun y => hb (by rw [y]; exact e))]; exact c.fr q x z hb
  · rw [e] at z; cases z; exact ⟨upd_same, h2⟩
  · rw [upd_ne (fun y => (w.al q hq).2.2 (by rw [y]; exact e))]; exact z
end

section
variable {K : PySem.W.Frag} {C : Cq} {W : WX} {S S1 : Hp} {ρ : Env} {σ : L2.St} {α β : Type}
theorem OutG.imp {R R' : α → Bag → Hp → Hp → Prop} {o : Out α} (h : OutG K C W S ρ σ R o) (f : ∀ a b S' H', Same S S' → OkS K C S' ρ b σ H' → R a b S' H' → R' a b S' H') : OutG K C W S ρ σ R' o := by
  cases o with
  | ok a b => exact fun S' H' e' ok => f a b S' H' e' ok (h S' H' e' ok)
  | ex c ns ds bx => exact h
  | stuck => exact h
end

abbrev BF := Env → Bag → Out Bool
/-- an expression; a test; arguments; a fresh list -/
def tD (K : PySem.W.Frag) (C : Cq) (W : WX) (F : EF) : TE := fun σ H Q => ∃ S ρ b, OkS K C S ρ b σ H ∧ OutG K C W S ρ σ (fun d _ S' H' => ∀ v, DR K C.ba S' v d → Q v H') (F ρ b)
def tDt (K : PySem.W.Frag) (C : Cq) (W : WX) (F : BF) : TT := fun σ H Q => ∃ S ρ b, OkS K C S ρ b σ H ∧ OutG K C W S ρ σ (fun k _ _ H' => Q k H') (F ρ b)
def tDA (K : PySem.W.Frag) (C : Cq) (W : WX) (F : AF) : TA := fun σ H Q => ∃ S ρ b, OkS K C S ρ b σ H ∧ OutG K C W S ρ σ (fun ds _ S' H' => ∀ vs, DRs K C.ba S' vs ds → Q vs H') (F ρ b)
/-- an outcome of a fresh list -/
def OutF (K : PySem.W.Frag) (C : Cq) (W : WX) (S : Hp) (ρ : Env) (σ : L2.St) (Q : VK) : Out D → Prop
  | .ok d b => ∀ S' H' p u, Same S S' → OkF K C S' ρ b σ H' p u → ODR K C.ba S' u d → Q (.ref p) H'
  | .ex c ns ds bx => ∀ (dx : Option Addr) (S' H' : Hp) (b : Bag), Same S S' → OkS K C S' ρ b σ H' → XR K C.ba S' dx ns ds → b = bx → W (.ref (He.ga K c)) dx σ H'
  | .stuck => False
def tDF (K : PySem.W.Frag) (C : Cq) (W : WX) (F : EF) : TE := fun σ H Q => ∃ S ρ b, OkS K C S ρ b σ H ∧ OutF K C W S ρ σ Q (F ρ b)

section
variable {X : Cx} {e : Expr} {t t' : TE}
/-- a thing told is locked behind the expression -/
def LkV (Q : VK) : VK := fun v H => Q v H ∨ ∃ p u, v = .ref p ∧ H p = some u ∧ Mut (some u) ∧ ∀ od, Q v (upd H p (.frz od u))
theorem pe_lk (h : PE X e t) : PE X e (fun σ H Q => t σ H (LkV Q)) := ⟨fun pins s σ H Q I q => thn (h.run pins s σ H _ I q) fun v s1 ⟨x, H1, I2, r, z⟩ => by
  rcases z with z | ⟨p, u, rfl, hp, mu, z⟩
  · exact ⟨x, H1, I2, r, z⟩
  · obtain ⟨od, I3⟩ := I2.lock hp mu
    exact ⟨_, _, I3, r, z od⟩⟩
/-- a thing is locked ahead of a statement -/
def LkS (t : TS) : TS := fun D σ H => t D σ H ∨ ∃ p u, H p = some u ∧ Mut (some u) ∧ ∀ od, t D σ (upd H p (.frz od u))
theorem ps_lk {st : Stmt} {t : TS} (h : PS X st t) : PS X st (LkS t) := ⟨fun pins s σ H D I q => by
  rcases q with q | ⟨p, u, hp, mu, q⟩
  · exact h.run pins s σ H D I q
  · obtain ⟨od, I3⟩ := I.lock hp mu
    exact h.run pins s σ _ D I3 (q od)⟩
/-- .. or behind it -/
def LkN (D : Ends) : Ends := { D with nx := fun σ H => D.nx σ H ∨ ∃ p u, H p = some u ∧ Mut (some u) ∧ ∀ od, D.nx σ (upd H p (.frz od u)) }
theorem ps_lkN {st : Stmt} {t : TS} (h : PS X st t) : PS X st (fun D σ H => t (LkN D) σ H) := ⟨fun pins s σ H D I q => thn (h.run pins s σ H (LkN D) I q) fun f s1 z => by
  cases f with
  | next =>
    obtain ⟨σ', H', I2, z⟩ := z
    rcases z with z | ⟨p, u, hp, mu, z⟩
    · exact ⟨σ', H', I2, z⟩
    · obtain ⟨od, I3⟩ := I2.lock hp mu
      exact ⟨σ', _, I3, z od⟩
  | brk => exact z
  | cont => exact z
  | ret v => exact z⟩
theorem pe_imp (h : PE X e t) (f : ∀ σ H Q, t' σ H Q → t σ H Q) : PE X e t' := ⟨fun pins s σ H Q I q => h.run pins s σ H Q I (f σ H Q q)⟩
theorem pt_imp {t t' : TT} (h : PT X e t) (f : ∀ σ H Q, t' σ H Q → t σ H Q) : PT X e t' := ⟨fun pins s σ H Q I q => h.run pins s σ H Q I (f σ H Q q)⟩
theorem pw_imp {t t' : TT} (h : PW X e t) (f : ∀ σ H Q, t' σ H Q → t σ H Q) : PW X e t' := ⟨fun wh pins s σ H Q I q => h.run wh pins s σ H Q I (f σ H Q q)⟩
theorem pa_imp {es : List Expr} {t t' : TA} (h : PA X es t) (f : ∀ σ H Q, t' σ H Q → t σ H Q) : PA X es t' := ⟨fun pos pins s σ H Q I q => h.run pos pins s σ H Q I (f σ H Q q)⟩
theorem ps_imp {st : Stmt} {t t' : TS} (h : PS X st t) (f : ∀ D σ H, t' D σ H → t D σ H) : PS X st t' := ⟨fun pins s σ H D I q => h.run pins s σ H D I (f D σ H q)⟩
theorem pss_imp {st : List Stmt} {t t' : TS} (h : PSs X st t) (f : ∀ D σ H, t' D σ H → t D σ H) : PSs X st t' := ⟨fun pins s σ H D I q => h.run pins s σ H D I (f D σ H q)⟩
theorem pg_imp {tg : Expr} {t t' : TG} (h : PG X tg t) (f : ∀ v σ H Q, t' v σ H Q → t v σ H Q) : PG X tg t' := ⟨fun pins s σ H v u Q I r q => h.run pins s σ H v u Q I r (f v σ H Q q)⟩
theorem pi_imp {tg it : Expr} {t t' : TI} (h : PI X tg it t) (f : ∀ σ H R, t' σ H R → t σ H R) : PI X tg it t' := ⟨fun pins s σ H R I q => h.run pins s σ H R I (f σ H R q)⟩
end

section
variable {X : Cx} {C : Cq} {W : WX} {e a b c : Expr} {pos : Pos} {F Fa Fb Fc : EF}
/-- a fresh list as a value -/
theorem d_share (h : PE X e (tDF X.K C W F)) : PE X e (tD X.K C W F) := pe_imp (pe_lk h) fun σ H Q ⟨S, ρ, b, ok, q⟩ => by
  refine ⟨S, ρ, b, ok, ?_⟩
  cases hF : F ρ b with
  | ok d b' =>
    rw [hF] at q
    intro S' H' p u es of r
    rcases r.how with hw | ⟨mu, hw⟩
    · have q' := q _ _ (es.trans of.same) (of.shareL (u' := lockU default u)) _ ((r.up of.same).dr upd_same)
      rw [hw default, upd_at of.at_] at q'
      exact .inl q'
    · refine .inr ⟨p, u, rfl, of.at_, mu, fun od => ?_⟩
      have q' := q _ _ (es.trans of.same) (of.shareL (u' := lockU od u)) _ ((r.up of.same).dr upd_same)
      rw [hw od] at q'
      exact q'
  | ex c ns ds bx => rw [hF] at q; exact q
  | stuck => rw [hF] at q; exact q
@[simp] def eV (i : Nat) : EF := fun ρ b => match ρ[i]? with
  | some (some (.sh d)) => .ok d b
  | _ => .stuck
theorem d_var {x : Str} {i : Nat} (h : PE X (.Name x pos) (tVar i)) : PE X (.Name x pos) (tD X.K C W (eV i)) := pe_imp h fun σ H Q ⟨S, ρ, b, ok, q⟩ => by
  unfold eV at q
  cases hr : ρ[i]? with
  | none => rw [hr] at q; exact q.elim
  | some o =>
    cases o with
    | none => rw [hr] at q; exact q.elim
    | some s =>
      cases s with
      | ow ds => rw [hr] at q; exact q.elim
      | sh d =>
        rw [hr] at q
        obtain ⟨v, hv, r⟩ := ok.get hr
        exact ⟨v, hv, q S H (Same.refl _) ok v r⟩
@[simp] def eC (d : D) : EF := fun _ b => .ok d b
theorem d_const {v : V} {d : D} (h : PE X e (tC v)) (r : ∀ S, DR X.K C.ba S v d) : PE X e (tD X.K C W (eC d)) := pe_imp h fun σ H Q ⟨S, ρ, b, ok, q⟩ => q S H (Same.refl _) ok v (r S)
theorem tOp_of {r : R2} {f : D → D → Option D} (hf : Op2 X.K C r f) {σ : L2.St} {H : Hp} {Q : VK} (h : tD X.K C W (e2 f Fa Fb) σ H Q) : tOp r (tD X.K C W Fa) (tD X.K C W Fb) σ H Q := by
  obtain ⟨S, ρ, b, ok, q⟩ := h
  refine ⟨S, ρ, b, ok, q.bind.imp fun x b1 S1 H1 s1 ok1 q1 v r1 => ⟨S1, ρ, b1, ok1, q1.bind.imp fun y b2 S2 H2 s2 ok2 q2 w r2 => ?_⟩⟩
  obtain ⟨z, hz, q3⟩ := q2.pureO
  exact hf S2 ρ b2 σ H2 v w x y z Q ok2 (r1.up s2) r2 hz fun u S' H' e o r => q3 S' H' e o u r
theorem d_op {op : Operator} {r : R2} {f : D → D → Option D} (ho : OpR X (binaryOp op) r) (hf : Op2 X.K C r f) (ha : PE X a (tD X.K C W Fa)) (hb : PE X b (tD X.K C W Fb)) : PE X (.BinOp a op b pos) (tD X.K C W (e2 f Fa Fb)) :=
  pe_imp (pe_op ho ha hb) fun _ _ _ h => tOp_of hf h
theorem d_cmp {op : CmpOp} {r : R2} {f : D → D → Option D} (ho : OpR X (compareOp op) r) (hf : Op2 X.K C r f) (ha : PE X a (tD X.K C W Fa)) (hb : PE X b (tD X.K C W Fb)) (hm : behindInMarks op b = false) : PE X (.Compare a [op] [b] pos) (tD X.K C W (e2 f Fa Fb)) :=
  pe_imp (pe_cmpR ho ha hb hm) fun _ _ _ h => tOp_of hf h
/-- a value as a test: a truth -/
@[simp] def bB (F : EF) : BF := fun ρ b => (F ρ b).bind fun d b' => match d with
  | .bl k => .ok k b'
  | _ => .stuck
theorem tTest_of {σ : L2.St} {H : Hp} {Q : Bool → Hp → Prop} (h : tDt X.K C W (bB F) σ H Q) : tD X.K C W F σ H (fun x H' => ∃ k, x = .bl k ∧ Q k H') := by
  obtain ⟨S, ρ, b, ok, q⟩ := h
  refine ⟨S, ρ, b, ok, q.bind.imp fun d b1 S1 H1 s1 ok1 q1 v r1 => ?_⟩
  cases d with
  | bl k => cases r1; exact ⟨k, rfl, q1 S1 H1 (Same.refl _) ok1⟩
  | non => exact q1.elim
  | int _ => exact q1.elim
  | str _ => exact q1.elim
  | tup _ => exact q1.elim
  | lst _ => exact q1.elim
  | fl _ => exact q1.elim
  | ins _ _ _ => exact q1.elim
  | obj _ => exact q1.elim
  | bag => exact q1.elim
  | dct _ _ => exact q1.elim
  | dtp _ _ => exact q1.elim
theorem d_tcmp {op : CmpOp} {r : R2} {f : D → D → Option D} (ho : OpR X (compareOp op) r) (hf : Op2 X.K C r f) (ha : PE X a (tD X.K C W Fa)) (hb : PE X b (tD X.K C W Fb)) (hm : behindInMarks op b = false) : PT X (.Compare a [op] [b] pos) (tDt X.K C W (bB (e2 f Fa Fb))) :=
  pt_imp (pt_cmpR ho ha hb hm) fun _ _ _ h => by
    have h' := tTest_of h
    exact tOp_of hf h'
theorem d_tval (h : PE X e (tD X.K C W F)) (he : ∀ whole, isTrue e X.env whole = (do let v ← whole; standAt e.pos; holding [v] (truthy v)) := by intro _; rfl) : PT X e (tDt X.K C W (bB F)) :=
  pt_imp (pt_val h he) fun _ _ _ h => tTest_of h
variable {Ga Gb : BF} {rest : List Expr}
@[simp] def bAnd (Ga Gb : BF) : BF := fun ρ b => (Ga ρ b).bind fun k b' => if k = true then Gb ρ b' else .ok false b'
@[simp] def bOr (Ga Gb : BF) : BF := fun ρ b => (Ga ρ b).bind fun k b' => if k = true then .ok true b' else Gb ρ b'
@[simp] def bNot (Ga : BF) : BF := fun ρ b => (Ga ρ b).bind fun k b' => .ok (!k) b'
theorem d_not (h : PT X a (tDt X.K C W Ga)) : PT X (.UnaryOp .Not a pos) (tDt X.K C W (bNot Ga)) := pt_imp (pt_not h) fun σ H Q ⟨S, ρ, b, ok, q⟩ =>
  ⟨S, ρ, b, ok, q.bind.imp fun k b1 S1 H1 s1 ok1 q1 => q1 S1 H1 (Same.refl _) ok1⟩
theorem d_and (ha : PT X a (tDt X.K C W Ga)) (hb : PW X (.BoolOp .And (b :: rest) pos) (tDt X.K C W Gb)) : PW X (.BoolOp .And (a :: b :: rest) pos) (tDt X.K C W (bAnd Ga Gb)) := pw_imp (pw_and ha hb) fun σ H Q ⟨S, ρ, b, ok, q⟩ =>
  ⟨S, ρ, b, ok, q.bind.imp fun k b1 S1 H1 s1 ok1 q1 => by
    cases k with
    | true => exact ⟨S1, ρ, b1, ok1, q1⟩
    | false => exact q1 S1 H1 (Same.refl _) ok1⟩
theorem d_or (ha : PT X a (tDt X.K C W Ga)) (hb : PW X (.BoolOp .Or (b :: rest) pos) (tDt X.K C W Gb)) : PW X (.BoolOp .Or (a :: b :: rest) pos) (tDt X.K C W (bOr Ga Gb)) := pw_imp (pw_or ha hb) fun σ H Q ⟨S, ρ, b, ok, q⟩ =>
  ⟨S, ρ, b, ok, q.bind.imp fun k b1 S1 H1 s1 ok1 q1 => by
    cases k with
    | true => exact q1 S1 H1 (Same.refl _) ok1
    | false => exact ⟨S1, ρ, b1, ok1, q1⟩⟩
/-- as values, truths all -/
@[simp] def eAnd (Fa Fb : EF) : EF := fun ρ b => (Fa ρ b).bind fun d b' => match d with
  | .bl k => if k = true then Fb ρ b' else .ok (.bl false) b'
  | _ => .stuck
@[simp] def eOr (Fa Fb : EF) : EF := fun ρ b => (Fa ρ b).bind fun d b' => match d with
  | .bl k => if k = true then .ok (.bl true) b' else Fb ρ b'
  | _ => .stuck
@[simp] def eNot (Fa : EF) : EF := fun ρ b => (Fa ρ b).bind fun d b' => match d with
  | .bl k => .ok (.bl (!k)) b'
  | _ => .stuck
theorem d_eand (ha : PE X a (tD X.K C W Fa)) (hb : PE X (.BoolOp .And (b :: rest) pos) (tD X.K C W Fb)) : PE X (.BoolOp .And (a :: b :: rest) pos) (tD X.K C W (eAnd Fa Fb)) := pe_imp (pe_and ha hb) fun σ H Q ⟨S, ρ, b, ok, q⟩ => by
  refine ⟨S, ρ, b, ok, q.bind.imp fun d b1 S1 H1 s1 ok1 q1 v r => ?_⟩
  cases d <;> first | exact q1.elim | skip
  rename_i k
  cases r
  refine ⟨k, rfl, ?_⟩
  cases k with
  | true => exact ⟨S1, ρ, b1, ok1, q1⟩
  | false => exact q1 S1 H1 (Same.refl _) ok1 _ (.bl _)
theorem d_eor (ha : PE X a (tD X.K C W Fa)) (hb : PE X (.BoolOp .Or (b :: rest) pos) (tD X.K C W Fb)) : PE X (.BoolOp .Or (a :: b :: rest) pos) (tD X.K C W (eOr Fa Fb)) := pe_imp (pe_or ha hb) fun σ H Q ⟨S, ρ, b, ok, q⟩ => by
  refine ⟨S, ρ, b, ok, q.bind.imp fun d b1 S1 H1 s1 ok1 q1 v r => ?_⟩
  cases d <;> first | exact q1.elim | skip
  rename_i k
  cases r
  refine ⟨k, rfl, ?_⟩
  cases k with
  | true => exact q1 S1 H1 (Same.refl _) ok1 _ (.bl _)
  | false => exact ⟨S1, ρ, b1, ok1, q1⟩
theorem d_enot (ha : PE X a (tD X.K C W Fa)) : PE X (.UnaryOp .Not a pos) (tD X.K C W (eNot Fa)) := pe_imp (pe_not ha) fun σ H Q ⟨S, ρ, b, ok, q⟩ => by
  refine ⟨S, ρ, b, ok, q.bind.imp fun d b1 S1 H1 s1 ok1 q1 v r => ?_⟩
  cases d <;> first | exact q1.elim | skip
  rename_i k
  cases r
  exact ⟨k, rfl, q1 S1 H1 (Same.refl _) ok1 _ (.bl _)⟩
@[simp] def eIf (G : BF) (Fa Fb : EF) : EF := fun ρ b => (G ρ b).bind fun k b' => if k = true then Fa ρ b' else Fb ρ b'
theorem d_if {G : BF} (hc : PT X c (tDt X.K C W G)) (ha : PE X a (tD X.K C W Fa)) (hb : PE X b (tD X.K C W Fb)) : PE X (.IfExp c a b pos) (tD X.K C W (eIf G Fa Fb)) := pe_imp (pe_ifExp hc ha hb) fun σ H Q ⟨S, ρ, b, ok, q⟩ =>
  ⟨S, ρ, b, ok, q.bind.imp fun k b1 S1 H1 s1 ok1 q1 => by
    cases k with
    | true => exact ⟨S1, ρ, b1, ok1, q1⟩
    | false => exact ⟨S1, ρ, b1, ok1, q1⟩⟩
@[simp] def aNil : AF := fun _ b => .ok [] b
@[simp] def aCons (F : EF) (G : AF) : AF := fun ρ b => (F ρ b).bind fun d b1 => (G ρ b1).bind fun ds b2 => .ok (d :: ds) b2
theorem d_anil : PA X [] (tDA X.K C W aNil) := pa_imp pa_nil fun σ H Q ⟨S, ρ, b, ok, q⟩ => q S H (Same.refl _) ok [] .nil
theorem d_acons {es : List Expr} {G : AF} (he : PE X e (tD X.K C W F)) (hr : PA X es (tDA X.K C W G)) (hs : starEach (e :: es) X.env = (false, eval e X.env) :: starEach es X.env := by rfl) : PA X (e :: es) (tDA X.K C W (aCons F G)) :=
  pa_imp (pa_cons he hr hs) fun σ H Q ⟨S, ρ, b, ok, q⟩ =>
    ⟨S, ρ, b, ok, q.bind.imp fun d b1 S1 H1 s1 ok1 q1 v r => ⟨S1, ρ, b1, ok1, q1.bind.imp fun ds b2 S2 H2 s2 ok2 q2 vs rs => q2 S2 H2 (Same.refl _) ok2 _ (.cons (r.up s2) rs)⟩⟩
/-- displays: at most a thousand items -/
@[simp] def eTup (G : AF) : EF := fun ρ b => (G ρ b).bind fun ds b' => if ds.length ≤ 100000 then .ok (.tup ds) b' else .stuck
@[simp] def eLst (G : AF) : EF := fun ρ b => (G ρ b).bind fun ds b' => if ds.length ≤ 100000 then .ok (.lst ds) b' else .stuck
theorem small_lt {n : Nat} (h : n ≤ 100000) : n < sizeLine := by rw [sizeLine_eq]; omega
theorem small_le {n : Nat} (h : n ≤ 100000) : n ≤ sizeLine := Nat.le_of_lt (small_lt h)
theorem d_tup {es : List Expr} {k} {G : AF} (h : PA X es (tDA X.K C W G)) : PE X (.Tuple es k pos) (tD X.K C W (eTup G)) := pe_imp (pe_tup h) fun σ H Q ⟨S, ρ, b, ok, q⟩ => by
  refine ⟨S, ρ, b, ok, q.bind.imp fun ds b1 S1 H1 s1 ok1 q1 vs r => ?_⟩
  by_cases hl : ds.length ≤ 100000
  · rw [if_pos hl] at q1
    refine ⟨small_le (by rw [r.length]; exact hl), fun p hp => ?_⟩
    exact q1 _ _ (ok1.same hp) (ok1.alloc hp) _ (.tup upd_same (r.up (ok1.same hp)))
  · rw [if_neg hl] at q1; exact q1.elim
theorem d_lst {es : List Expr} {G : AF} (h : PA X es (tDA X.K C W G)) : PE X (.List es pos) (tDF X.K C W (eLst G)) := pe_imp (pe_lst h) fun σ H Q ⟨S, ρ, b, ok, q⟩ => by
  refine ⟨S, ρ, b, ok, ?_⟩
  unfold eLst at q
  cases hG : G ρ b with
  | stuck => rw [hG] at q; exact q.elim
  | ex c ns ds bx => rw [hG] at q; exact q
  | ok ds b1 =>
    rw [hG] at q
    intro S1 H1 s1 ok1 vs r
    by_cases hl : ds.length ≤ 100000
    · have q : OutF X.K C W S ρ σ Q (if ds.length ≤ 100000 then .ok (.lst ds) b1 else .stuck) := q
      rw [if_pos hl] at q
      refine ⟨small_le (by rw [r.length]; exact hl), fun p hp => ?_⟩
      exact q S1 _ p _ s1 (ok1.fresh hp) (.lst r)
    · have q : OutF X.K C W S ρ σ Q (if ds.length ≤ 100000 then .ok (.lst ds) b1 else .stuck) := q
      rw [if_neg hl] at q
      exact q.elim
end
end DL

set_option maxHeartbeats 4000000
namespace DL
open PySem PySem.Spec PyProof.Rows L2
variable [TB : TabSet]
abbrev SF := Env → Bag → SO
def tDS (K : PySem.W.Frag) (C : Cq) (W : WX) (F : SF) : TS := fun E σ H => ∃ S ρ b, OkS K C S ρ b σ H ∧ SOk K C W S E (F ρ b)
section
variable {X : Cx} {C : Cq} {W : WX} {st : Stmt} {sts : List Stmt} {e : Expr} {pos : Pos} {F : EF} {G Gr : SF}
@[simp] def sNil : SF := fun ρ b => .nx ρ b
@[simp] def sSeq (G Gr : SF) : SF := fun ρ b => (G ρ b).seq Gr
theorem d_nil : PSs X [] (tDS X.K C W sNil) := pss_imp pss_nil fun E σ H ⟨S, ρ, b, ok, q⟩ => q S σ H (Same.refl _) ok
theorem d_cons (h1 : PS X st (tDS X.K C W G)) (h2 : PSs X sts (tDS X.K C W Gr)) : PSs X (st :: sts) (tDS X.K C W (sSeq G Gr)) := pss_imp (pss_cons h1 h2) fun E σ H ⟨S, ρ, b, ok, q⟩ => ⟨S, ρ, b, ok, q.seq⟩
theorem d_one (h1 : PS X st (tDS X.K C W G)) : PSs X [st] (tDS X.K C W G) := pss_one h1
@[simp] def sRet (F : EF) : SF := fun ρ b => (F ρ b).st ρ fun d b' => .rt d b'
theorem d_ret (h : PE X e (tD X.K C W F)) : PS X (.Return (some e) pos) (tDS X.K C W (sRet F)) := ps_imp (ps_ret h) fun E σ H ⟨S, ρ, b, ok, q⟩ =>
  ⟨S, ρ, b, ok, q.st.imp fun d b1 S1 H1 s1 ok1 q1 v r => q1 S1 H1 v (Same.refl _) ok1.core r⟩
/-- a fresh list handed back -/
@[simp] def sRetO (F : EF) : SF := fun ρ b => (F ρ b).st ρ fun ds b' => .ro ds b'
theorem outF_of {K : PySem.W.Frag} {S : Hp} {ρ : Env} {σ : L2.St} {E : Ends} {o : Out D} {k : D → Bag → SO} {Q : VK} (h : SOk K C W S E (o.st ρ k)) (f : ∀ d b S' H' p u, Same S S' → SOk K C W S' E (k d b) → OkF K C S' ρ b σ H' p u → ODR K C.ba S' u d → Q (.ref p) H') : OutF K C W S ρ σ Q o := by
  cases o with
  | ok ds b => exact fun S' H' p vs e o r => f ds b S' H' p vs e (SOk.up h e) o r
  | ex c ns ds bx => exact fun dx S' H' b e o x => h dx S' σ H' b e o x
  | stuck => exact h
theorem d_retO (h : PE X e (tDF X.K C W F)) : PS X (.Return (some e) pos) (tDS X.K C W (sRetO F)) := ps_imp (ps_ret h) fun E σ H ⟨S, ρ, b, ok, q⟩ =>
  ⟨S, ρ, b, ok, outF_of q fun ds b S' H' p vs _ q1 o r => q1 S' H' p vs (Same.refl _) o.core o.at_ o.sn o.h0 o.nba r⟩
@[simp] def sDrop (F : EF) : SF := fun ρ b => (F ρ b).st ρ fun _ b' => .nx ρ b'
theorem d_expr (h : PE X e (tD X.K C W F)) (hs : swapsWith e none pos.line X.env = pure false := by rfl) : PS X (.Expr e pos) (tDS X.K C W (sDrop F)) := ps_imp (ps_expr h hs) fun E σ H ⟨S, ρ, b, ok, q⟩ =>
  ⟨S, ρ, b, ok, q.st.imp fun d b1 S1 H1 s1 ok1 q1 v r => q1 S1 σ H1 (Same.refl _) ok1⟩
@[simp] def sIf (G : BF) (A B : SF) : SF := fun ρ b => (G ρ b).st ρ fun k b' => if k = true then A ρ b' else B ρ b'
theorem d_sif {c : Expr} {as bs : List Stmt} {G : BF} {A B : SF} (hc : PT X c (tDt X.K C W G)) (ha : PSs X as (tDS X.K C W A)) (hb : PSs X bs (tDS X.K C W B)) : PS X (.If c as bs pos) (tDS X.K C W (sIf G A B)) := ps_imp (ps_if hc ha hb) fun E σ H ⟨S, ρ, b, ok, q⟩ =>
  ⟨S, ρ, b, ok, q.st.imp fun k b1 S1 H1 s1 ok1 q1 => by
    cases k with
    | true => exact ⟨S1, ρ, b1, ok1, q1⟩
    | false => exact ⟨S1, ρ, b1, ok1, q1⟩⟩
abbrev GF := D → Env → Bag → Option (Env × Bag)
abbrev GsF := List D → Env → Bag → Option (Env × Bag)
/-- targets of an assignment or a for: they raise nothing, draw nothing -/
def tDG (K : PySem.W.Frag) (C : Cq) (g : GF) : TG := fun v σ H Q => ∃ S ρ b d ρ' b', OkS K C S ρ b σ H ∧ DR K C.ba S v d ∧ g d ρ b = some (ρ', b') ∧ ∀ S' σ' H', Same S S' → OkS K C S' ρ' b' σ' H' → Q σ' H'
@[simp] def gN (i : Nat) : GF := fun d ρ b => some (ρ.set i (some (.sh d)), b)
theorem d_gname {tg : Expr} {i : Nat} (h : PG X tg (gName i)) : PG X tg (tDG X.K C (gN i)) := pg_imp h fun v σ H Q ⟨S, ρ, b, d, ρ', b', ok, r, e, q⟩ => by
  cases e
  exact q S _ H (Same.refl _) (ok.setSh r)
@[simp] def gsN : GsF
  | [], ρ, b => some (ρ, b)
  | _ :: _, _, _ => none
@[simp] def gsC (g : GF) (gs : GsF) : GsF
  | [], _, _ => none
  | d :: ds, ρ, b => (g d ρ b).bind fun z => gs ds z.1 z.2
def tDGs (K : PySem.W.Frag) (C : Cq) (g : GsF) : TGs := fun vs σ H Q => ∃ S ρ b ds ρ' b', OkS K C S ρ b σ H ∧ DRs K C.ba S vs ds ∧ g ds ρ b = some (ρ', b') ∧ ∀ S' σ' H', Same S S' → OkS K C S' ρ' b' σ' H' → Q σ' H'
theorem pgs_imp {ts : List Expr} {t t' : TGs} (h : PGs X ts t) (f : ∀ vs σ H Q, t' vs σ H Q → t vs σ H Q) : PGs X ts t' := ⟨fun pins s σ H vs us Q I r q => h.run pins s σ H vs us Q I r (f vs σ H Q q)⟩
theorem d_gnil : PGs X [] (tDGs X.K C gsN) := pgs_imp pgs_nil fun vs σ H Q ⟨S, ρ, b, ds, ρ', b', ok, r, e, q⟩ => by
  cases ds with
  | nil => cases r; cases e; exact ⟨rfl, q S σ H (Same.refl _) ok⟩
  | cons d ds => cases e
theorem d_gcons {tg : Expr} {ts : List Expr} {g : GF} {gs : GsF} (h1 : PG X tg (tDG X.K C g)) (h2 : PGs X ts (tDGs X.K C gs)) (hs : (assignEach (tg :: ts) X.env).map (·.2) = assign tg X.env :: (assignEach ts X.env).map (·.2) := by rfl) :
    PGs X (tg :: ts) (tDGs X.K C (gsC g gs)) := pgs_imp (pgs_cons h1 h2 hs) fun vs σ H Q ⟨S, ρ, b, ds, ρ', b', ok, r, e, q⟩ => by
  cases ds with
  | nil => cases e
  | cons d ds =>
    cases r with
    | cons r1 r2 =>
      simp only [gsC, Option.bind_eq_some_iff] at e
      obtain ⟨z, e1, e2⟩ := e
      exact ⟨_, _, rfl, S, ρ, b, d, z.1, z.2, ok, r1, e1, fun S' σ' H' s' ok' => ⟨S', z.1, z.2, ds, ρ', b', ok', r2.up s', e2, fun S2 σ2 H2 s2 ok2 => q S2 σ2 H2 (s'.trans s2) ok2⟩⟩
@[simp] def gT (n : Nat) (gs : GsF) : GF := fun d ρ b => match d with
  | .tup ds => if ds.length = n then gs ds ρ b else none
  | _ => none
theorem d_gtup {es : List Expr} {k n : Nat} {gs : GsF} (hc : X.calm = true) (h : PGs X es (tDGs X.K C gs)) (hn : (assignEach es X.env).length = n := by rfl) (hst : (assignEach es X.env).findIdx? (·.1) = none := by rfl) :
    PG X (.Tuple es k pos) (tDG X.K C (gT n gs)) := pg_imp (pg_tup hc h hn hst) fun v σ H Q ⟨S, ρ, b, d, ρ', b', ok, r, e, q⟩ => by
  cases d with
  | tup ds =>
    cases r with
    | tup h1 h2 =>
      simp only [gT] at e
      by_cases hl : ds.length = n
      · rw [if_pos hl] at e
        exact ⟨_, _, rfl, seqT ok.core.sub h1, by rw [h2.length]; exact hl, S, ρ, b, ds, ρ', b', ok, h2, e, q⟩
      · rw [if_neg hl] at e; cases e
  | non => cases e
  | bl _ => cases e
  | int _ => cases e
  | str _ => cases e
  | lst _ => cases e
  | fl _ => cases e
  | ins _ _ _ => cases e
  | obj _ => cases e
  | bag => cases e
  | dct _ _ => cases e
  | dtp _ _ => cases e
@[simp] def sAsg (F : EF) (g : GF) : SF := fun ρ b => (F ρ b).st ρ fun d b' => match g d ρ b' with
  | some z => .nx z.1 z.2
  | none => .stuck
theorem sAsg_of {F : EF} {g : GF} {E : Ends} {σ : L2.St} {H : Hp} (h : tDS X.K C W (sAsg F g) E σ H) : tAsg (tD X.K C W F) (tDG X.K C g) E σ H := by
  obtain ⟨S, ρ, b, ok, q⟩ := h
  refine ⟨S, ρ, b, ok, q.st.imp fun d b1 S1 H1 s1 ok1 q1 v r => ?_⟩
  cases hg : g d ρ b1 with
  | none => rw [hg] at q1; exact q1.elim
  | some z =>
    rw [hg] at q1
    exact ⟨S1, ρ, b1, d, z.1, z.2, ok1, r, hg, fun S' σ' H' s' ok' => q1 S' σ' H' s' ok'⟩
/-- name = e; any target = e -/
theorem d_set {i : Nat} (h : PS X st (tAsg (tD X.K C W F) (gName i))) : PS X st (tDS X.K C W (sAsg F (gN i))) := ps_imp h fun E σ H q => by
  obtain ⟨S, ρ, b, ok, q⟩ := q
  exact ⟨S, ρ, b, ok, q.st.imp fun d b1 S1 H1 s1 ok1 q1 v r => q1 S1 _ H1 (Same.refl _) (ok1.setSh r)⟩
theorem d_asg {tg : Expr} {g : GF} (he : PE X e (tD X.K C W F)) (hg : PG X tg (tDG X.K C g)) (hs : swapsWithSole [tg] e pos.line X.env = pure false := by rfl) (hw : swappedStores [tg] e X.env = pure none := by rfl)
    (h1 : (assignEach [tg] X.env).map (·.2) = [assign tg X.env] := by rfl) : PS X (.Assign [tg] e pos) (tDS X.K C W (sAsg F g)) := ps_imp (ps_asg he hg hs hw h1) fun _ _ _ h => sAsg_of h
/-- name = a fresh list, owned -/
@[simp] def sOwn (F : EF) (i : Nat) : SF := fun ρ b => (F ρ b).st ρ fun ds b' => .nx (ρ.set i (some (.ow ds))) b'
theorem d_own {i : Nat} (h : PS X st (tAsg (tDF X.K C W F) (gName i))) : PS X st (tDS X.K C W (sOwn F i)) := ps_imp h fun E σ H ⟨S, ρ, b, ok, q⟩ =>
  ⟨S, ρ, b, ok, outF_of q fun ds b S' H' p vs _ q1 o r => q1 S' _ H' (Same.refl _) (o.setOw r)⟩
theorem d_setF {i : Nat} (h : PS X st (tAsg (tDF X.K C W F) (gName i))) : PS X st (tDS X.K C W (sAsg F (gN i))) := ps_imp (ps_lkN h) fun E σ H ⟨S, ρ, b, ok, q⟩ =>
  ⟨S, ρ, b, ok, outF_of (E := E) q fun d b S' H' p u _ q1 o r => by
    rcases r.how with hw | ⟨mu, hw⟩
    · have q' := q1 _ _ _ o.same ((o.shareL (u' := lockU default u)).setSh ((r.up o.same).dr upd_same))
      rw [hw default, upd_at o.at_] at q'
      exact .inl q'
    · refine .inr ⟨p, u, o.at_, mu, fun od => ?_⟩
      have q' := q1 _ _ _ o.same ((o.shareL (u' := lockU od u)).setSh ((r.up o.same).dr upd_same))
      rw [hw od] at q'
      exact q'⟩
/-- an owned slot is shared from here on -/
@[simp] def sFreeze (i : Nat) (G : SF) : SF := fun ρ b => match ρ[i]? with
  | some (some (.ow d)) => G (ρ.set i (some (.sh d))) b
  | _ => G ρ b
theorem tDS_freeze {i : Nat} {E : Ends} {σ : L2.St} {H : Hp} (h : tDS X.K C W (sFreeze i G) E σ H) : LkS (tDS X.K C W G) E σ H := by
  obtain ⟨S, ρ, b, ok, q⟩ := h
  unfold sFreeze at q
  cases hr : ρ[i]? with
  | none => rw [hr] at q; exact .inl ⟨S, ρ, b, ok, q⟩
  | some o =>
    cases o with
    | none => rw [hr] at q; exact .inl ⟨S, ρ, b, ok, q⟩
    | some s =>
      cases s with
      | sh d => rw [hr] at q; exact .inl ⟨S, ρ, b, ok, q⟩
      | ow d =>
        rw [hr] at q
        obtain ⟨p, u, _, hp, r, a1, a2, a3, _, sh⟩ := ok.getOw hr
        rcases r.how with hw | ⟨mu, hw⟩
        · have s' := sh default
          rw [hw default, upd_at hp] at s'
          exact .inl ⟨_, _, b, s', SOk.up q (same_upd a1)⟩
        · refine .inr ⟨p, u, hp, mu, fun od => ?_⟩
          have s' := sh od
          rw [hw od] at s'
          exact ⟨_, _, b, s', SOk.up q (same_upd a1)⟩
theorem d_freeze {i : Nat} (h : PS X st (tDS X.K C W G)) : PS X st (tDS X.K C W (sFreeze i G)) := ps_imp (ps_lk h) fun _ _ _ q => tDS_freeze q
end
end DL

set_option maxHeartbeats 400000
namespace DL
open PySem PySem.Spec PyProof.Rows L2
variable [TB : TabSet]
def tDI (K : PySem.W.Frag) (C : Cq) (W : WX) (F : AF) : TI := fun σ H R => ∃ S ρ b, OkS K C S ρ b σ H ∧ OutG K C W S ρ σ (fun ds _ S' H' => ∀ J, ItD K C.ba J ds S' → R J H') (F ρ b)
def seqOf : D → Option (List D)
  | .lst ds => some ds
  | .fl ds => some ds
  | _ => none
def aSeq (F : EF) : AF := fun ρ b => (F ρ b).bind fun d b' => Out.pureO (seqOf d) b'
def tupOf : D → Option (List D)
  | .tup ds => some ds
  | _ => none
def aTup (F : EF) : AF := fun ρ b => (F ρ b).bind fun d b' => Out.pureO (tupOf d) b'
/-- range(n) -/
def rangeOf (i : Int) : List D := (List.range i.toNat).map fun (k : Nat) => D.int (k : Int)
def aRng (G : AF) : AF := fun ρ b => (G ρ b).bind fun ds b' => match ds with
  | [.int i] => if -1000000 ≤ i ∧ i ≤ 1000000 then .ok (rangeOf i) b' else .stuck
  | _ => .stuck
section
variable {X : Cx} {C : Cq} {W : WX} {tg l e : Expr} {pos : Pos} {F : EF}
theorem seqL {K : PySem.W.Frag} {ba : Option Addr} {S : Hp} {v : V} {d : D} {ds : List D} (r : DR K ba S v d) (h : seqOf d = some ds) : ∃ a xs, v = .ref a ∧ SqL K S a xs ∧ DRs K ba S xs ds := by
  cases d <;> simp [seqOf] at h
  · subst h
    cases r with
    | lst h1 h2 => exact ⟨_, _, rfl, SqL.of h1, h2⟩
  · subst h
    cases r with
    | fl h1 h2 => exact ⟨_, _, rfl, h1, h2⟩
theorem itL {K : PySem.W.Frag} {ba : Option Addr} {S : Hp} {a : Addr} {xs : List V} {ds : List D} (h : SqL K S a xs) (r : DRs K ba S xs ds) : ItD K ba (Itl K a) ds S := fun C hC i S' ρ b σ H e ok => by
  have hS : SqL K H a xs := (e.trans ok.core.sub).seq h
  refine ⟨fun d hd => ?_, fun hl => ⟨xs, hS, by rw [r.length]; exact Nat.le_of_eq hl⟩⟩
  obtain ⟨v, hv, rv⟩ := r.get hd
  refine ⟨⟨xs, v, hS, hv⟩, fun x H' y => ?_⟩
  obtain ⟨e1, y⟩ := y
  subst e1
  have hx := y xs hS
  rw [hv] at hx
  cases hx
  exact ⟨S', Same.refl _, ok, rv.up e, fun _ _ z => z⟩
theorem itT {K : PySem.W.Frag} {ba : Option Addr} {S : Hp} {a : Addr} {xs : List V} {ds : List D} (h : S a = some (.tup xs)) (r : DRs K ba S xs ds) : ItD K ba (Itt K a) ds S := fun C hC i S' ρ b σ H e ok => by
  have hS : SqT K H a xs := seqT (e.trans ok.core.sub) h
  refine ⟨fun d hd => ?_, fun hl => ⟨xs, hS, by rw [r.length]; exact Nat.le_of_eq hl⟩⟩
  obtain ⟨v, hv, rv⟩ := r.get hd
  refine ⟨⟨xs, v, hS, hv⟩, fun x H' y => ?_⟩
  obtain ⟨e1, y⟩ := y
  subst e1
  have hx := y xs hS
  rw [hv] at hx
  cases hx
  exact ⟨S', Same.refl _, ok, rv.up e, fun _ _ z => z⟩
theorem d_ilist (h : PE X l (tD X.K C W F)) : PI X tg l (tDI X.K C W (aSeq F)) := pi_imp (pi_list h) fun σ H R ⟨S, ρ, b, ok, q⟩ => by
  refine ⟨S, ρ, b, ok, q.bind.imp fun d b1 S1 H1 s1 ok1 q1 v r => ?_⟩
  obtain ⟨ds, hd, q2⟩ := q1.pureO
  obtain ⟨a, xs, rfl, h1, h2⟩ := seqL r hd
  exact ⟨a, rfl, ⟨xs, ok1.core.sub.seq h1⟩, q2 S1 H1 (Same.refl _) ok1 _ (itL h1 h2)⟩
theorem d_ituple (h : PE X l (tD X.K C W F)) : PI X tg l (tDI X.K C W (aTup F)) := pi_imp (pi_tup h) fun σ H R ⟨S, ρ, b, ok, q⟩ => by
  refine ⟨S, ρ, b, ok, q.bind.imp fun d b1 S1 H1 s1 ok1 q1 v r => ?_⟩
  obtain ⟨ds, hd, q2⟩ := q1.pureO
  cases d <;> simp [tupOf] at hd
  subst hd
  cases r with
  | tup h1 h2 => exact ⟨_, rfl, ⟨_, seqT ok1.core.sub h1⟩, q2 S1 H1 (Same.refl _) ok1 _ (itT h1 h2)⟩
theorem itR {K : PySem.W.Frag} {ba : Option Addr} {S : Hp} (n : Nat) : ItD K ba (Itr 0 n) ((List.range n).map fun (k : Nat) => D.int (k : Int)) S := fun C hC i S' ρ b σ H e ok => by
  refine ⟨fun d hd => ?_, fun hl => ?_⟩
  · rw [List.getElem?_map] at hd
    by_cases hi : i < n
    · rw [List.getElem?_eq_getElem (by simpa using hi)] at hd
      simp at hd
      subst hd
      refine ⟨hi, fun x H' y => ?_⟩
      obtain ⟨e1, y⟩ := y
      subst e1
      subst y
      refine ⟨S', Same.refl _, ok, ?_, fun _ _ z => z⟩
      rw [Int.zero_add]
      exact .int _
    · rw [List.getElem?_eq_none (by simpa using hi)] at hd
      simp at hd
  · show n ≤ i
    have hl' : n = i := by simpa using hl
    omega
theorem d_irange {a : Expr} {G : AF} {p : Pos} (hg : Gl X "range") (hm : X.mg "range" = none) (ha : PA X [a] (tDA X.K C W G)) (hs : starEach [a] X.env = [(false, eval a X.env)] := by rfl) : PI X tg (.Call (.Name "range" p) [a] [] pos) (tDI X.K C W (aRng G)) :=
  pi_imp (pi_range1 hg hm ha hs) fun σ H R ⟨S, ρ, b, ok, q⟩ => by
  refine ⟨S, ρ, b, ok, q.bind.imp fun ds b1 S1 H1 s1 ok1 q1 vs r => ?_⟩
  split at q1
  · rename_i i
    cases r with
    | cons r1 r2 =>
      cases r2
      cases r1
      by_cases h : -1000000 ≤ i ∧ i ≤ 1000000
      · rw [if_pos h] at q1
        refine ⟨i, rfl, by omega, by omega, q1 S1 H1 (Same.refl _) ok1 _ (itR _)⟩
      · rw [if_neg h] at q1; exact q1.elim
  · exact q1.elim
end
def loopD (g : GF) (B : SF) : List D → Env → Bag → SO
  | [], ρ, b => .nx ρ b
  | d :: ds, ρ, b => match g d ρ b with
    | none => .stuck
    | some z => match B z.1 z.2 with
      | .nx ρ2 b2 => loopD g B ds ρ2 b2
      | .ct ρ2 b2 => loopD g B ds ρ2 b2
      | .bk ρ2 b2 => .nx ρ2 b2
      | .rt d b2 => .rt d b2
      | .ro d b2 => .ro d b2
      | .ex ρ2 c ns es bx => .ex ρ2 c ns es bx
      | .stuck => .stuck
def sFor (F : AF) (g : GF) (B : SF) : SF := fun ρ b => (F ρ b).st ρ fun ds b' => loopD g B ds ρ b'
section
variable {X : Cx} {C : Cq} {W : WX} {tg iter : Expr} {pos : Pos} {F : AF} {g : GF} {B : SF}
theorem loop_ok {K : PySem.W.Frag} {J : It} {ds : List D} {S1 : Hp} {E : Ends} {σ : L2.St} {H : Hp} {ρ : Env} {b : Bag} (hJ : ItD K C.ba J ds S1) (ok : OkS K C S1 ρ b σ H) (h : SOk K C W S1 E (loopD g B ds ρ b)) :
    ∃ Wv : Nat → Nat → L2.St → Hp → Prop, (∃ m, Wv 0 m σ H) ∧ ∀ i m σ H, Wv i m σ H → (J.stop i H ∧ E.nx σ H) ∨ (J.go i H ∧ ∃ N : L2.St → Hp → Prop, (∀ σ' H', N σ' H' → ∃ m', m' < m ∧ Wv (i + 1) m' σ' H') ∧
      ∀ x H', J.yld i H x H' → tDG K C g x σ H' fun σ2 H2 => tDS K C W B { E with nx := N, ct := N, bk := E.nx } σ2 H2) := by
  refine ⟨fun i m σ H => m = ds.length - i ∧ i ≤ ds.length ∧ ∃ S' ρ b, Same S1 S' ∧ OkS K C S' ρ b σ H ∧ SOk K C W S' E (loopD g B (ds.drop i) ρ b), ⟨ds.length, by simp, Nat.zero_le _, S1, ρ, b, Same.refl _, ok, by simpa using h⟩, ?_⟩
  rintro i m σ H ⟨rfl, hi, S', ρ, b, e, ok, q⟩
  by_cases hlt : i < ds.length
  · have hd : ds[i]? = some ds[i] := List.getElem?_eq_getElem hlt
    obtain ⟨go, yl⟩ := (hJ C rfl i S' ρ b σ H e ok).1 _ hd
    rw [List.drop_eq_getElem_cons hlt] at q
    unfold loopD at q
    refine .inr ⟨go, fun σ' H' => i + 1 ≤ ds.length ∧ ∃ S2 ρ b, Same S1 S2 ∧ OkS K C S2 ρ b σ' H' ∧ SOk K C W S2 E (loopD g B (ds.drop (i + 1)) ρ b), fun σ' H' n => ⟨ds.length - (i + 1), by omega, rfl, n.1, n.2⟩, fun x H' y => ?_⟩
    obtain ⟨S2, e2, ok2, r, _⟩ := yl x H' y
    cases hg : g ds[i] ρ b with
    | none => rw [hg] at q; exact q.elim
    | some z =>
      rw [hg] at q
      refine ⟨S2, ρ, b, _, z.1, z.2, ok2, r, hg, fun S3 σ3 H3 e3 ok3 => ⟨S3, z.1, z.2, ok3, ?_⟩⟩
      have e13 : Same S1 S3 := (e.trans e2).trans e3
      dsimp only at q
      cases hB : B z.1 z.2 with
      | nx ρ2 b2 =>
        rw [hB] at q
        exact fun S4 σ4 H4 e4 ok4 => ⟨hlt, S4, ρ2, b2, e13.trans e4, ok4, SOk.up q ((e2.trans e3).trans e4)⟩
      | ct ρ2 b2 =>
        rw [hB] at q
        exact fun S4 σ4 H4 e4 ok4 => ⟨hlt, S4, ρ2, b2, e13.trans e4, ok4, SOk.up q ((e2.trans e3).trans e4)⟩
      | bk ρ2 b2 =>
        rw [hB] at q
        exact fun S4 σ4 H4 e4 ok4 => q S4 σ4 H4 ((e2.trans e3).trans e4) ok4
      | rt d b2 => rw [hB] at q; exact SOk.up (o := .rt d b2) q (e2.trans e3)
      | ro d b2 => rw [hB] at q; exact SOk.up (o := .ro d b2) q (e2.trans e3)
      | ex ρ2 c ns es bx => rw [hB] at q; exact SOk.up (o := .ex ρ2 c ns es bx) q (e2.trans e3)
      | stuck => rw [hB] at q; exact q
  · have e : i = ds.length := by omega
    subst e
    refine .inl ⟨(hJ C rfl _ S' ρ b σ H (by assumption) ok).2 rfl, ?_⟩
    rw [List.drop_length] at q
    exact q S' σ H (Same.refl _) ok
theorem d_for {body : List Stmt} (hp : PassesOwn (model X.prog X.w) X.A X.env X.xe) (hc : X.calm = true) (hi : PI X tg iter (tDI X.K C W F)) (hg : PG X tg (tDG X.K C g)) (hb : PSs X body (tDS X.K C W B)) (hs : ∀ x, foldedSetIterable iter X.env x = pure x := by intro _; rfl) :
    PS X (.For tg iter body [] pos) (tDS X.K C W (sFor F g B)) := ps_imp (ps_for hp hc hi hg hb hs) fun E σ H ⟨S, ρ, b, ok, q⟩ =>
  ⟨S, ρ, b, ok, q.st.imp fun ds b1 S1 H1 s1 ok1 q1 J hJ => loop_ok hJ ok1 q1⟩
end
def Out.noex {α : Type} (o : Out α) : Out α := match o with
  | .ok a b => .ok a b
  | .ex _ _ _ _ => .stuck
  | .stuck => .stuck
def lcD (g : GF) (T : BF) (F : EF) : List D → Env → Bag → Out (List D)
  | [], _, b => .ok [] b
  | d :: ds, ρ, b => match g d ρ b with
    | none => .stuck
    | some z => ((T z.1 z.2).noex).bind fun k b1 => if k = true then ((F z.1 b1).noex).bind fun y b2 => (lcD g T F ds ρ b2).bind fun ys b3 => .ok (y :: ys) b3 else lcD g T F ds ρ b1
@[simp] def eLc (Fi : AF) (vs : List Nat) (g : GF) (T : BF) (F : EF) : EF := fun ρ b => (Fi ρ b).bind fun ds b1 => if ds.length ≤ 100000 then (lcD g T F ds (wipeE (unown ρ) vs) b1).bind fun ys b2 => .ok (.lst ys) b2 else .stuck
abbrev W0 : WX := fun _ _ _ _ => False
def tDany (K : PySem.W.Frag) (F : EF) : TE := fun σ H Q => ∃ C, tD K C W0 F σ H Q
def tDtany (K : PySem.W.Frag) (F : BF) : TT := fun σ H Q => ∃ C, tDt K C W0 F σ H Q
theorem d_any {X : Cx} {e : Expr} {F : EF} (h : ∀ C, PE X e (tD X.K C W0 F)) : PE X e (tDany X.K F) := ⟨fun pins s σ H Q I ⟨C, q⟩ => (h C).run pins s σ H Q I q⟩
theorem d_tsany {X : Cx} {es : List Expr} {F : BF} (h : ∀ C, PTs X es (tDt X.K C W0 F)) : PTs X es (tDtany X.K F) := ⟨fun pins s σ H Q I ⟨C, q⟩ => (h C).run pins s σ H Q I q⟩
/-- a target of a comprehension's own names -/
def CTg (K : PySem.W.Frag) (g : TG) (f : GF) (vs : List Nat) : Prop := ∀ (C : Cq) (S : Hp) (ρ : Env) (b : Bag) (σ : L2.St) (H : Hp) (v : V) (d : D) (ρ' : Env) (b' : Bag) (Q : L2.St → Hp → Prop), OkS K C S ρ b σ H → DR K C.ba S v d → f d ρ b = some (ρ', b') →
  (∀ σ', wipe σ' vs = wipe σ vs → OkS K C S ρ' b' σ' H → Q σ' H) → g v σ H Q
theorem wipe_get : ∀ (vs : List Nat) (σ : L2.St) (j : Nat), (wipe σ vs)[j]? = if j ∈ vs ∧ j < σ.length then some none else σ[j]?
  | [], σ, j => by simp [wipe]
  | v :: vs, σ, j => by
    unfold wipe
    by_cases h : v = j
    · subst h
      by_cases hl : v < σ.length
      · rw [List.getElem?_set_self (by rw [wipe_length]; exact hl), if_pos ⟨List.mem_cons_self, hl⟩]
      · rw [List.getElem?_eq_none (by rw [List.length_set, wipe_length]; omega), if_neg (fun z => hl z.2), List.getElem?_eq_none (by omega)]
    · rw [List.getElem?_set_ne h, wipe_get vs σ j]
      have : (j ∈ v :: vs) ↔ j ∈ vs := by simp only [List.mem_cons]; exact ⟨fun z => z.elim (fun q => absurd q.symm h) id, .inr⟩
      simp only [this]
theorem wipe_set {vs : List Nat} {σ : L2.St} {i : Nat} {x : Option V} (h : i ∈ vs) : wipe (σ.set i x) vs = wipe σ vs := by
  apply List.ext_getElem?
  intro j
  rw [wipe_get, wipe_get, List.length_set]
  by_cases hj : j ∈ vs ∧ j < σ.length
  · rw [if_pos hj, if_pos hj]
  · rw [if_neg hj, if_neg hj]
    by_cases e : i = j
    · subst e
      have hl : σ.length ≤ i := by
        have : ¬ i < σ.length := fun z => hj ⟨h, z⟩
        omega
      rw [List.getElem?_eq_none (by rw [List.length_set]; exact hl), List.getElem?_eq_none hl]
    · rw [List.getElem?_set_ne e]
theorem ctg_name {K : PySem.W.Frag} {i : Nat} {vs : List Nat} (h : i ∈ vs) : CTg K (gName i) (gN i) vs := fun C S ρ b σ H v d ρ' b' Q ok r e q => by
  cases e
  exact q _ (wipe_set h) (ok.setSh r)
theorem gT2_of {i j : Nat} {d : D} {ρ ρ' : Env} {b b' : Bag} (e : gT 2 (gsC (gN i) (gsC (gN j) gsN)) d ρ b = some (ρ', b')) : ∃ x y, d = .tup [x, y] ∧ ρ' = (ρ.set i (some (.sh x))).set j (some (.sh y)) ∧ b' = b := by
  cases d with
  | tup ds =>
    unfold gT at e
    dsimp only at e
    cases ds with
    | nil => rw [if_neg (by decide)] at e; cases e
    | cons x ds =>
      cases ds with
      | nil => rw [if_neg (by simp)] at e; cases e
      | cons y ds =>
        cases ds with
        | nil =>
          rw [if_pos (by rfl)] at e
          have e' : some ((ρ.set i (some (.sh x))).set j (some (.sh y)), b) = some (ρ', b') := e
          cases e'
          exact ⟨x, y, rfl, rfl, rfl⟩
        | cons z ds => rw [if_neg (by simp)] at e; cases e
  | non => cases e
  | bl _ => cases e
  | int _ => cases e
  | str _ => cases e
  | lst _ => cases e
  | fl _ => cases e
  | ins _ _ _ => cases e
  | obj _ => cases e
  | bag => cases e
  | dct _ _ => cases e
  | dtp _ _ => cases e
theorem ctg_pair {K : PySem.W.Frag} {i j : Nat} {vs : List Nat} (h : i ∈ vs) (h' : j ∈ vs) : CTg K (gTup K 2 (gCons (gName i) (gCons (gName j) gNil))) (gT 2 (gsC (gN i) (gsC (gN j) gsN))) vs := fun C S ρ b σ H v d ρ' b' Q ok r e q => by
  obtain ⟨x, y, rfl, rfl, rfl⟩ := gT2_of e
  cases r with
  | tup h1 h2 =>
    cases h2 with
    | cons r1 h3 =>
      cases h3 with
      | cons r2 h4 =>
        cases h4
        exact ⟨_, _, rfl, seqT ok.core.sub h1, rfl, _, _, rfl, _, _, rfl, rfl, q _ ((wipe_set h').trans (wipe_set h)) ((ok.setSh r1).setSh r2)⟩
theorem wipe_idem {σ : L2.St} {vs : List Nat} : wipe (wipe σ vs) vs = wipe σ vs := by
  apply List.ext_getElem?
  intro j
  rw [wipe_get, wipe_length]
  by_cases hj : j ∈ vs ∧ j < σ.length
  · rw [if_pos hj, wipe_get, if_pos hj]
  · rw [if_neg hj]
section
variable {X : Cx} {C : Cq} {W : WX} {e : Expr} {Fi : AF} {g : TG} {f : GF} {T : BF} {F : EF} {vs : List Nat}
/-- one more item on a fresh list -/
theorem OkF.push {K : PySem.W.Frag} {S S' H H' : Hp} {ρ : Env} {b b' : Bag} {σ : L2.St} {p : Addr} {xs : List V} {y : V} (o : OkF K C S ρ b σ H p (.lst xs)) (d : Core (inner C S H) S' b' H') (es : Same S S') :
    H' p = some (.lst xs) ∧ OkF K C S' ρ b' σ (upd H' p (.lst (xs ++ [y]))) p (.lst (xs ++ [y])) ∧ OkF K C S' ρ b' σ H' p (.lst xs) := by
  obtain ⟨c, h1, h2, h3, h4, ⟨O, s, w, n⟩, pl⟩ := o
  have hp : H' p = some (.lst xs) := d.fr p _ (noTb_pl h1 pl) h4
  have sn : S' p = none := by
    cases q : S' p with
    | none => rfl
    | some u =>
      rcases d.new p u q with h | h | ⟨ys, h⟩
      · have z : S p = some u := h
        rw [h2] at z; cases z
      · have z : noTb H p = none := h
        rw [noTb_pl h1 pl] at z; cases z
      · have z := d.sub _ _ q
        rw [hp, h] at z; cases z
  obtain ⟨c', O', s', w'⟩ := OkS.frame ⟨c, O, s, w⟩ d es
  have fr := OkS.frame ⟨c, O, s, w⟩ d es
  have sl : Slots K C.ba S' H' σ ρ O := s.mono es (fun q hq u h => d.fr q u (slots_pl s hq h) (w.al q hq).2.2)
  have ow : Own C S' O := by
    refine ⟨w.nd, fun q hq => ⟨?_, (w.al q hq).2⟩⟩
    cases z : S' q with
    | none => rfl
    | some u =>
      rcases d.new q u z with h | h | ⟨ys, h⟩
      · have y : S q = some u := h
        rw [(w.al q hq).1] at y
        cases y
      · obtain ⟨u', hu⟩ := s.there q hq
        have y : noTb H q = none := h
        rw [slots_pl s hq hu] at y
        cases y
      · obtain ⟨u', hu, nt⟩ := s.thereO q hq
        have y := d.sub _ _ z
        rw [d.fr q u' (slots_pl s hq hu) (w.al q hq).2.2, h] at y
        exact absurd (Option.some.inj y) (nt ys)
  refine ⟨hp, ⟨fr.core.write hp rfl sn h3 h4, upd_same, sn, h3, h4, ⟨O, sl.mono (Same.refl _) (fun q hq u h => ?_), ow, n⟩, rfl⟩, fr.core, hp, sn, h3, h4, ⟨O, sl, ow, n⟩, rfl⟩
  rw [upd_ne (fun z => n (by rw [← z]; exact hq))]
  exact h
theorem noex_out {K : PySem.W.Frag} {S : Hp} {ρ : Env} {σ : L2.St} {α : Type} {R : α → Bag → Hp → Hp → Prop} {o : Out α} {a : α} {b : Bag} (h : o.noex = .ok a b) (q : ∀ S' H', Same S S' → OkS K C S' ρ b σ H' → R a b S' H') : OutG K C W0 S ρ σ R o := by
  cases o with
  | ok a' b' => cases h; exact q
  | ex c ns ds bx => cases h
  | stuck => cases h
theorem bind_ok {α β : Type} {o : Out α} {k : α → Bag → Out β} {z : β} {b : Bag} (h : o.bind k = .ok z b) : ∃ a b1, o = .ok a b1 ∧ k a b1 = .ok z b := by
  cases o with
  | ok a b1 => exact ⟨a, b1, rfl, h⟩
  | ex c ns ds bx => cases h
  | stuck => cases h
theorem lcD_noex : ∀ {ds : List D} {ρ : Env} {b : Bag} {c : Str} {ns : List Str} {es : List D} {bx : Bag}, lcD f T F ds ρ b ≠ .ex c ns es bx
  | [], _, _, _, _, _, _, h => by cases h
  | d :: ds, ρ, b, c, ns, es, bx, h => by
    unfold lcD at h
    split at h
    · cases h
    · rename_i z _
      cases hT : T z.1 z.2 with
      | ex _ _ _ => rw [hT] at h; cases h
      | stuck => rw [hT] at h; cases h
      | ok k b1 =>
        rw [hT] at h
        have h : (if k = true then ((F z.1 b1).noex).bind fun y b2 => (lcD f T F ds ρ b2).bind fun ys b3 => .ok (y :: ys) b3 else lcD f T F ds ρ b1) = Out.ex c ns es bx := h
        cases k with
        | false => rw [if_neg Bool.false_ne_true] at h; exact lcD_noex h
        | true =>
          rw [if_pos rfl] at h
          cases hF : F z.1 b1 with
          | ex _ _ _ => rw [hF] at h; cases h
          | stuck => rw [hF] at h; cases h
          | ok y b2 =>
            rw [hF] at h
            have h : ((lcD f T F ds ρ b2).bind fun ys b3 => .ok (y :: ys) b3) = Out.ex c ns es bx := h
            cases hL : lcD f T F ds ρ b2 with
            | ok _ _ => rw [hL] at h; cases h
            | stuck => rw [hL] at h; cases h
            | ex _ _ _ => exact lcD_noex hL
/-- [elt for target in iter if ..] -/
theorem lc_of (hT : CTg X.K g f vs) {σ : L2.St} {H : Hp} {Q : VK} (hh : tDF X.K C W (eLc Fi vs f T F) σ H Q) : tLc (tDI X.K C W Fi) g (tDtany X.K T) (tDany X.K F) vs σ H Q := by
  obtain ⟨S, ρ, b, ok, q⟩ := hh
  refine ⟨S, ρ, b, ok, ?_⟩
  unfold eLc at q
  cases hF : Fi ρ b with
  | stuck => rw [hF] at q; exact q.elim
  | ex c ns ds bx => rw [hF] at q; exact q
  | ok ds b1 =>
    rw [hF] at q
    have q : OutF X.K C W S ρ σ Q (if ds.length ≤ 100000 then (lcD f T F ds (wipeE (unown ρ) vs) b1).bind fun ys b2 => .ok (.lst ys) b2 else .stuck) := q
    by_cases hl : ds.length ≤ 100000
    · rw [if_pos hl] at q
      intro S1 H1 e1 ok1 J hJ Dd hD
      cases hL : lcD f T F ds (wipeE (unown ρ) vs) b1 with
      | stuck => rw [hL] at q; exact q.elim
      | ex c ns es bx => exact absurd hL lcD_noex
      | ok ys b2 =>
        rw [hL] at q
        have q : ∀ S' H' p u, Same S S' → OkF X.K C S' ρ b2 σ H' p u → ODR X.K C.ba S' u (.lst ys) → Q (.ref p) H' := q
        refine ⟨fun i m H => m = ds.length - i ∧ i ≤ ds.length ∧ ∃ S' b xs pre rest, Same S1 S' ∧ OkF X.K C S' ρ b σ H Dd (.lst xs) ∧ DRs X.K C.ba S' xs pre ∧ xs.length ≤ i ∧ lcD f T F (ds.drop i) (wipeE (unown ρ) vs) b = .ok rest b2 ∧ pre ++ rest = ys,
          ⟨ds.length, by simp, Nat.zero_le _, S1, b1, [], [], ys, Same.refl _, ok1.fresh hD, .nil, Nat.zero_le _, by simpa using hL, rfl⟩, ?_⟩
        rintro i m H ⟨rfl, hi, S', b', xs, pre, rest, e', of, rx, hxl, hr, hys⟩
        by_cases hlt : i < ds.length
        · have hd : ds[i]? = some ds[i] := List.getElem?_eq_getElem hlt
          have oks := of.ok
          obtain ⟨go, yl⟩ := (hJ C rfl i S' ρ b' σ H e' oks).1 _ hd
          rw [List.drop_eq_getElem_cons hlt] at hr
          unfold lcD at hr
          refine .inr ⟨go, fun H => i + 1 ≤ ds.length ∧ ∃ S' b xs pre rest, Same S1 S' ∧ OkF X.K C S' ρ b σ H Dd (.lst xs) ∧ DRs X.K C.ba S' xs pre ∧ xs.length ≤ i + 1 ∧ lcD f T F (ds.drop (i + 1)) (wipeE (unown ρ) vs) b = .ok rest b2 ∧ pre ++ rest = ys,
            fun H' n => ⟨ds.length - (i + 1), by omega, rfl, n.1, n.2⟩, fun x H' y => ?_⟩
          -- the item, seen from within
          have oki := (oks.inner).wipe vs
          have okw : OkS X.K (inner C S' H) S' (wipeE (unown ρ) vs) b' (wipe σ vs) H := oki
          obtain ⟨_, yl2⟩ := (hJ (inner C S' H) rfl i S' _ b' _ H e' okw).1 _ hd
          obtain ⟨S2, e2, ok2, r2, k2⟩ := yl2 x H' y
          split at hr
          · cases hr
          · rename_i z hg
            refine hT (inner C S' H) S2 _ b' _ H' x _ z.1 z.2 _ ok2 r2 hg fun σ2 hw ok3 => ⟨by rw [hw]; exact wipe_idem, ?_⟩
            obtain ⟨k, b3, hk, hr⟩ := bind_ok hr
            refine ⟨inner C S' H, S2, z.1, z.2, ok3, noex_out hk fun S4 H4 e4 ok4 => ?_⟩
            cases k with
            | false =>
              rw [if_neg Bool.false_ne_true] at hr ⊢
              obtain ⟨_, _, o3⟩ := of.push (y := x) ok4.core (e2.trans e4)
              exact ⟨hlt, S4, b3, xs, pre, rest, (e'.trans e2).trans e4, o3, rx.up (e2.trans e4), by omega, hr, hys⟩
            | true =>
              rw [if_pos rfl] at hr ⊢
              obtain ⟨y0, b5, hy, hr⟩ := bind_ok hr
              obtain ⟨ys', b6, hr1, hr2⟩ := bind_ok hr
              cases hr2
              refine ⟨inner C S' H, S4, z.1, b3, ok4, noex_out hy fun S5 H5 e5 ok5 v5 r5 => ?_⟩
              have e25 : Same S' S5 := (e2.trans e4).trans e5
              obtain ⟨a1, a2, _⟩ := of.push (y := v5) ok5.core e25
              refine ⟨xs, a1, small_lt (by omega), hlt, S5, b5, xs ++ [v5], pre ++ [y0], ys', e'.trans e25, a2, (rx.up e25).app (.cons r5 .nil), by simp; omega, hr1, ?_⟩
              rw [← hys]
              simp
        · have e : i = ds.length := by omega
          subst e
          rw [List.drop_length] at hr
          cases hr
          refine .inl ⟨(hJ C rfl _ S' ρ _ σ H e' of.ok).2 rfl, ?_⟩
          rw [List.append_nil] at hys
          subst hys
          exact q S' H Dd _ (e1.trans e') of (.lst rx)
    · rw [if_neg hl] at q
      exact q.elim
theorem d_lc (hT : CTg X.K g f vs) (h : PE X e (tLc (tDI X.K C W Fi) g (tDtany X.K T) (tDany X.K F) vs)) : PE X e (tDF X.K C W (eLc Fi vs f T F)) := pe_imp h fun _ _ _ hh => lc_of hT hh
theorem d_setlc {st : Stmt} {i : Nat} (hT : CTg X.K g f vs) (h : PS X st (tAsg (tLc (tDI X.K C W Fi) g (tDtany X.K T) (tDany X.K F) vs) (gName i))) : PS X st (tAsg (tDF X.K C W (eLc Fi vs f T F)) (gName i)) := ps_imp h fun _ _ _ hh => lc_of hT hh
end
end DL

set_option maxHeartbeats 1000000
namespace DL
open PySem PySem.Spec PyProof.Rows L2
variable [TB : TabSet]
abbrev DFn := List D → Bag → Out D
def OutD (K : PySem.W.Frag) (C : Cq) (S : Hp) (Q : VK) (E : XK) : Out D → Prop
  | .ok d b => ∀ S' H v, Same S S' → Core C S' b H → DR K C.ba S' v d → Q v H
  | .ex c ns ds bx => ∀ (dx : Option Addr) S' H b, Same S S' → Core C S' b H → XR K C.ba S' dx ns ds → b = bx → E (.ref (He.ga K c)) dx H
  | .stuck => False
/-- a def's promise by its function of data -/
def spD (K : PySem.W.Frag) (F : DFn) : Sp := fun vs H Q E => ∃ (S : Hp) (ba : Option Addr) (b : Bag) (ds : List D), Core ⟨noTb H, S, ba⟩ S b H ∧ DRs K ba S vs ds ∧ OutD K ⟨noTb H, S, ba⟩ S Q E (F ds b)
/-- .. that hands back a fresh object -/
def OutDF (K : PySem.W.Frag) (C : Cq) (S : Hp) (Q : VK) : Out D → Prop
  | .ok d b => ∀ S' H p u, Same S S' → Core C S' b H → H p = some u → S' p = none → C.H0 p = none → C.ba ≠ some p → ODR K C.ba S' u d → Q (.ref p) H
  | .ex _ _ _ _ => False
  | .stuck => False
def spDF (K : PySem.W.Frag) (F : DFn) : Sp := fun vs H Q _ => ∃ (S : Hp) (ba : Option Addr) (b : Bag) (ds : List D), Core ⟨noTb H, S, ba⟩ S b H ∧ DRs K ba S vs ds ∧ OutDF K ⟨noTb H, S, ba⟩ S Q (F ds b)
@[simp] def startE (n : Nat) (ds : List D) : Env := ds.map (fun d => some (.sh d)) ++ List.replicate (n - ds.length) none
def SO.outF : SO → Out D
  | .ro d b => .ok d b
  | _ => .stuck
/-- n names, m parameters -/
@[simp] def runD (n m : Nat) (G : SF) : DFn := fun ds b => if ds.length = m then (G (startE n ds) b).out else .stuck
@[simp] def runF (n m : Nat) (G : SF) : DFn := fun ds b => if ds.length = m then (G (startE n ds) b).outF else .stuck
theorem slots_none {K : PySem.W.Frag} {ba : Option Addr} {S H : Hp} : ∀ k : Nat, Slots K ba S H (List.replicate k none) (List.replicate k none) []
  | 0 => .nil
  | k + 1 => .no (slots_none k)
theorem slots_start {K : PySem.W.Frag} {ba : Option Addr} {S H : Hp} (k : Nat) : ∀ (ds : List D) (vs : List V), DRs K ba S vs ds → Slots K ba S H (vs.map some ++ List.replicate k none) (ds.map (fun d => some (.sh d)) ++ List.replicate k none) []
  | [], _, r => by cases r; exact slots_none k
  | d :: ds, _, r => by
    cases r with
    | cons r1 r2 => exact .sh r1 (slots_start k ds _ r2)
theorem okS_start {K : PySem.W.Frag} {ba : Option Addr} {S H : Hp} {vs : List V} {ds : List D} {b : Bag} {N : List Str} (c : Core ⟨noTb H, S, ba⟩ S b H) (r : DRs K ba S vs ds) : OkS K ⟨noTb H, S, ba⟩ S (startE N.length ds) b (start N vs) H := by
  refine ⟨c, [], ?_, List.nodup_nil, fun _ h => by cases h⟩
  unfold startE L2.start
  rw [r.length]
  exact slots_start _ _ _ r
abbrev WD (E : XK) : WX := fun cls d _ H => E cls d H
variable {Gd Gd' : Around → Prop}
section
variable {P : Program} {w : World} {K : PySem.W.Frag} {mg : Str → Option Value} {base : Heap}
theorem spD_len {m : Nat} {G : SF} {n : Nat} {vs : List V} {H : Hp} {Q : VK} {E : XK} (h : spD K (runD n m G) vs H Q E) : vs.length = m := by
  obtain ⟨S, ba, b, ds, c, r, o⟩ := h
  by_cases hl : ds.length = m
  · rw [r.length, hl]
  · unfold runD at o
    rw [if_neg hl] at o
    exact o.elim
theorem spDF_len {m : Nat} {G : SF} {n : Nat} {vs : List V} {H : Hp} {Q : VK} {E : XK} (h : spDF K (runF n m G) vs H Q E) : vs.length = m := by
  obtain ⟨S, ba, b, ds, c, r, o⟩ := h
  by_cases hl : ds.length = m
  · rw [r.length, hl]
  · unfold runF at o
    rw [if_neg hl] at o
    exact o.elim
/-- THE RULE for a def -/
theorem d_def {x qual : Str} {st : Stmt} {f : Addr} {fd : FuncData} {N ps : List Str} {k : Nat} {G : SF} (F : Fun K x qual st f fd) (Sc : FnScope N ps (defScope st))
    (body : ∀ (cdv : Value) (A : Around) (outer : List PySem.Env) (s : Shared) (H : Hp) (E : XK) (C : Cq), Room k (A.deeper (envOfC qual (defScope st) s.heap.objs.size f cdv)) → Gd A →
      PSs (cxOf (L2.CX P w) P w K mg base N qual (defScope st) f cdv A outer s H E) (defBody st) (tDS K C (WD E) G)) : FnG P w K mg base Gd (k + 1) f fd ps (spD K (runD N.length ps.length G)) := by
  refine FnG.body F Sc (fun vs H Q E h => spD_len h) (fun cdv A outer s H vs Q E hr hg h => ?_)
  obtain ⟨S, ba, b, ds, c, r, o⟩ := h
  refine ⟨_, body cdv A outer s H E ⟨noTb H, S, ba⟩ hr hg, S, startE N.length ds, b, okS_start c r, ?_⟩
  unfold runD at o
  by_cases hl : ds.length = ps.length
  · rw [if_pos hl] at o
    cases hG : G (startE N.length ds) b with
    | nx ρ b' => rw [hG] at o; exact fun S' σ H' e ok => o S' H' .non e ok.core .non
    | rt d b' => rw [hG] at o; exact fun S' H' v e ok r => o S' H' v e ok r
    | ro d b' => rw [hG] at o; exact o.elim
    | bk ρ b' => rw [hG] at o; exact o.elim
    | ct ρ b' => rw [hG] at o; exact o.elim
    | ex ρ c ns es bx => rw [hG] at o; exact fun dx S' σ H' b e ok x => o dx S' H' b e ok.core x
    | stuck => rw [hG] at o; exact o
  · rw [if_neg hl] at o
    exact o.elim
theorem d_defF {x qual : Str} {st : Stmt} {f : Addr} {fd : FuncData} {N ps : List Str} {k : Nat} {G : SF} (F : Fun K x qual st f fd) (Sc : FnScope N ps (defScope st))
    (body : ∀ (cdv : Value) (A : Around) (outer : List PySem.Env) (s : Shared) (H : Hp) (E : XK) (C : Cq), Room k (A.deeper (envOfC qual (defScope st) s.heap.objs.size f cdv)) → Gd A →
      PSs (cxOf (L2.CX P w) P w K mg base N qual (defScope st) f cdv A outer s H E) (defBody st) (tDS K C (WD E) G)) : FnG P w K mg base Gd (k + 1) f fd ps (spDF K (runF N.length ps.length G)) := by
  refine FnG.body F Sc (fun vs H Q E h => spDF_len h) (fun cdv A outer s H vs Q E hr hg h => ?_)
  obtain ⟨S, ba, b, ds, c, r, o⟩ := h
  refine ⟨_, body cdv A outer s H E ⟨noTb H, S, ba⟩ hr hg, S, startE N.length ds, b, okS_start c r, ?_⟩
  unfold runF at o
  by_cases hl : ds.length = ps.length
  · rw [if_pos hl] at o
    cases hG : G (startE N.length ds) b with
    | nx ρ b' => rw [hG] at o; exact o.elim
    | rt d b' => rw [hG] at o; exact o.elim
    | ro d b' => rw [hG] at o; exact fun S' H' p u e ok h1 h2 h3 h4 r => o S' H' p u e ok h1 h2 h3 h4 r
    | bk ρ b' => rw [hG] at o; exact o.elim
    | ct ρ b' => rw [hG] at o; exact o.elim
    | ex ρ c ns es bx => rw [hG] at o; exact o.elim
    | stuck => rw [hG] at o; exact o
  · rw [if_neg hl] at o
    exact o.elim
end
@[simp] def eCall (F : DFn) (G : AF) : EF := fun ρ b => (G ρ b).bind fun ds b' => F ds b'
section
variable {X : Cx} {C : Cq} {W : WX} {e a b : Expr} {pos : Pos} {F Fa Fb : EF} {G : AF}
theorem spD_of {K : PySem.W.Frag} {Fn : DFn} {S : Hp} {ρ : Env} {b : Bag} {σ : L2.St} {H : Hp} {vs : List V} {ds : List D} {Q : VK} (ok : OkS K C S ρ b σ H) (r : DRs K C.ba S vs ds)
    (q : OutG K C W S ρ σ (fun d _ S' H' => ∀ v, DR K C.ba S' v d → Q v H') (Fn ds b)) : spD K Fn vs H Q (fun cls d H' => W cls d σ H') := by
  refine ⟨S, C.ba, b, ds, ok.core.inner, r, ?_⟩
  cases hF : Fn ds b with
  | ok d b' => rw [hF] at q; exact fun S' H' v e c r => q S' H' e (ok.frame c e) v r
  | ex c ns es bx => rw [hF] at q; exact fun dx S' H' b e c x => q dx S' H' b e (ok.frame c e) x
  | stuck => rw [hF] at q; exact q
/-- f(..), as a reading -/
def tCG (sp : Sp) (W : WX) (t : TA) : TE := fun σ H Q => t σ H fun vs H1 => sp vs H1 Q (fun c d H' => W c d σ H')
theorem pe_callG {k : Nat} {f : Addr} {fd : FuncData} {ps : List Str} {sp : Sp} {x : Str} {p : Pos} {es : List Expr} {t : TA} (FO : FnG X.prog X.w X.K X.mg X.base Gd k f fd ps sp) (hr : Room k X.A) (hgd : Gd X.A) (hg : Gl X x) (hm : X.mg x = some (.ref f)) (hk : PySem.W.keepIn X.K (.ref f) = true)
    (hb : Binds X.K fd ps []) (tk : Takes X W) (ha : PA X (e :: es) t) (hdb : (x == ("__debug__" : Str)) = false) (he : starEach (e :: es) X.env = (false, eval e X.env) :: starEach es X.env) (hpl : (backTo pos (starEach es X.env)).any (·.1) = false) :
    PE X (.Call (.Name x p) (e :: es) [] pos) (tCG sp W t) := ⟨fun pins s σ H Q I h =>
  wpAny_Call_Name_kw (ld_glob I hg hm (PySem.W.callWith_K (h₀ := X.base) I.ok.mod.kin hk (thn (ha.run pos pins s σ H _ I h) fun us s1 z => by
    obtain ⟨vs, H1, J, r, q⟩ := z
    have hl : us.length = ps.length := by rw [← r.length]; exact FO.many _ _ _ _ q
    have bt := hb s1 us J.kIn (by rw [List.append_nil]; exact hl)
    rw [List.append_nil] at bt
    exact ⟨J.kIn, FO.at_ hr hgd tk J bt r q⟩) he hpl) hdb)⟩
theorem d_call {k : Nat} {f : Addr} {fd : FuncData} {ps : List Str} {Fn : DFn} {x : Str} {p : Pos} {es : List Expr} (FO : FnG X.prog X.w X.K X.mg X.base Gd k f fd ps (spD X.K Fn)) (hr : Room k X.A) (hgd : Gd X.A) (hg : Gl X x) (hm : X.mg x = some (.ref f)) (hk : PySem.W.keepIn X.K (.ref f) = true)
    (hb : Binds X.K fd ps []) (tk : Takes X W) (ha : PA X (e :: es) (tDA X.K C W G)) (hdb : (x == ("__debug__" : Str)) = false := by decide) (he : starEach (e :: es) X.env = (false, eval e X.env) :: starEach es X.env := by rfl)
    (hpl : (backTo pos (starEach es X.env)).any (·.1) = false := by rfl) : PE X (.Call (.Name x p) (e :: es) [] pos) (tD X.K C W (eCall Fn G)) :=
  pe_imp (pe_callG FO hr hgd hg hm hk hb tk ha hdb he hpl) fun σ H Q ⟨S, ρ, b, ok, q⟩ =>
    ⟨S, ρ, b, ok, q.bind.imp fun ds b1 S1 H1 s1 ok1 q1 vs r => spD_of ok1 r q1⟩
/-- f(g(..)): g hands back a fresh list of three ints, which f takes as its bag -/
def eBag (Fn Bn : DFn) (G : AF) : EF := fun ρ b => (G ρ b).bind fun ds b' => match Bn ds b' with
  | .ok (.lst [.int x, .int y, .int z]) b2 => (match Fn [.bag] ⟨x, y, z⟩ with
    | .ok (.bl k) _ => .ok (.bl k) b2
    | _ => .stuck)
  | _ => .stuck
theorem outDF_three {K : PySem.W.Frag} {ba : Option Addr} {S : Hp} {u : HO} {x y z : Int} (r : ODR K ba S u (.lst [.int x, .int y, .int z])) : u = .lst [.int x, .int y, .int z] := by
  cases r with
  | lst r =>
    cases r with
    | cons r1 r =>
      cases r with
      | cons r2 r =>
        cases r with
        | cons r3 r =>
          cases r; cases r1; cases r2; cases r3
          rfl
theorem d_callBag {k kb : Nat} {f fb : Addr} {fd fdb : FuncData} {ps psb : List Str} {Fn Bn : DFn} {x xb : Str} {p pb posb : Pos} {e2 : Expr} {es : List Expr} (FO : FnG X.prog X.w X.K X.mg X.base Gd k f fd ps (spD X.K Fn)) (hr : Room k X.A) (hgd : Gd X.A) (hg : Gl X x) (hm : X.mg x = some (.ref f)) (hk : PySem.W.keepIn X.K (.ref f) = true)
    (hb : Binds X.K fd ps []) (tk : Takes X W) (FB : FnG X.prog X.w X.K X.mg X.base Gd' kb fb fdb psb (spDF X.K Bn)) (hrb : Room kb X.A) (hgd' : Gd' X.A) (hgb : Gl X xb) (hmb : X.mg xb = some (.ref fb)) (hkb : PySem.W.keepIn X.K (.ref fb) = true)
    (hbb : Binds X.K fdb psb []) (ha : PA X (e2 :: es) (tDA X.K C W G)) (hdb : (x == ("__debug__" : Str)) = false := by decide) (hdb2 : (xb == ("__debug__" : Str)) = false := by decide)
    (he2 : starEach (e2 :: es) X.env = (false, eval e2 X.env) :: starEach es X.env := by rfl) (hpl2 : (backTo posb (starEach es X.env)).any (·.1) = false := by rfl)
    (he : starEach [.Call (.Name xb pb) (e2 :: es) [] posb] X.env = (false, eval (.Call (.Name xb pb) (e2 :: es) [] posb) X.env) :: starEach [] X.env := by rfl) (hpl : (backTo pos (starEach [] X.env)).any (·.1) = false := by rfl) :
    PE X (.Call (.Name x p) [.Call (.Name xb pb) (e2 :: es) [] posb] [] pos) (tD X.K C W (eBag Fn Bn G)) :=
  pe_imp (pe_callG FO hr hgd hg hm hk hb tk (pa_cons (pe_callG FB hrb hgd' hgb hmb hkb hbb tk ha hdb2 he2 hpl2) pa_nil he) hdb he hpl) fun σ H Q ⟨S, ρ, b, ok, q⟩ => by
  refine ⟨S, ρ, b, ok, q.bind.imp fun ds b1 S1 H1 s1 ok1 q1 vs r => ?_⟩
  refine ⟨S1, C.ba, b1, ds, ok1.core.inner, r, ?_⟩
  split at q1
  · rename_i x y z b2 hB
    rw [hB]
    intro S2 H2 p2 u e2 c2 h1 h2 h3 h4 ro
    have hu := outDF_three ro
    subst hu
    split at q1
    · rename_i k b3 hF
      -- the callee sees nothing shared but has its bag at p2
      refine ⟨fun _ => none, some p2, ⟨x, y, z⟩, [.bag], ⟨fun a o e => (by cases e), fun a o e _ => (noTb_of e).1, fun a e => ?_, fun a o e => (by cases e), noTbl_no, fun a ps e => (by cases e), c2.tb⟩, .cons (.bag rfl) .nil, ?_⟩
      · cases e; exact ⟨h1, rfl⟩
      · rw [hF]
        intro S3 H3 v3 e3 c3 r3
        cases r3
        have hfr : ∀ a o, H2 a = some o → (∀ ps, o ≠ .tbl ps) → a ≠ p2 → H3 a = some o := fun a o h nn n => c3.fr a o (noTb_some h nn) (fun z => n (Option.some.inj z).symm)
        have c4 : Core (inner C S1 H1) S2 b2 H3 := by
          refine ⟨fun a o e => hfr a o (c2.sub a o e) (fun ps z => c2.ns a ps (by rw [e, z])) (ne_of_none e h2), fun a o e hb => hfr a o (c2.fr a o e hb) (fun ps z => c2.nt a ps (by rw [z] at e; exact e)) (ne_of_none e h3), fun a e => ?_, c2.new, c2.nt, c2.ns, c3.tb⟩
          obtain ⟨g1, g2⟩ := c2.bag a e
          exact ⟨hfr a _ g1 (fun ps z => by cases z) (fun z => h4 (by rw [← z]; exact e)), g2⟩
        have ok3 : OkS X.K C S2 ρ b2 σ H3 := ok1.frame c4 e2
        exact q1 S2 H3 e2 ok3 _ (.bl k)
    · exact q1.elim
  · exact q1.elim
end
end DL

set_option maxHeartbeats 1000000
namespace DL
open PySem PySem.Spec PyProof.Rows L2
variable [TB : TabSet]
theorem tuple_once (l : Addr) (items : Array Value) (n : Nat) (dd : Option Addr) (sl : Array (Option Value)) (u : Tok) (c1 : (items.isEmpty || (1 : Int) == 1) = true) :
    Meets (Builtin.«tuple.__mul__» ⟨[.ref l, .int 1 u], []⟩) (fun _ R s => s.heap.get? l = some { cls := .type "tuple", dict := dd, data := .seq items n, slots := sl } ∧ R (.ok (.ret (Value.ref l))) s) :=
  .of_wp fun prog w A R s h => by
    obtain ⟨hp, g, d, tk, os⟩ := s
    obtain ⟨hl, h⟩ := h
    have f1 := AutoSeq1.idx_int
    wp_walk using wpAny_loadPart' hl
    repeat (first
      | (refine wpAny_ite_false (by decide) ?_; wp_walk using wpAny_loadPart' hl)
      | (refine wpAny_ite_true c1 ?_; wp_walk using wpAny_loadPart' hl)
      | (refine wpAny_ite_true (by simp) ?_; wp_walk using wpAny_loadPart' hl))
    all_goals exact ⟨_, rfl, h⟩
def rOnce (K : PySem.W.Frag) : R2 := fun x y H Q => ∃ l xs, x = .ref l ∧ y = .int 1 ∧ SqT K H l xs ∧ Q (.ref l) H
theorem op_once {X : Cx} : OpR X (binaryOp .Mult) (rOnce X.K) := by
  intro pins s σ H x y v u Q I rx ry ⟨l, xs, hx, hy, hT, q⟩
  subst hx hy
  cases rx
  obtain ⟨t, rfl⟩ := ry
  obtain ⟨its, r, ⟨⟨cls, dd, data, sl⟩, ho, hc, n, hd⟩, hs⟩ := I.tuple hT
  simp only at hc hd
  subst hc hd
  refine wpAny_binaryOp_repeat_ref (T := "tuple") (U := "int") (by decide) ⟨_, ho, rfl⟩ (fun s' => typeIs_int s' 1 t) noFill_tuple_mul F.fills_int_mul F.slot_int_rmul
    repeat_tuple F.slot_int_index.lookup (call_meets F.slot_int_rmul (typeIs_int s 1 t) F.entry_int_rmul (F.args_int_rmul_2 _ _) (int_rmul_tuple 1 t l its.toArray n dd sl) ?_)
  refine ⟨ho, rfl, ⟨_, ho, rfl⟩, call_meets F.slot_tuple_mul ⟨_, ho, rfl⟩ F.entry_tuple_mul (F.args_tuple_mul_2 _ _) (tuple_once l its.toArray n dd sl t (by simp)) ⟨ho, ?_⟩⟩
  exact ⟨.ref l, H, I, rfl, q⟩
theorem big_le {n : Nat} (h : n ≤ 100000) : n ≤ sizeLine := by rw [sizeLine_eq]; omega
@[simp] def addF : D → D → Option D
  | .int i, .int j => some (.int (i + j))
  | .str x, .str y => if x.length + y.length ≤ 100000 then some (.str (x ++ y)) else none
  | .lst a, .lst b => if a.length + b.length ≤ 100000 then some (.lst (a ++ b)) else none
  | .tup a, .tup b => if a.length + b.length ≤ 100000 then some (.tup (a ++ b)) else none
  | _, _ => none
@[simp] def subF : D → D → Option D
  | .int i, .int j => some (.int (i - j))
  | _, _ => none
@[simp] def mulF : D → D → Option D
  | .str x, .int k => if (x.length ≤ 1000 ∧ -1000 ≤ k ∧ k ≤ 1000) ∨ (x.length ≤ 10000 ∧ -100 ≤ k ∧ k ≤ 100) then some (.str (Txt.mul x k)) else none
  | .int i, .int j => if (-(2 ^ 64) < i ∧ i < 2 ^ 64) ∨ (-(2 ^ 64) < j ∧ j < 2 ^ 64) then some (.int (i * j)) else none
  | .tup a, .int k => if 1 ≤ k ∧ k ≤ 1000 ∧ a.length ≤ 1000 ∧ 0 < a.length then some (.tup (List.replicate k.toNat a).flatten) else none
  | .lst a, .int k => if -1000 ≤ k ∧ k ≤ 1000 ∧ a.length ≤ 100 then some (.lst (List.replicate k.toNat a).flatten) else none
  | _, _ => none
@[simp] def modF : D → D → Option D
  | .int i, .int j => if 0 < j then some (.int (i % j)) else none
  | _, _ => none
@[simp] def fdivF : D → D → Option D
  | .int i, .int j => if 0 < j ∧ j < 1073741824 then some (.int (i / j)) else none
  | _, _ => none
def powF : D → D → Option D
  | .int i, .int j => if 0 ≤ j ∧ j ≤ 1000 ∧ i.natAbs < 2 ^ 64 then some (.int (i ^ j.toNat)) else none
  | _, _ => none
@[simp] def ltF : D → D → Option D
  | .int i, .int j => some (.bl (decide (i < j)))
  | .str i, .str j => some (.bl (decide (i.cps.toList < j.cps.toList)))
  | _, _ => none
@[simp] def leF : D → D → Option D
  | .int i, .int j => some (.bl (decide (i ≤ j)))
  | .str i, .str j => some (.bl (!decide (j.cps.toList < i.cps.toList)))
  | _, _ => none
@[simp] def gtF : D → D → Option D
  | .int i, .int j => some (.bl (decide (j < i)))
  | _, _ => none
@[simp] def geF : D → D → Option D
  | .int i, .int j => some (.bl (decide (j ≤ i)))
  | _, _ => none
def eqF (d e : D) : Option D := match d.pd, e.pd with
  | some p, some q => if SeqAt.shaped p = true ∧ SeqAt.shaped q = true then some (.bl (PyData.eqv p q)) else none
  | _, _ => none
def neF (d e : D) : Option D := match d.pd, e.pd with
  | some p, some q => if SeqAt.shaped p = true ∧ SeqAt.shaped q = true then some (.bl (!PyData.eqv p q)) else none
  | _, _ => none
theorem DRs.rep {K : PySem.W.Frag} {ba : Option Addr} {S : Hp} {vs : List V} {ds : List D} (h : DRs K ba S vs ds) : ∀ k : Nat, DRs K ba S (List.replicate k vs).flatten (List.replicate k ds).flatten
  | 0 => by simpa using DRs.nil
  | k + 1 => by
    rw [List.replicate_succ, List.replicate_succ, List.flatten_cons, List.flatten_cons]
    exact h.app (DRs.rep h k)
section
variable {X : Cx} {C : Cq} {W : WX} {e a b : Expr} {pos : Pos} {F Fa Fb : EF} {G : AF}
def rAddA (K : PySem.W.Frag) : R2 := fun x y H Q => (rI0 fun i j => .int (i + j)) x y H Q ∨ (∃ i j, x = .str i ∧ y = .str j ∧ i.length + j.length ≤ sizeLine ∧ Q (.str (i ++ j)) H) ∨ rCat x y H Q ∨ rCatA K x y H Q
theorem op_addA : OpR X (binaryOp .Add) (rAddA X.K) := op_add.or (op_add_str.or (op_cat.or op_catA))
theorem add2 {K : PySem.W.Frag} : Op2 K C (rAddA K) addF := by
  intro S ρ b σ H v w d e z Q ok r1 r2 hz q
  cases d with
  | int i =>
    cases e with
    | int j =>
      cases hz; cases r1; cases r2
      exact .inl ⟨i, j, rfl, rfl, q _ S H (Same.refl _) ok (.int _)⟩
    | _ => cases hz
  | str x =>
    cases e with
    | str y =>
      simp only [addF] at hz
      by_cases h : x.length + y.length ≤ 100000
      · rw [if_pos h] at hz
        cases hz; cases r1; cases r2
        exact .inr (.inl ⟨x, y, rfl, rfl, big_le h, q _ S H (Same.refl _) ok (.str _)⟩)
      · rw [if_neg h] at hz; cases hz
    | _ => cases hz
  | lst x =>
    cases e with
    | lst y =>
      simp only [addF] at hz
      by_cases h : x.length + y.length ≤ 100000
      · rw [if_pos h] at hz
        cases hz
        cases r1 with
        | lst h1 h2 =>
          cases r2 with
          | lst h3 h4 =>
            refine .inr (.inr (.inl ⟨_, _, _, _, rfl, rfl, ok.core.sub _ _ h1, ok.core.sub _ _ h3, by rw [h2.length, h4.length]; exact big_le h, fun p hp => ?_⟩))
            exact q _ _ _ (ok.same hp) (ok.alloc hp) (.lst upd_same ((h2.app h4).up (ok.same hp)))
      · rw [if_neg h] at hz; cases hz
    | _ => cases hz
  | tup x =>
    cases e with
    | tup y =>
      simp only [addF] at hz
      by_cases h : x.length + y.length ≤ 100000
      · rw [if_pos h] at hz
        cases hz
        cases r1 with
        | tup h1 h2 =>
          cases r2 with
          | tup h3 h4 =>
            refine .inr (.inr (.inr ⟨_, _, _, _, rfl, rfl, seqT ok.core.sub h1, seqT ok.core.sub h3, by rw [h2.length, h4.length]; exact big_le h, fun e0 => ?_, fun _ e0 => ?_, fun _ _ p hp => ?_⟩))
            · subst e0
              cases h2
              exact q _ S H (Same.refl _) ok (.tup h3 h4)
            · subst e0
              cases h4
              rw [List.append_nil] at q
              exact q _ S H (Same.refl _) ok (.tup h1 h2)
            · exact q _ _ _ (ok.same hp) (ok.alloc hp) (.tup upd_same ((h2.app h4).up (ok.same hp)))
      · rw [if_neg h] at hz; cases hz
    | _ => cases hz
  | _ => cases hz
theorem d_add (ha : PE X a (tD X.K C W Fa)) (hb : PE X b (tD X.K C W Fb)) : PE X (.BinOp a .Add b pos) (tD X.K C W (e2 addF Fa Fb)) := d_op op_addA add2 ha hb
theorem rI_of0 {f : Value → Value → Sem Value} {g : Int → Int → V} (h : OpR X f (rI0 g)) : OpR X f (rI (fun _ _ => True) g) := fun pins s σ H x y v u Q I rx ry ⟨i, j, e1, e2, _, q⟩ => h pins s σ H x y v u Q I rx ry ⟨i, j, e1, e2, q⟩
theorem d_sub (ha : PE X a (tD X.K C W Fa)) (hb : PE X b (tD X.K C W Fb)) : PE X (.BinOp a .Sub b pos) (tD X.K C W (e2 subF Fa Fb)) :=
  d_op (rI_of0 op_sub) (i2 (g' := fun i j => .int (i - j)) (fun d e z h => by
    unfold subF at h
    split at h
    · cases h; exact ⟨_, _, rfl, rfl, trivial, rfl⟩
    · cases h) fun _ _ _ => .int _) ha hb
theorem d_mod (ha : PE X a (tD X.K C W Fa)) (hb : PE X b (tD X.K C W Fb)) : PE X (.BinOp a .Mod b pos) (tD X.K C W (e2 modF Fa Fb)) :=
  d_op op_mod (i2 (g' := fun i j => .int (i % j)) (fun d e z h => by
    unfold modF at h
    split at h
    · split at h
      · cases h; exact ⟨_, _, rfl, rfl, by assumption, rfl⟩
      · cases h
    · cases h) fun _ _ _ => .int _) ha hb
theorem d_fdiv (ha : PE X a (tD X.K C W Fa)) (hb : PE X b (tD X.K C W Fb)) : PE X (.BinOp a .FloorDiv b pos) (tD X.K C W (e2 fdivF Fa Fb)) :=
  d_op op_fdiv (i2 (g' := fun i j => .int (i / j)) (fun d e z h => by
    unfold fdivF at h
    split at h
    · split at h
      · cases h; exact ⟨_, _, rfl, rfl, by assumption, rfl⟩
      · cases h
    · cases h) fun _ _ _ => .int _) ha hb
theorem d_pow (ha : PE X a (tD X.K C W Fa)) (hb : PE X b (tD X.K C W Fb)) : PE X (.BinOp a .Pow b pos) (tD X.K C W (e2 powF Fa Fb)) :=
  d_op op_pow (i2 (g' := fun i j => .int (i ^ j.toNat)) (fun d e z h => by
    unfold powF at h
    split at h
    · split at h
      · rename_i q
        cases h; exact ⟨_, _, rfl, rfl, ⟨q.1, by omega, q.2.2⟩, rfl⟩
      · cases h
    · cases h) fun _ _ _ => .int _) ha hb
def rMulS : R2 := fun x y H Q => ∃ (a : Str) (k : Int), x = .str a ∧ y = .int k ∧ ((a.length ≤ 1000 ∧ -1000 ≤ k ∧ k ≤ 1000) ∨ (a.length ≤ 10000 ∧ -100 ≤ k ∧ k ≤ 100)) ∧ Q (.str (Txt.mul a k)) H
theorem mulOk_of2 {a : Str} {k : Int} (h1 : a.length ≤ 10000) (h2 : -100 ≤ k) (h3 : k ≤ 100) : MulOk a k := by
  refine ⟨?_, fun hk _ => ?_, fun hk _ => ?_⟩
  · simp only [Bool.or_eq_false_iff, decide_eq_false_iff_not]
    omega
  · have : (10000 : Int) ≤ (2 ^ 63 - 1) / k := by
      rw [Int.le_ediv_iff_mul_le (by omega)]
      omega
    omega
  · have hm : a.length * k.toNat ≤ 10000 * 100 := Nat.mul_le_mul h1 (by omega)
    unfold PySem.Builtin.Str.tooLong
    rw [sizeLine_eq]
    simp only [decide_eq_false_iff_not]
    omega
theorem mulOk_of {a : Str} {k : Int} (h1 : a.length ≤ 1000) (h2 : -1000 ≤ k) (h3 : k ≤ 1000) : MulOk a k := by
  refine ⟨?_, fun hk _ => ?_, fun hk _ => ?_⟩
  · simp only [Bool.or_eq_false_iff, decide_eq_false_iff_not]
    omega
  · have : (1000 : Int) ≤ (2 ^ 63 - 1) / k := by
      rw [Int.le_ediv_iff_mul_le (by omega)]
      omega
    omega
  · have hm : a.length * k.toNat ≤ 1000 * 1000 := Nat.mul_le_mul h1 (by omega)
    unfold PySem.Builtin.Str.tooLong
    rw [sizeLine_eq]
    simp only [decide_eq_false_iff_not]
    omega
theorem op_mulS : OpR X (binaryOp .Mult) rMulS := by
  intro pins s σ H x y v u Q I rx ry ⟨a, k, hx, hy, h1, q⟩
  subst hx hy
  obtain ⟨t, rfl⟩ := rx
  obtain ⟨t', rfl⟩ := ry
  have ok : MulOk a k := h1.elim (fun h => mulOk_of h.1 h.2.1 h.2.2) (fun h => mulOk_of2 h.1 h.2.1 h.2.2)
  exact SB.mul ok fun t' k => ⟨.str _, H, I.tok k, ⟨t', rfl⟩, q⟩
theorem mul2 {K : PySem.W.Frag} : Op2 K C (fun x y H Q => (rI CMul (fun i j => .int (i * j)) x y H Q ∨ rRep x y H Q) ∨ rMulS x y H Q ∨ rOnce K x y H Q ∨ rRepT K x y H Q) mulF := by
  intro S ρ b σ H v w d e z Q ok r1 r2 hz q
  unfold mulF at hz
  split at hz
  · split at hz
    · rename_i x k h
      cases hz; cases r1; cases r2
      exact .inr (.inl ⟨_, _, rfl, rfl, h, q _ S H (Same.refl _) ok (.str _)⟩)
    · cases hz
  · split at hz
    · rename_i i j h
      cases hz; cases r1; cases r2
      exact .inl (.inl ⟨_, _, rfl, rfl, h, q _ S H (Same.refl _) ok (.int _)⟩)
    · cases hz
  · split at hz
    · rename_i x k h
      cases hz
      cases r2
      cases r1 with
      | @tup l xs _ h1 h2 =>
        have hl := h2.length
        by_cases hk : k = 1
        · subst hk
          refine .inr (.inr (.inl ⟨_, _, rfl, rfl, seqT ok.core.sub h1, ?_⟩))
          have e1 : (List.replicate (1 : Int).toNat x).flatten = x := by simp
          rw [e1] at q
          exact q _ S H (Same.refl _) ok (.tup h1 h2)
        · refine .inr (.inr (.inr ⟨_, _, _, rfl, rfl, seqT ok.core.sub h1, fun z => ?_, by omega, h.2.1, by omega, fun p hp => ?_⟩))
          · rw [z] at hl
            have := h.2.2.2
            rw [← hl] at this
            exact absurd this (by simp)
          · exact q _ _ _ (ok.same hp) (ok.alloc hp) (.tup upd_same ((h2.rep _).up (ok.same hp)))
    · cases hz
  · split at hz
    · rename_i x k h
      cases hz
      cases r2
      cases r1 with
      | lst h1 h2 =>
        refine .inl (.inr ⟨_, _, _, rfl, rfl, ok.core.sub _ _ h1, by omega, by omega, ?_, fun p hp => ?_⟩)
        · rw [h2.length]
          have hk : k.toNat ≤ 1000 := by omega
          exact Nat.le_trans (Nat.mul_le_mul h.2.2 hk) (big_le (by decide))
        · exact q _ _ _ (ok.same hp) (ok.alloc hp) (.lst upd_same ((h2.rep _).up (ok.same hp)))
    · cases hz
  · cases hz
theorem d_mul (ha : PE X a (tD X.K C W Fa)) (hb : PE X b (tD X.K C W Fb)) : PE X (.BinOp a .Mult b pos) (tD X.K C W (e2 mulF Fa Fb)) := d_op ((op_mul.or op_rep).or (op_mulS.or (op_once.or op_repT))) mul2 ha hb
theorem d_lt2 {K : PySem.W.Frag} : Op2 K C (fun x y H Q => rI0 (fun i j => .bl (decide (i < j))) x y H Q ∨ (∃ i j, x = .str i ∧ y = .str j ∧ Q (.bl (decide (i.cps.toList < j.cps.toList))) H)) ltF := by
  intro S ρ b σ H v w d e z Q ok r1 r2 hz q
  unfold ltF at hz
  split at hz
  · cases hz; cases r1; cases r2
    exact .inl ⟨_, _, rfl, rfl, q _ S H (Same.refl _) ok (.bl _)⟩
  · cases hz; cases r1; cases r2
    exact .inr ⟨_, _, rfl, rfl, q _ S H (Same.refl _) ok (.bl _)⟩
  · cases hz
theorem d_le2 {K : PySem.W.Frag} : Op2 K C (fun x y H Q => rI0 (fun i j => .bl (decide (i ≤ j))) x y H Q ∨ (∃ i j, x = .str i ∧ y = .str j ∧ Q (.bl (!decide (j.cps.toList < i.cps.toList))) H)) leF := by
  intro S ρ b σ H v w d e z Q ok r1 r2 hz q
  unfold leF at hz
  split at hz
  · cases hz; cases r1; cases r2
    exact .inl ⟨_, _, rfl, rfl, q _ S H (Same.refl _) ok (.bl _)⟩
  · cases hz; cases r1; cases r2
    exact .inr ⟨_, _, rfl, rfl, q _ S H (Same.refl _) ok (.bl _)⟩
  · cases hz
theorem d_gt2 {K : PySem.W.Frag} : Op2 K C (rI (fun _ _ => True) (fun i j => .bl (decide (j < i)))) gtF := i2 (g' := fun i j => .bl (decide (j < i))) (fun d e z h => by
    unfold gtF at h
    split at h
    · cases h; exact ⟨_, _, rfl, rfl, trivial, rfl⟩
    · cases h) fun _ _ _ => .bl _
theorem d_ge2 {K : PySem.W.Frag} : Op2 K C (rI (fun _ _ => True) (fun i j => .bl (decide (j ≤ i)))) geF := i2 (g' := fun i j => .bl (decide (j ≤ i))) (fun d e z h => by
    unfold geF at h
    split at h
    · cases h; exact ⟨_, _, rfl, rfl, trivial, rfl⟩
    · cases h) fun _ _ _ => .bl _
theorem o_lt : OpR X (compareOp .Lt) (fun x y H Q => rI0 (fun i j => .bl (decide (i < j))) x y H Q ∨ (∃ i j, x = .str i ∧ y = .str j ∧ Q (.bl (decide (i.cps.toList < j.cps.toList))) H)) := op_lt.or op_lt_str
theorem o_le : OpR X (compareOp .LtE) (fun x y H Q => rI0 (fun i j => .bl (decide (i ≤ j))) x y H Q ∨ (∃ i j, x = .str i ∧ y = .str j ∧ Q (.bl (!decide (j.cps.toList < i.cps.toList))) H)) := op_le.or op_le_str
theorem d_eq2 {K : PySem.W.Frag} : Op2 K C (rEqD K) eqF := by
  intro S ρ b σ H v w d e z Q ok r1 r2 hz q
  unfold eqF at hz
  split at hz
  · rename_i p p' h1 h2
    split at hz
    · rename_i hs
      cases hz
      exact ⟨p, p', DR.dp ok.core.sub d v p r1 h1, DR.dp ok.core.sub e w p' r2 h2, hs.1, hs.2, q _ S H (Same.refl _) ok (.bl _)⟩
    · cases hz
  · cases hz
theorem d_ne2 {K : PySem.W.Frag} : Op2 K C (rNeD K) neF := by
  intro S ρ b σ H v w d e z Q ok r1 r2 hz q
  unfold neF at hz
  split at hz
  · rename_i p p' h1 h2
    split at hz
    · rename_i hs
      cases hz
      exact ⟨p, p', DR.dp ok.core.sub d v p r1 h1, DR.dp ok.core.sub e w p' r2 h2, hs.1, hs.2, q _ S H (Same.refl _) ok (.bl _)⟩
    · cases hz
  · cases hz
theorem d_lt (ha : PE X a (tD X.K C W Fa)) (hb : PE X b (tD X.K C W Fb)) : PE X (.Compare a [.Lt] [b] pos) (tD X.K C W (e2 ltF Fa Fb)) := d_cmp o_lt d_lt2 ha hb (nomark _)
theorem d_gt (ha : PE X a (tD X.K C W Fa)) (hb : PE X b (tD X.K C W Fb)) : PE X (.Compare a [.Gt] [b] pos) (tD X.K C W (e2 gtF Fa Fb)) := d_cmp (rI_of0 op_gt) d_gt2 ha hb (nomark _)
theorem t_eq (hu : X.A.units + 64 < cLine) (ha : PE X a (tD X.K C W Fa)) (hb : PE X b (tD X.K C W Fb)) : PT X (.Compare a [.Eq] [b] pos) (tDt X.K C W (bB (e2 eqF Fa Fb))) := d_tcmp (op_eqD hu) d_eq2 ha hb (nomark _)
theorem t_ne (hu : X.A.units + 64 < cLine) (ha : PE X a (tD X.K C W Fa)) (hb : PE X b (tD X.K C W Fb)) : PT X (.Compare a [.NotEq] [b] pos) (tDt X.K C W (bB (e2 neF Fa Fb))) := d_tcmp (op_neD hu) d_ne2 ha hb (nomark _)
theorem t_lt (ha : PE X a (tD X.K C W Fa)) (hb : PE X b (tD X.K C W Fb)) : PT X (.Compare a [.Lt] [b] pos) (tDt X.K C W (bB (e2 ltF Fa Fb))) := d_tcmp o_lt d_lt2 ha hb (nomark _)
theorem t_gt (ha : PE X a (tD X.K C W Fa)) (hb : PE X b (tD X.K C W Fb)) : PT X (.Compare a [.Gt] [b] pos) (tDt X.K C W (bB (e2 gtF Fa Fb))) := d_tcmp (rI_of0 op_gt) d_gt2 ha hb (nomark _)
theorem t_ge (ha : PE X a (tD X.K C W Fa)) (hb : PE X b (tD X.K C W Fb)) : PT X (.Compare a [.GtE] [b] pos) (tDt X.K C W (bB (e2 geF Fa Fb))) := d_tcmp (rI_of0 op_ge) d_ge2 ha hb (nomark _)
/-- -n -/
@[simp] def negF : D → Option D
  | .int i => some (.int (-i))
  | _ => none
theorem d_neg (ha : PE X a (tD X.K C W Fa)) : PE X (.UnaryOp .USub a pos) (tD X.K C W (e1 negF Fa)) := pe_imp (pe_un un_neg ha) fun σ H Q ⟨S, ρ, b, ok, q⟩ => by
  refine ⟨S, ρ, b, ok, q.bind.imp fun d b1 S1 H1 s1 ok1 q1 v r => ?_⟩
  obtain ⟨z, hz, q2⟩ := q1.pureO
  cases d with
  | int i => cases hz; cases r; exact ⟨i, rfl, q2 S1 H1 (Same.refl _) ok1 _ (.int _)⟩
  | _ => cases hz
end
end DL

set_option maxHeartbeats 1000000
namespace DL
open PySem PySem.Spec PyProof.Rows L2
variable [TB : TabSet]
section
variable {X : Cx} {C : Cq} {W : WX} {e a b : Expr} {pos : Pos} {F Fa Fb : EF} {G : AF}
@[simp] def ixF (b : Bag) : D → D → Option D
  | .lst ds, .int i => atI ds i
  | .fl ds, .int i => atI ds i
  | .tup ds, .int i => atI ds i
  | .str x, .int i => if x.length ≤ 100000 then (atI x.cps.toList i).map fun c => .str ⟨#[c]⟩ else none
  | .bag, .int i => atI b.ds i
  | _, _ => none
@[simp] def eIx (Fa Fb : EF) : EF := fun ρ b => (Fa ρ b).bind fun x b1 => (Fb ρ b1).bind fun y b2 => Out.pureO (ixF b2 x y) b2
theorem DRs.atI {K : PySem.W.Frag} {ba : Option Addr} {S : Hp} {vs : List V} {ds : List D} {i : Int} {d : D} (h : DRs K ba S vs ds) (e : atI ds i = some d) : ∃ v, L2.atI vs i = some v ∧ DR K ba S v d := by
  unfold L2.atI at e ⊢
  rw [h.length]
  cases hi : ixN ds.length i with
  | none => rw [hi] at e; cases e
  | some j =>
    rw [hi] at e
    exact h.get e
theorem d_ix (ha : PE X a (tD X.K C W Fa)) (hb : PE X b (tD X.K C W Fb)) (hs : PlainIx b) : PE X (.Subscript a b pos) (tD X.K C W (eIx Fa Fb)) := pe_imp (pe_ix ix_seq ha hb hs) fun σ H Q ⟨S, ρ, b0, ok, q⟩ => by
  refine ⟨S, ρ, b0, ok, q.bind.imp fun x b1 S1 H1 s1 ok1 q1 v r1 => ⟨S1, ρ, b1, ok1, q1.bind.imp fun y b2 S2 H2 s2 ok2 q2 w r2 => ?_⟩⟩
  obtain ⟨z, hz, q3⟩ := q2.pureO
  have r1 := r1.up s2
  cases y with
  | int i =>
    cases r2
    cases x with
    | lst ds =>
      cases r1 with
      | lst h1 h2 =>
        obtain ⟨u, hu, ru⟩ := h2.atI hz
        exact .inl ⟨_, _, i, u, rfl, rfl, SqL.of (ok2.core.sub _ _ h1), hu, q3 S2 H2 (Same.refl _) ok2 u ru⟩
    | fl ds =>
      cases r1 with
      | fl h1 h2 =>
        obtain ⟨u, hu, ru⟩ := h2.atI hz
        exact .inl ⟨_, _, i, u, rfl, rfl, ok2.core.sub.seq h1, hu, q3 S2 H2 (Same.refl _) ok2 u ru⟩
    | tup ds =>
      cases r1 with
      | tup h1 h2 =>
        obtain ⟨u, hu, ru⟩ := h2.atI hz
        exact .inr (.inl ⟨_, _, i, u, rfl, rfl, seqT ok2.core.sub h1, hu, q3 S2 H2 (Same.refl _) ok2 u ru⟩)
    | str x =>
      cases r1
      simp only [ixF] at hz
      by_cases hl : x.length ≤ 100000
      · rw [if_pos hl] at hz
        simp only [Option.map_eq_some_iff] at hz
        obtain ⟨c, hc, rfl⟩ := hz
        exact .inr (.inr ⟨_, i, c, rfl, rfl, big_le hl, hc, q3 S2 H2 (Same.refl _) ok2 _ (.str _)⟩)
      · rw [if_neg hl] at hz; cases hz
    | bag =>
      cases r1 with
      | bag hb =>
        obtain ⟨h1, _⟩ := ok2.core.bag _ hb
        have rb : DRs X.K C.ba S2 [V.int b2.x, V.int b2.y, V.int b2.z] b2.ds := .cons (.int _) (.cons (.int _) (.cons (.int _) .nil))
        obtain ⟨u, hu, ru⟩ := rb.atI hz
        exact .inl ⟨_, _, i, u, rfl, rfl, SqL.of h1, hu, q3 S2 H2 (Same.refl _) ok2 u ru⟩
    | non => cases hz
    | bl _ => cases hz
    | int _ => cases hz
    | ins _ _ _ => cases hz
    | obj _ => cases hz
    | dct _ _ => cases hz
    | dtp _ _ => cases hz
  | _ => cases x <;> cases hz
abbrev OF := Env → Bag → Out (Option Int)
def tDO (K : PySem.W.Frag) (C : Cq) (W : WX) (F : OF) : TO := fun σ H Q => ∃ S ρ b, OkS K C S ρ b σ H ∧ OutG K C W S ρ σ (fun o _ _ H' => Q o H') (F ρ b)
theorem po_imp {o : Option Expr} {t t' : TO} (h : PO X o t) (f : ∀ σ H Q, t' σ H Q → t σ H Q) : PO X o t' := ⟨fun pins s σ H Q I q => h.run pins s σ H Q I (f σ H Q q)⟩
def oNo : OF := fun _ b => .ok none b
def oSome (F : EF) : OF := fun ρ b => (F ρ b).bind fun d b' => match d with
  | .int i => .ok (some i) b'
  | _ => .stuck
theorem d_ono : PO X none (tDO X.K C W oNo) := po_imp po_none fun σ H Q ⟨S, ρ, b, ok, q⟩ => q S H (Same.refl _) ok
theorem d_osome (h : PE X e (tD X.K C W F)) : PO X (some e) (tDO X.K C W (oSome F)) := po_imp (po_some h) fun σ H Q ⟨S, ρ, b, ok, q⟩ => by
  refine ⟨S, ρ, b, ok, q.bind.imp fun d b1 S1 H1 s1 ok1 q1 v r => ?_⟩
  cases d with
  | int i => cases r; exact ⟨i, rfl, q1 S1 H1 (Same.refl _) ok1⟩
  | _ => exact q1.elim
def cutD (xs : List D) (lo hi : Option Int) : List D := (xs.drop (HT.sIx xs.length 0 lo)).take (HT.sIx xs.length xs.length hi - HT.sIx xs.length 0 lo)
def slF (lo hi : Option Int) : D → Option D
  | .lst ds => some (.lst (cutD ds lo hi))
  | .fl ds => some (.lst (cutD ds lo hi))
  | .tup ds => some (.tup (cutD ds lo hi))
  | .str x => if x.length ≤ 100000 then some (.str (cutS x lo hi)) else none
  | _ => none
def eSl (F : EF) (lo hi : OF) : EF := fun ρ b => (F ρ b).bind fun d b1 => (lo ρ b1).bind fun l b2 => (hi ρ b2).bind fun h b3 => Out.pureO (slF l h d) b3
theorem cut_dr {K : PySem.W.Frag} {ba : Option Addr} {S : Hp} {vs : List V} {ds : List D} (h : DRs K ba S vs ds) (lo hi : Option Int) : DRs K ba S (cutV vs lo hi) (cutD ds lo hi) := by
  unfold cutV cutD
  rw [h.length]
  exact (h.drop _).take _
def rSlAll (K : PySem.W.Frag) : V → Option Int → Option Int → Hp → VK → Prop := fun x lo hi H Q => rSlL K x lo hi H Q ∨ rSlA K x lo hi H Q ∨ rSlS x lo hi H Q
theorem sl_all : SlR X (rSlAll X.K) := sl_list.or (sl_tupA.or sl_str)
theorem d_slice {lo hi : Option Expr} {Ol Oh : OF} {p2 : Pos} (he : PE X e (tD X.K C W F)) (hl : PO X lo (tDO X.K C W Ol)) (hh : PO X hi (tDO X.K C W Oh)) : PE X (.Subscript e (.Slice lo hi none p2) pos) (tD X.K C W (eSl F Ol Oh)) :=
  pe_imp (pe_slice sl_all he hl hh) fun σ H Q ⟨S, ρ, b, ok, q⟩ => by
  refine ⟨S, ρ, b, ok, q.bind.imp fun d b1 S1 H1 s1 ok1 q1 v r => ⟨S1, ρ, b1, ok1, q1.bind.imp fun l b2 S2 H2 s2 ok2 q2 => ⟨S2, ρ, b2, ok2, q2.bind.imp fun h b3 S3 H3 s3 ok3 q3 => ?_⟩⟩⟩
  obtain ⟨z, hz, q4⟩ := q3.pureO
  have r := r.up (s2.trans s3)
  cases d with
  | lst ds =>
    cases hz
    cases r with
    | lst h1 h2 =>
      refine .inl ⟨_, _, rfl, SqL.of (ok3.core.sub _ _ h1), fun p hp => ?_⟩
      exact q4 _ _ (ok3.same hp) (ok3.alloc hp) _ (.lst upd_same ((cut_dr h2 l h).up (ok3.same hp)))
  | fl ds =>
    cases hz
    cases r with
    | fl h1 h2 =>
      refine .inl ⟨_, _, rfl, ok3.core.sub.seq h1, fun p hp => ?_⟩
      exact q4 _ _ (ok3.same hp) (ok3.alloc hp) _ (.lst upd_same ((cut_dr h2 l h).up (ok3.same hp)))
  | tup ds =>
    cases hz
    cases r with
    | tup h1 h2 =>
      refine .inr (.inl ⟨_, _, rfl, seqT ok3.core.sub h1, fun hw => ?_, fun _ p hp => ?_⟩)
      · have e1 : cutD ds l h = ds := by
          unfold cutD
          rw [h2.length] at hw
          rw [hw.1, hw.2, List.drop_zero, Nat.sub_zero, List.take_length]
        rw [e1] at q4
        exact q4 S3 H3 (Same.refl _) ok3 _ (.tup h1 h2)
      · exact q4 _ _ (ok3.same hp) (ok3.alloc hp) _ (.tup upd_same ((cut_dr h2 l h).up (ok3.same hp)))
  | str x =>
    cases r
    simp only [slF] at hz
    by_cases hx : x.length ≤ 100000
    · rw [if_pos hx] at hz
      cases hz
      exact .inr (.inr ⟨x, rfl, big_le hx, q4 S3 H3 (Same.refl _) ok3 _ (.str _)⟩)
    · rw [if_neg hx] at hz; cases hz
  | _ => cases hz
@[simp] def eB (f : List D → Option D) (G : AF) : EF := fun ρ b => (G ρ b).bind fun ds b' => Out.pureO (f ds) b'
def CallD (K : PySem.W.Frag) (C : Cq) (r : List V → Hp → VK → Prop) (f : List D → Option D) : Prop := ∀ (S : Hp) (ρ : Env) (b : Bag) (σ : L2.St) (H : Hp) (vs : List V) (ds : List D) (z : D) (Q : VK), OkS K C S ρ b σ H → DRs K C.ba S vs ds → f ds = some z →
  (∀ u S' H', Same S S' → OkS K C S' ρ b σ H' → DR K C.ba S' u z → Q u H') → r vs H Q
theorem tCB_of {r : List V → Hp → VK → Prop} {f : List D → Option D} (hf : CallD X.K C r f) {σ : L2.St} {H : Hp} {Q : VK} (h : tD X.K C W (eB f G) σ H Q) : tCB r (tDA X.K C W G) σ H Q := by
  obtain ⟨S, ρ, b, ok, q⟩ := h
  refine ⟨S, ρ, b, ok, q.bind.imp fun ds b1 S1 H1 s1 ok1 q1 vs rs => ?_⟩
  obtain ⟨z, hz, q2⟩ := q1.pureO
  exact hf S1 ρ b1 σ H1 vs ds z Q ok1 rs hz fun u S' H' e o r => q2 S' H' e o u r
theorem d_callB {id : String} {r : List V → Hp → VK → Prop} {f : List D → Option D} {x : Str} {p : Pos} {es : List Expr} (hc : CallR X (.builtin id) r) (hf : CallD X.K C r f) (hg : Gl X x) (hm : X.mg x = none) (hv : bootBuiltins x = some (.builtin id)) (ha : PA X (e :: es) (tDA X.K C W G))
    (hn : x ≠ "__name__" := by decide) (hdb : (x == ("__debug__" : Str)) = false := by decide) (he : starEach (e :: es) X.env = (false, eval e X.env) :: starEach es X.env := by rfl) (hpl : (backTo pos (starEach es X.env)).any (·.1) = false := by rfl) :
    PE X (.Call (.Name x p) (e :: es) [] pos) (tD X.K C W (eB f G)) := pe_imp (pe_callB hc hg hm hv ha hn hdb he hpl) fun _ _ _ h => tCB_of hf h
theorem d_callTy {T : String} {r : List V → Hp → VK → Prop} {f : List D → Option D} {x : Str} {p : Pos} {es : List Expr} (hc : CallR X (.type T) r) (hf : CallD X.K C r f) (hg : Gl X x) (hm : X.mg x = none) (hv : bootBuiltins x = some (.type T)) (ha : PA X (e :: es) (tDA X.K C W G))
    (hn : x ≠ "__name__" := by decide) (hdb : (x == ("__debug__" : Str)) = false := by decide) (he : starEach (e :: es) X.env = (false, eval e X.env) :: starEach es X.env := by rfl) (hpl : (backTo pos (starEach es X.env)).any (·.1) = false := by rfl) :
    PE X (.Call (.Name x p) (e :: es) [] pos) (tD X.K C W (eB f G)) := pe_imp (pe_callTy hc hg hm hv ha hn hdb he hpl) fun _ _ _ h => tCB_of hf h
@[simp] def lenF : List D → Option D
  | [.lst ds] => some (.int ds.length)
  | [.fl ds] => some (.int ds.length)
  | [.tup ds] => some (.int ds.length)
  | [.str x] => if x.length ≤ 100000 then some (.int x.length) else none
  | _ => none
theorem c_len {K : PySem.W.Frag} : CallD K C (fun xs H Q => ∃ x n, xs = [x] ∧ LenV K x H n ∧ Q (.int n) H) lenF := by
  intro S ρ b σ H vs ds z Q ok rs hz q
  unfold lenF at hz
  split at hz
  · cases hz
    cases rs with
    | cons r1 r2 =>
      cases r2
      cases r1 with
      | lst h1 h2 => exact ⟨_, _, rfl, .inl ⟨_, SqL.of (ok.core.sub _ _ h1), h2.length.symm⟩, q _ S H (Same.refl _) ok (.int _)⟩
  · cases hz
    cases rs with
    | cons r1 r2 =>
      cases r2
      cases r1 with
      | fl h1 h2 => exact ⟨_, _, rfl, .inl ⟨_, ok.core.sub.seq h1, h2.length.symm⟩, q _ S H (Same.refl _) ok (.int _)⟩
  · cases hz
    cases rs with
    | cons r1 r2 =>
      cases r2
      cases r1 with
      | tup h1 h2 => exact ⟨_, _, rfl, .inr ⟨_, seqT ok.core.sub h1, h2.length.symm⟩, q _ S H (Same.refl _) ok (.int _)⟩
  · split at hz
    · rename_i hl
      cases hz
      cases rs with
      | cons r1 r2 =>
        cases r2
        cases r1
        exact ⟨_, _, rfl, ⟨big_le hl, rfl⟩, q _ S H (Same.refl _) ok (.int _)⟩
    · cases hz
  · cases hz
theorem d_len {p : Pos} (hg : Gl X "len") (hm : X.mg "len" = none) (ha : PA X [a] (tDA X.K C W G)) (he : starEach [a] X.env = (false, eval a X.env) :: starEach [] X.env := by rfl) (hpl : (backTo pos (starEach [] X.env)).any (·.1) = false := by rfl) :
    PE X (.Call (.Name "len" p) [a] [] pos) (tD X.K C W (eB lenF G)) := d_callB call_len c_len hg hm PySem.boot_len ha (by decide) (by decide) he hpl
/-- functions of ints alone -/
theorem c_int1 {K : PySem.W.Frag} {g : Int → Int} {f : List D → Option D} (hf : ∀ ds z, f ds = some z → ∃ i, ds = [.int i] ∧ z = .int (g i)) : CallD K C (fun xs H Q => ∃ i, xs = [.int i] ∧ Q (.int (g i)) H) f := by
  intro S ρ b σ H vs ds z Q ok rs hz q
  obtain ⟨i, rfl, rfl⟩ := hf _ _ hz
  cases rs with
  | cons r1 r2 => cases r2; cases r1; exact ⟨i, rfl, q _ S H (Same.refl _) ok (.int _)⟩
@[simp] def absF : List D → Option D
  | [.int i] => some (.int (if i < 0 then -i else i))
  | _ => none
theorem d_abs {p : Pos} (hg : Gl X "abs") (hm : X.mg "abs" = none) (ha : PA X [a] (tDA X.K C W G)) (he : starEach [a] X.env = (false, eval a X.env) :: starEach [] X.env := by rfl) (hpl : (backTo pos (starEach [] X.env)).any (·.1) = false := by rfl) :
    PE X (.Call (.Name "abs" p) [a] [] pos) (tD X.K C W (eB absF G)) := d_callB call_abs (c_int1 (g := fun i => if i < 0 then -i else i) fun ds z h => by
      unfold absF at h
      split at h
      · cases h; exact ⟨_, rfl, rfl⟩
      · cases h) hg hm (by decide +kernel) ha (by decide) (by decide) he hpl
@[simp] def intF : List D → Option D
  | [.int i] => some (.int i)
  | [.bl k] => some (.int (if k then 1 else 0))
  | _ => none
theorem c_intc {K : PySem.W.Frag} : CallD K C (fun xs H Q => (∃ i, xs = [.int i] ∧ Q (.int i) H) ∨ ∃ k, xs = [.bl k] ∧ Q (.int (if k then 1 else 0)) H) intF := by
  intro S ρ b σ H vs ds z Q ok rs hz q
  unfold intF at hz
  split at hz
  · cases hz
    cases rs with
    | cons r1 r2 => cases r2; cases r1; exact .inl ⟨_, rfl, q _ S H (Same.refl _) ok (.int _)⟩
  · cases hz
    cases rs with
    | cons r1 r2 => cases r2; cases r1; exact .inr ⟨_, rfl, q _ S H (Same.refl _) ok (.int _)⟩
  · cases hz
theorem d_int {p : Pos} (hg : Gl X "int") (hm : X.mg "int" = none) (ha : PA X [a] (tDA X.K C W G)) (he : starEach [a] X.env = (false, eval a X.env) :: starEach [] X.env := by rfl) (hpl : (backTo pos (starEach [] X.env)).any (·.1) = false := by rfl) : PE X (.Call (.Name "int" p) [a] [] pos) (tD X.K C W (eB intF G)) := d_callTy call_int1 c_intc hg hm (by decide +kernel) ha (by decide) (by decide) he hpl
def maxF : List D → Option D
  | [.int i, .int j] => some (.int (if j > i then j else i))
  | _ => none
def minF : List D → Option D
  | [.int i, .int j] => some (.int (if j < i then j else i))
  | _ => none
theorem c_int2 {K : PySem.W.Frag} {g : Int → Int → Int} {f : List D → Option D} (hf : ∀ ds z, f ds = some z → ∃ i j, ds = [.int i, .int j] ∧ z = .int (g i j)) : CallD K C (fun xs H Q => ∃ i j, xs = [.int i, .int j] ∧ Q (.int (g i j)) H) f := by
  intro S ρ b σ H vs ds z Q ok rs hz q
  obtain ⟨i, j, rfl, rfl⟩ := hf _ _ hz
  cases rs with
  | cons r1 r2 =>
    cases r2 with
    | cons r2 r3 => cases r3; cases r1; cases r2; exact ⟨i, j, rfl, q _ S H (Same.refl _) ok (.int _)⟩
theorem d_max2 {p : Pos} (hc : X.calm = true) (hg : Gl X "max") (hm : X.mg "max" = none) (ha : PA X [a, b] (tDA X.K C W G)) (he : starEach [a, b] X.env = (false, eval a X.env) :: starEach [b] X.env := by rfl) (hpl : (backTo pos (starEach [b] X.env)).any (·.1) = false := by rfl) :
    PE X (.Call (.Name "max" p) [a, b] [] pos) (tD X.K C W (eB maxF G)) := d_callB (call_max2 hc) (c_int2 (g := fun i j => if j > i then j else i) fun ds z h => by
      unfold maxF at h
      split at h
      · cases h; exact ⟨_, _, rfl, rfl⟩
      · cases h) hg hm (by decide +kernel) ha (by decide) (by decide) he hpl
theorem d_min2 {p : Pos} (hc : X.calm = true) (hg : Gl X "min") (hm : X.mg "min" = none) (ha : PA X [a, b] (tDA X.K C W G)) (he : starEach [a, b] X.env = (false, eval a X.env) :: starEach [b] X.env := by rfl) (hpl : (backTo pos (starEach [b] X.env)).any (·.1) = false := by rfl) :
    PE X (.Call (.Name "min" p) [a, b] [] pos) (tD X.K C W (eB minF G)) := d_callB (call_min2 hc) (c_int2 (g := fun i j => if j < i then j else i) fun ds z h => by
      unfold minF at h
      split at h
      · cases h; exact ⟨_, _, rfl, rfl⟩
      · cases h) hg hm (by decide +kernel) ha (by decide) (by decide) he hpl
@[simp] def divmodF : List D → Option D
  | [.int i, .int j] => if 0 < j ∧ j < 1073741824 then some (.tup [.int (i / j), .int (i % j)]) else none
  | _ => none
theorem c_divmod {K : PySem.W.Frag} : CallD K C (fun xs H Q => ∃ i j, xs = [.int i, .int j] ∧ CDiv i j ∧ ∀ p, H p = none → Q (.ref p) (upd H p (.tup [.int (i / j), .int (i % j)]))) divmodF := by
  intro S ρ b σ H vs ds z Q ok rs hz q
  unfold divmodF at hz
  split at hz
  · split at hz
    · rename_i h
      cases hz
      cases rs with
      | cons r1 r2 =>
        cases r2 with
        | cons r2 r3 =>
          cases r3; cases r1; cases r2
          exact ⟨_, _, rfl, h, fun p hp => q _ _ _ (ok.same hp) (ok.alloc hp) (.tup upd_same (.cons (.int _) (.cons (.int _) .nil)))⟩
    · cases hz
  · cases hz
theorem d_divmod {p : Pos} (hg : Gl X "divmod") (hm : X.mg "divmod" = none) (ha : PA X [a, b] (tDA X.K C W G)) (he : starEach [a, b] X.env = (false, eval a X.env) :: starEach [b] X.env := by rfl) (hpl : (backTo pos (starEach [b] X.env)).any (·.1) = false := by rfl) :
    PE X (.Call (.Name "divmod" p) [a, b] [] pos) (tD X.K C W (eB divmodF G)) := d_callB call_divmod c_divmod hg hm (by decide +kernel) ha (by decide) (by decide) he hpl
def tupleF : List D → Option D
  | [.lst ds] => some (.tup ds)
  | [.fl ds] => some (.tup ds)
  | [.tup ds] => some (.tup ds)
  | _ => none
theorem c_tuple {K : PySem.W.Frag} : CallD K C (fun xs H Q => ∃ p ys, xs = [.ref p] ∧ ((SqL K H p ys ∧ ∀ l, H l = none → Q (.ref l) (upd H l (.tup ys))) ∨ (SqT K H p ys ∧ Q (.ref p) H))) tupleF := by
  intro S ρ b σ H vs ds z Q ok rs hz q
  unfold tupleF at hz
  split at hz
  · cases hz
    cases rs with
    | cons r1 r2 =>
      cases r2
      cases r1 with
      | lst h1 h2 => exact ⟨_, _, rfl, .inl ⟨SqL.of (ok.core.sub _ _ h1), fun p hp => q _ _ _ (ok.same hp) (ok.alloc hp) (.tup upd_same (h2.up (ok.same hp)))⟩⟩
  · cases hz
    cases rs with
    | cons r1 r2 =>
      cases r2
      cases r1 with
      | fl h1 h2 => exact ⟨_, _, rfl, .inl ⟨ok.core.sub.seq h1, fun p hp => q _ _ _ (ok.same hp) (ok.alloc hp) (.tup upd_same (h2.up (ok.same hp)))⟩⟩
  · cases hz
    cases rs with
    | cons r1 r2 =>
      cases r2
      cases r1 with
      | tup h1 h2 => exact ⟨_, _, rfl, .inr ⟨seqT ok.core.sub h1, q _ S H (Same.refl _) ok (.tup h1 h2)⟩⟩
  · cases hz
theorem d_tuple {p : Pos} (hg : Gl X "tuple") (hm : X.mg "tuple" = none) (ha : PA X [a] (tDA X.K C W G)) (he : starEach [a] X.env = (false, eval a X.env) :: starEach [] X.env := by rfl) (hpl : (backTo pos (starEach [] X.env)).any (·.1) = false := by rfl) : PE X (.Call (.Name "tuple" p) [a] [] pos) (tD X.K C W (eB tupleF G)) := d_callTy call_tuple_of c_tuple hg hm (by decide +kernel) ha (by decide) (by decide) he hpl
/-- all of a list of truths -/
def truths : List D → Option (List Bool)
  | [] => some []
  | .bl k :: ds => (truths ds).map (k :: ·)
  | _ :: _ => none
def allF : List D → Option D
  | [.lst ds] => (truths ds).map fun ks => .bl (ks.all id)
  | _ => none
theorem truths_dr {K : PySem.W.Frag} {ba : Option Addr} {S : Hp} : ∀ {ds : List D} {vs : List V} {ks : List Bool}, DRs K ba S vs ds → truths ds = some ks → vs = ks.map V.bl
  | [], _, _, r, h => by cases r; cases h; rfl
  | .bl k :: ds, _, _, r, h => by
    simp only [truths, Option.map_eq_some_iff] at h
    obtain ⟨ks, h1, rfl⟩ := h
    cases r with
    | cons r1 r2 => cases r1; rw [truths_dr r2 h1]; rfl
  | .non :: _, _, _, _, h => by cases h
  | .int _ :: _, _, _, _, h => by cases h
  | .str _ :: _, _, _, _, h => by cases h
  | .tup _ :: _, _, _, _, h => by cases h
  | .lst _ :: _, _, _, _, h => by cases h
  | .fl _ :: _, _, _, _, h => by cases h
  | .ins _ _ _ :: _, _, _, _, h => by cases h
  | .obj _ :: _, _, _, _, h => by cases h
  | .bag :: _, _, _, _, h => by cases h
  | .dct _ _ :: _, _, _, _, h => by cases h
  | .dtp _ _ :: _, _, _, _, h => by cases h
theorem c_all {K : PySem.W.Frag} : CallD K C (rAll K) allF := by
  intro S ρ b σ H vs ds z Q ok rs hz q
  unfold allF at hz
  split at hz
  · simp only [Option.map_eq_some_iff] at hz
    obtain ⟨ks, hk, rfl⟩ := hz
    cases rs with
    | cons r1 r2 =>
      cases r2
      cases r1 with
      | lst h1 h2 =>
        have e := truths_dr h2 hk
        subst e
        exact ⟨_, ks, rfl, SqL.of (ok.core.sub _ _ h1), q _ S H (Same.refl _) ok (.bl _)⟩
  · cases hz
theorem d_all {p : Pos} (hc : X.calm = true) (hg : Gl X "all") (hm : X.mg "all" = none) (ha : PA X [a] (tDA X.K C W G)) (he : starEach [a] X.env = (false, eval a X.env) :: starEach [] X.env := by rfl) (hpl : (backTo pos (starEach [] X.env)).any (·.1) = false := by rfl) :
    PE X (.Call (.Name "all" p) [a] [] pos) (tD X.K C W (eB allF G)) := d_callB (cr_all hc) c_all hg hm (by decide +kernel) ha (by decide) (by decide) he hpl
end
end DL

set_option maxHeartbeats 1000000
namespace DL
open PySem PySem.Spec PyProof.Rows L2
variable [TB : TabSet]
section
variable {X : Cx} {C : Cq} {W : WX} {st : Stmt} {e a b o : Expr} {es : List Expr} {pos apos cpos : Pos} {F Fa Fb : EF} {G : AF}
def reprF : List D → Option D
  | [.lst ds] => (D.lst ds).pd.bind fun p => if p.showable = true ∧ p.hasDict = false ∧ p.depth ≤ 60 ∧ p.shown.length ≤ 1000000 then some (.str p.shown) else none
  | [.tup ds] => (D.tup ds).pd.bind fun p => if p.showable = true ∧ p.hasDict = false ∧ p.depth ≤ 60 ∧ p.shown.length ≤ 1000000 then some (.str p.shown) else none
  | [.int i] => if i.natAbs.log2 < 1920 then some (.str (toString i)) else none
  | _ => none
def rRepr (K : PySem.W.Frag) : List V → Hp → VK → Prop := fun vs H Q => (∃ i, vs = [.int i] ∧ i.natAbs.log2 < 1920 ∧ Q (.str (toString i)) H) ∨
  ∃ a p, vs = [.ref a] ∧ Dp K H (.ref a) p ∧ p.showable = true ∧ p.hasDict = false ∧ p.depth ≤ 60 ∧ p.shown.length ≤ 1000000 ∧ Q (.str p.shown) H
theorem cr_repr (hg : X.A.guards = some []) (hu : X.A.units + 64 < cLine) : CallR X (.builtin "repr") (rRepr X.K) := by
  intro pins s σ H xs us Q I r h
  rcases h with ⟨i, rfl, hz, q⟩ | ⟨a, p, rfl, hd, h1, h2, h3, h4, q⟩
  · cases r with
    | cons r1 r2 =>
      cases r2
      obtain ⟨t, rfl⟩ := r1
      exact PySem.P.repr_of_int hz ⟨.str _, H, I.tok _, ⟨_, rfl⟩, q⟩
  · cases r with
    | cons r1 r2 =>
      cases r2
      cases r1
      obtain ⟨as, rd⟩ := Dp.reads I p (.ref a) (.ref a) hd rfl
      exact repr_of_reads' rd h1 (PyData.noDict_hsm h2) hg (by omega) (fun _ _ z => z) (fun h' u tk hk => ⟨.str p.shown, H, I.kept hk, ⟨u, rfl⟩, q⟩) (by rw [sizeLine_eq]; omega)
theorem c_repr {K : PySem.W.Frag} : CallD K C (rRepr K) reprF := by
  intro S ρ b σ H vs ds z Q ok rs hz q
  unfold reprF at hz
  split at hz
  · simp only [Option.bind_eq_some_iff] at hz
    obtain ⟨p, hp, hz⟩ := hz
    split at hz
    · rename_i hc
      cases hz
      cases rs with
      | cons r1 r2 =>
        cases r2
        have hd := DR.dp ok.core.sub _ _ p r1 hp
        cases r1 with
        | lst h1 h2 => exact .inr ⟨_, p, rfl, hd, hc.1, hc.2.1, hc.2.2.1, hc.2.2.2, q _ S H (Same.refl _) ok (.str _)⟩
    · cases hz
  · simp only [Option.bind_eq_some_iff] at hz
    obtain ⟨p, hp, hz⟩ := hz
    split at hz
    · rename_i hc
      cases hz
      cases rs with
      | cons r1 r2 =>
        cases r2
        have hd := DR.dp ok.core.sub _ _ p r1 hp
        cases r1 with
        | tup h1 h2 => exact .inr ⟨_, p, rfl, hd, hc.1, hc.2.1, hc.2.2.1, hc.2.2.2, q _ S H (Same.refl _) ok (.str _)⟩
    · cases hz
  · split at hz
    · rename_i hc
      cases hz
      cases rs with
      | cons r1 r2 => cases r2; cases r1; exact .inl ⟨_, rfl, hc, q _ S H (Same.refl _) ok (.str _)⟩
    · cases hz
  · cases hz
/-- xs.append(e), xs an owned list in slot i -/
@[simp] def sPush (i : Nat) (F : EF) : SF := fun ρ b => match ρ[i]? with
  | some (some (.ow (.lst ds))) => (F ρ b).st ρ fun d b' => if ds.length ≤ 100000 then .nx (ρ.set i (some (.ow (.lst (ds ++ [d]))))) b' else .stuck
  | _ => .stuck
theorem d_push {i : Nat} {x : Str} {px : Pos} (hx : PE X (.Name x px) (tVar i)) (he : PE X e (tD X.K C W F))
    (hbase : attributeBase (.Name x px) "append" X.env (eval (.Name x px) X.env) = eval (.Name x px) X.env := by rfl)
    (hfew : ((backTo cpos (starEach [e] X.env)).all (fun x => !x.1) && (backToKw cpos (keywordEach [] X.env)).all (fun x => x.1.isSome)
      && decide ([e].length + ([] : List Keyword).length + (if ([] : List Keyword).isEmpty then 0 else 1) < 30)) = true := by rfl)
    (hline : (apos.endLine == cpos.line) = true := by rfl) (hs : starEach [e] X.env = (false, eval e X.env) :: starEach [] X.env := by rfl) (hplain : (backTo cpos (starEach [] X.env)).any (·.1) = false := by rfl)
    (hsw : swapsWith (.Call (.Attribute (.Name x px) "append" apos) [e] [] cpos) none pos.line X.env = pure false := by rfl) :
    PS X (.Expr (.Call (.Attribute (.Name x px) "append" apos) [e] [] cpos) pos) (tDS X.K C W (sPush i F)) :=
  ps_imp (ps_expr (pe_bm PySem.F.plainAttrs_list PySem.F.slot_list_append PySem.F.type_list_append mt_append hx (pa_cons he pa_nil hs) hbase hfew hline hs hplain) hsw) fun E σ H ⟨S, ρ, b, ok, q⟩ => by
  unfold sPush at q
  split at q
  · rename_i ds hr
    obtain ⟨p, u, e1, hp, r, _⟩ := ok.getOw hr
    cases r with
    | lst r =>
      refine ⟨_, e1, .inl ⟨rfl, _, SqL.of hp⟩, S, ρ, b, ok, q.st.imp fun d b1 S1 H1 s1 ok1 q1 v rv => ?_⟩
      obtain ⟨p', u', e1', hp', r', _, _, _, wr, _⟩ := ok1.getOw hr
      rw [e1] at e1'
      cases e1'
      cases r' with
      | @lst xs' _ r' =>
        by_cases hl : ds.length ≤ 100000
        · rw [if_pos hl] at q1
          refine ⟨p, xs', v, rfl, rfl, hp', small_lt (by rw [r'.length]; exact hl), ?_⟩
          exact q1 S1 σ _ (Same.refl _) (wr _ _ (.lst (r'.app (.cons rv .nil))))
        · rw [if_neg hl] at q1
          exact q1.elim
  · exact q.elim
/-- .. into the bag in slot i -/
@[simp] def Bag.set (b : Bag) (k : Int) (z : Int) : Option Bag := if k = 0 then some ⟨z, b.y, b.z⟩ else if k = 1 then some ⟨b.x, z, b.z⟩ else if k = 2 then some ⟨b.x, b.y, z⟩ else none
@[simp] def gBag (i : Nat) (k : Int) : GF := fun d ρ b => match ρ[i]?, d with
  | some (some (.sh .bag)), .int z => (b.set k z).map fun b' => (ρ, b')
  | _, _ => none
theorem d_gbag {i : Nat} {x : Expr} {k : Int} (h : PG X (.Subscript x a pos) (gSub (tVar i) (tC (.int k)) rSetL)) : PG X (.Subscript x a pos) (tDG X.K C (gBag i k)) := pg_imp h fun v σ H Q ⟨S, ρ, b, d, ρ', b', ok, r, e, q⟩ => by
  unfold gBag at e
  split at e
  · rename_i z hr
    simp only [Option.map_eq_some_iff] at e
    obtain ⟨b2, hb, e⟩ := e
    cases e
    cases r
    obtain ⟨u, hu, ru⟩ := ok.get hr
    cases ru with
    | @bag p hp =>
      obtain ⟨h1, h2⟩ := ok.core.bag p hp
      have fin : ∀ j, ixN 3 k = some j → [V.int b.x, V.int b.y, V.int b.z].set j (.int z) = [V.int b'.x, V.int b'.y, V.int b'.z] → gSub (tVar i) (tC (.int k)) rSetL (.int z) σ H Q := fun j hj he => by
        refine ⟨_, hu, p, _, k, j, rfl, rfl, h1, hj, ?_⟩
        rw [he]
        exact q S σ _ (Same.refl _) (ok.bagW hp)
      unfold Bag.set at hb
      by_cases h0 : k = 0
      · subst h0
        rw [if_pos rfl] at hb
        cases hb
        exact fin 0 rfl rfl
      · rw [if_neg h0] at hb
        by_cases h1 : k = 1
        · subst h1
          rw [if_pos rfl] at hb
          cases hb
          exact fin 1 rfl rfl
        · rw [if_neg h1] at hb
          by_cases h2 : k = 2
          · subst h2
            rw [if_pos rfl] at hb
            cases hb
            exact fin 2 rfl rfl
          · rw [if_neg h2] at hb
            cases hb
  · cases e
def sPar2 (i j : Nat) (G : AF) : SF := fun ρ b => (G ρ b).st ρ fun ds b' => match ds with
  | [d, e] => .nx ((ρ.set i (some (.sh d))).set j (some (.sh e))) b'
  | _ => .stuck
theorem d_par2 {i j : Nat} (h : PS X st (tPar i j (tDA X.K C W G))) : PS X st (tDS X.K C W (sPar2 i j G)) := ps_imp h fun E σ H ⟨S, ρ, b, ok, q⟩ => by
  refine ⟨S, ρ, b, ok, q.st.imp fun ds b1 S1 H1 s1 ok1 q1 vs r => ?_⟩
  split at q1
  · cases r with
    | cons r1 r =>
      cases r with
      | cons r2 r =>
        cases r
        exact ⟨_, _, rfl, q1 S1 _ H1 (Same.refl _) ((ok1.setSh r1).setSh r2)⟩
  · exact q1.elim
/-- an expression within: in an inner run, without the owned -/
def tDin (K : PySem.W.Frag) (F : EF) : TE := fun σ H Q => ∃ C, tD K C W0 F σ H Q
end
end DL

set_option maxHeartbeats 2000000
namespace PySem
open AutoSeq1 (wpAny_loadPart')
/-- enumerate of what begins an iterator, from 0 -/
theorem enum0_made {v : Value} {o : Obj} {G : Heap → Prop} (B : Begins v o G) :
    Meets (Builtin.«enumerate.__new__» ⟨[.type "enumerate", v], []⟩) (fun _ R s => G s.heap ∧
      R (.ok (.ret (.ref (s.heap.push o).objs.size))) { s with heap := (s.heap.push o).push { cls := .type "enumerate", data := .fields #[.none, .bool false, .ref s.heap.objs.size, rawInt 0, .none, .none] } }) :=
  .of_wp fun prog w A R s z => by
    obtain ⟨hp, gs, dr, tk, os⟩ := s
    obtain ⟨z1, z2⟩ := z
    have sub := sub_enumerate
    have begin_ : ∀ {A' : Around} {E : Value → Shared → Prop} {Q : Value → Shared → Prop}, Q (.ref hp.objs.size) ⟨hp.push o, gs, dr, tk, os⟩ → wpAny (model prog w) A' (pyIter v) Q E ⟨hp, gs, dr, tk, os⟩ := fun {A' E Q} q =>
      B.iter prog w A' E ⟨hp, gs, dr, tk, os⟩ Q z1 q
    wp_walk using begin_
    refine wpAny_stack_any fun st => wpAny_pure ?_
    split
    · rename_i c _ _ _ _ _
      cases (c == Value.type "enumerate") <;> (wp_walk using begin_; exact ⟨_, rfl, z2⟩)
    · wp_walk using begin_
      exact ⟨_, rfl, z2⟩
theorem enum0_begins {prog : Program} {w : World} {A : Around} {E : Value → Shared → Prop} {s : Shared} {v : Value} {o : Obj} {G : Heap → Prop} {Q : Value → Shared → Prop} (B : Begins v o G) (z : G s.heap)
    (h : ∀ h', IsEnum h' (s.heap.objs.size + 1) s.heap.objs.size 0 .none → h'.get? s.heap.objs.size = some o → h'.objs.size = s.heap.objs.size + 2 →
      (∀ b ob, s.heap.get? b = some ob → h'.get? b = some ob) → Q (.ref (s.heap.objs.size + 1)) { s with heap := h' }) : wpAny (model prog w) A (call (.type "enumerate") [v]) Q E s := by
  refine callType_new F.called_enumerate (by decide) (F.typeCall_enumerate_1 _) (F.newCall_enumerate_1 _) (fun ob => F.args_object_init_2 ob _) F.entry_enumerate_new (enum0_made B) ⟨z, ?_⟩
  have sz : (s.heap.push o).objs.size = s.heap.objs.size + 1 := Heap.size_push ..
  have at_ : IsEnum ((s.heap.push o).push { cls := .type "enumerate", data := .fields #[.none, .bool false, .ref s.heap.objs.size, rawInt 0, .none, .none] }) (s.heap.objs.size + 1) s.heap.objs.size 0 .none := by
    rw [← sz]
    exact Heap.get?_push_size _ rfl
  show _ ∧ _
  rw [sz]
  exact ⟨⟨_, at_, rfl⟩, h _ at_ (Heap.get?_push_of_some _ (Heap.get?_push_size _ B.free)) (by rw [Heap.size_push, sz]) fun b ob q => Heap.get?_push_of_some _ (Heap.get?_push_of_some _ q)⟩
end PySem
namespace DL
open PySem PySem.Spec PyProof.Rows L2
variable [TB : TabSet]
/-- enumerate(t), t a tuple: each item in a new pair -/
def Itet (K : PySem.W.Frag) (a : Addr) : It :=
  ⟨fun i H => ∃ (xs : List V) (x : V), SqT K H a xs ∧ xs[i]? = some x, fun i H v H' => ∃ T x, v = .ref T ∧ H T = none ∧ H' = upd H T (.tup [.int (i : Nat), x]) ∧ ∀ xs, SqT K H a xs → xs[i]? = some x, fun i H => ∃ xs : List V, SqT K H a xs ∧ xs.length = i⟩
theorem turn_enumT {P : Program} {w : World} {K : PySem.W.Frag} {elts : List Expr} {kk : Nat} {tpos : Pos} (a e it : Addr) (hei : e ≠ it) :
    Turn P w K (.Tuple elts kk tpos) (Itet K a) [e, it] e (fun i h => (∃ old, IsEnum h e it ((i : Nat) : Int) old) ∧ h.IsTupleIter it a i) where
  mem := by simp
  obj := fun i h st b hb => by
    obtain ⟨⟨old, he⟩, ⟨o, ho, hc, hd⟩⟩ := st
    rcases (show b = e ∨ b = it by simpa using hb) with z | z
    · subst z; exact ⟨_, he, fun v q => by cases q⟩
    · subst z; exact ⟨o, ho, fun v q => by rw [hd] at q; cases q⟩
  keep := fun i h h' st k => ⟨st.1.elim fun old he => ⟨old, k e (by simp) _ he⟩, st.2.at fun o q => k it (by simp) o q⟩
  item := by
    intro X hP hw hK hc i pins s σ H E I hf st hg
    subst hP hw hK
    obtain ⟨xs, x, hq, hx⟩ := hg
    obtain ⟨its, rv, p, hz⟩ := I.tuple hq
    obtain ⟨u, hu, ru⟩ := rv.get hx
    obtain ⟨⟨old, he⟩, hit⟩ := st
    have hle : e < s.heap.objs.size := Heap.lt_size he
    have hli : it < s.heap.objs.size := by obtain ⟨_, q, _⟩ := hit; exact Heap.lt_size q
    have hta : a ≠ it := fun z => by
      subst z
      obtain ⟨o1, g1, g2, _⟩ := hit
      obtain ⟨o2, g3, g4, _⟩ := p
      rw [g1] at g3
      cases g3
      rw [g2] at g4
      exact absurd g4 (by decide)
    have hne : a ≠ e := fun z => by
      subst z
      obtain ⟨o2, g3, g4, _⟩ := p
      have he' : s.heap.get? a = some _ := he
      rw [he'] at g3
      cases g3
      exact absurd (show Value.type "enumerate" = Value.type "tuple" from g4) (by decide)
    have G := GoesN.enumFrom (elts := elts) (x1 := kk) (pos := tpos) 0 (Draws.tuple (prog := X.prog) (w := X.w) (A := X.A.in1) (I.ok.hd hc) it a hta its.toArray) e hei (by simp [hei, hne.symm]) (by simp)
    have hil : i < its.length := (List.getElem?_eq_some_iff.mp hu).1
    have st' : (∃ old, IsEnum s.heap e it (0 + ((i : Nat) : Int)) old) ∧ s.heap.IsTupleIter it a i ∧ s.heap.IsTuple a its.toArray := ⟨⟨old, by rw [Int.zero_add]; exact he⟩, hit, p⟩
    refine wpAny_mono (G.goes i s (fun v s2 => ∃ x H', Inv X pins σ H' s2 ∧ RelV x v ∧ (Itet X.K a).yld i H x H' ∧ ((∃ old, IsEnum s2.heap e it ((i + 1 : Nat) : Int) old) ∧ s2.heap.IsTupleIter it a (i + 1)) ∧ ∀ b ∈ [e, it], H' b = none) E (by simpa using hil) st' fun v h' tk hY hst hk htk => ?_)
      (fun r s1 h1 => h1) fun _ _ z => z
    obtain ⟨T, t, y, rfl, hT, hy, hTup⟩ := hY
    have ey : y = u := by
      have hy' : its[i]? = some y := by simpa using hy
      rw [hu] at hy'
      exact (Option.some.inj hy').symm
    subst ey
    have hnb : ∀ b ∈ [e, it], b < s.heap.objs.size := fun b hb => by
      rcases (show b = e ∨ b = it by simpa using hb) with z | z
      · subst z; exact hle
      · subst z; exact hli
    have new : ObjOk X.prog X.w (upd H T (.tup [.int (i : Nat), x])) h' T (.tup [.int (i : Nat), x]) :=
      ⟨by show 2 ≤ sizeLine; decide, [.int (0 + (i : Nat)) t, y], .cons ⟨t, by rw [Int.zero_add]⟩ (.cons ru .nil), hTup⟩
    have J := I.turnedNew (t' := tk) (ch := [e, it]) hk hf hT new
    refine ⟨.ref T, _, J, rfl, ⟨T, x, rfl, I.hok.fresh hT, rfl, fun ys hy => by rw [I.tuple_inj hy hq]; exact hx⟩, ⟨?_, hst.2.1⟩, fun b hb => ?_⟩
    · obtain ⟨old', he'⟩ := hst.1
      have e0 : (0 : Int) + ((i + 1 : Nat) : Int) = ((i + 1 : Nat) : Int) := Int.zero_add _
      rw [e0] at he'
      exact ⟨old', he'⟩
    · rw [upd_ne (Nat.ne_of_lt (Nat.lt_of_lt_of_le (hnb b hb) hT))]
      exact (hf b hb).1
  done := by
    intro X hP hw hK hc i pins s σ H E I hf st hg
    subst hP hw hK
    obtain ⟨xs, hq, hx⟩ := hg
    obtain ⟨its, rv, p, hz⟩ := I.tuple hq
    obtain ⟨⟨old, he⟩, hit⟩ := st
    have hta : a ≠ it := fun z => by
      subst z
      obtain ⟨o1, g1, g2, _⟩ := hit
      obtain ⟨o2, g3, g4, _⟩ := p
      rw [g1] at g3
      cases g3
      rw [g2] at g4
      exact absurd g4 (by decide)
    have hne : a ≠ e := fun z => by
      subst z
      obtain ⟨o2, g3, g4, _⟩ := p
      have he' : s.heap.get? a = some _ := he
      rw [he'] at g3
      cases g3
      exact absurd (show Value.type "enumerate" = Value.type "tuple" from g4) (by decide)
    have G := GoesN.enumFrom (elts := elts) (x1 := kk) (pos := tpos) 0 (Draws.tuple (prog := X.prog) (w := X.w) (A := X.A.in1) (I.ok.hd hc) it a hta its.toArray) e hei (by simp [hei, hne.symm]) (by simp)
    have hl : its.toArray.size = i := by
      rw [List.size_toArray, ← rv.length]
      exact hx
    subst hl
    exact G.stops s (fun s1 => Inv X pins σ H s1) E ⟨⟨old, by rw [Int.zero_add]; exact he⟩, hit, p⟩ fun h' tk hk _ => I.turnedL (t' := tk) (ch := [e, it]) hk hf
  self := fun A i s Q E st h => st.1.elim fun _ he => wpAny_pyIter_enum he h
def iEnumT (K : PySem.W.Frag) (ta : TA) : TI := fun σ H R => ta σ H fun vs H1 => ∃ a xs, vs = [.ref a] ∧ SqT K H1 a xs ∧ R (Itet K a) H1
theorem pi_enumT {X : Cx} {e : Expr} {ta : TA} {p pos tpos : Pos} {elts : List Expr} {kk : Nat} (hg : Gl X "enumerate") (hm : X.mg "enumerate" = none) (ha : PA X [e] ta) (hs : starEach [e] X.env = [(false, eval e X.env)] := by rfl) :
    PI X (.Tuple elts kk tpos) (.Call (.Name "enumerate" p) [e] [] pos) (iEnumT X.K ta) := ⟨fun pins s σ H R I h => by
  refine Call_ (ld_blt I hg hm boot_enumerate (PyProof.Rows.callWith_type1 (thn (ha.run pos pins s σ H _ I h) fun us s1 z => ?_) hs rfl))
  obtain ⟨vs, H1, J, r, a, xs, rfl, hq, q⟩ := z
  cases r with
  | cons r rr =>
    cases rr
    cases r
    obtain ⟨its, rv, p', hz⟩ := J.tuple hq
    refine enum0_begins (begins_tuple a its.toArray) p' fun h' he hit hsz hk => wpAny_pyIter_enum he ?_
    refine ⟨s1.heap.objs.size + 1, [s1.heap.objs.size + 1, s1.heap.objs.size], _, _, H1, rfl, J.kept (t' := s1.toks) hk, turn_enumT a (s1.heap.objs.size + 1) s1.heap.objs.size (Nat.succ_ne_self _), ⟨⟨.none, he⟩, _, hit, rfl, rfl⟩, fun b hb => ?_, q⟩
    have le : s1.heap.objs.size ≤ b := by
      rcases (show b = s1.heap.objs.size + 1 ∨ b = s1.heap.objs.size by simpa using hb) with y | y
      · rw [y]; exact Nat.le_succ _
      · rw [y]; exact Nat.le_refl _
    exact J.fpOk le (J.hok.fresh le)⟩
def Itzs (x y : Str) : It :=
  ⟨fun i _ => i < min x.cps.size y.cps.size, fun i H v H' => ∃ T c d, v = .ref T ∧ H T = none ∧ H' = upd H T (.tup [.str ⟨#[c]⟩, .str ⟨#[d]⟩]) ∧ x.cps[i]? = some c ∧ y.cps[i]? = some d, fun i _ => i = min x.cps.size y.cps.size⟩
theorem turn_zipS {P : Program} {w : World} {K : PySem.W.Frag} {elts : List Expr} {kk : Nat} {tpos : Pos} {x y : Str} {t u : Tok} {z TI TO i1 i2 : Addr} (S : ZipSep2 z TI TO i1 i2 [i1] [i2]) :
    Turn P w K (.Tuple elts kk tpos) (Itzs x y) [z, TI, TO, i1, i2] z (fun i h => IsZip h z TI TO .none ∧ IsTupOf2 h TI (.ref i1) (.ref i2) ∧ (∃ a1 a2, IsTupOf2 h TO a1 a2) ∧ h.IsStrIter i1 (strIterType x) x t i ∧ h.IsStrIter i2 (strIterType y) y u i) where
  mem := by simp
  obj := fun i h st c hc => by
    obtain ⟨hz, hTI, ⟨a1, a2, hTO⟩, ⟨o1, e1, _, d1⟩, ⟨o2, e2, _, d2⟩⟩ := st
    rcases (show c = z ∨ c = TI ∨ c = TO ∨ c = i1 ∨ c = i2 by simpa using hc) with q | q | q | q | q
    · rw [q]; exact ⟨_, hz, fun v y => by cases y⟩
    · rw [q]; exact ⟨_, hTI, fun v y => by cases y⟩
    · rw [q]; exact ⟨_, hTO, fun v y => by cases y⟩
    · rw [q]; exact ⟨o1, e1, fun v y => by rw [d1] at y; cases y⟩
    · rw [q]; exact ⟨o2, e2, fun v y => by rw [d2] at y; cases y⟩
  keep := fun i h h' st k => by
    obtain ⟨hz, hTI, ⟨a1, a2, hTO⟩, ⟨o1, e1, r1⟩, ⟨o2, e2, r2⟩⟩ := st
    exact ⟨k z (by simp) _ hz, k TI (by simp) _ hTI, ⟨a1, a2, k TO (by simp) _ hTO⟩, ⟨o1, k i1 (by simp) _ e1, r1⟩, ⟨o2, k i2 (by simp) _ e2, r2⟩⟩
  item := by
    intro X hP hw hK hc i pins s σ H E I hf st hg
    subst hP hw hK
    have hh : X.A.in1.handled = none := I.ok.hd hc
    have G := GoesN.zip2 (elts := elts) (x1 := kk) (pos := tpos) S (Draws.text (prog := X.prog) (w := X.w) (A := X.A.in1) hh i1 x t) (Draws.text (prog := X.prog) (w := X.w) (A := X.A.in1) hh i2 y u)
    have alive : ∀ b ∈ [z, TI, TO, i1, i2], b < s.heap.objs.size := fun b hb => by
      obtain ⟨hz, hTI, ⟨a1, a2, hTO⟩, ⟨o1, e1, _, d1⟩, ⟨o2, e2, _, d2⟩⟩ := st
      rcases (show b = z ∨ b = TI ∨ b = TO ∨ b = i1 ∨ b = i2 by simpa using hb) with q | q | q | q | q
      · rw [q]; exact Heap.lt_size hz
      · rw [q]; exact Heap.lt_size hTI
      · rw [q]; exact Heap.lt_size hTO
      · rw [q]; exact Heap.lt_size e1
      · rw [q]; exact Heap.lt_size e2
    refine wpAny_mono (G.goes i s (fun v s2 => ∃ w H', Inv X pins σ H' s2 ∧ RelV w v ∧ (Itzs x y).yld i H w H' ∧ (IsZip s2.heap z TI TO .none ∧ IsTupOf2 s2.heap TI (.ref i1) (.ref i2) ∧ (∃ a1 a2, IsTupOf2 s2.heap TO a1 a2) ∧ s2.heap.IsStrIter i1 (strIterType x) x t (i + 1) ∧ s2.heap.IsStrIter i2 (strIterType y) y u (i + 1)) ∧ ∀ b ∈ [z, TI, TO, i1, i2], H' b = none) E hg st fun v h' tk hY hst hk htk => ?_)
      (fun r s1 h1 => h1) fun _ _ q => q
    obtain ⟨T, v1, v2, rfl, hT, ⟨c, t1, hc1, rfl⟩, ⟨d, t2, hd1, rfl⟩, hTup⟩ := hY
    have new : ObjOk X.prog X.w (upd H T (.tup [.str ⟨#[c]⟩, .str ⟨#[d]⟩])) h' T (.tup [.str ⟨#[c]⟩, .str ⟨#[d]⟩]) :=
      ⟨by show 2 ≤ sizeLine; decide, [.str ⟨#[c]⟩ t1, .str ⟨#[d]⟩ t2], .cons ⟨t1, rfl⟩ (.cons ⟨t2, rfl⟩ .nil), hTup⟩
    have J := I.turnedNew (t' := tk) (ch := [z, TI, TO, i1, i2]) (fun b o hb q => hk b o (fun m => hb (by
      rcases (show b = z ∨ b = TO ∨ b = i1 ∨ b = i2 by simpa using m) with y | y | y | y <;> simp [y])) q) hf hT new
    refine ⟨.ref T, _, J, rfl, ⟨T, c, d, rfl, I.hok.fresh hT, rfl, hc1, hd1⟩, hst, fun b hb => ?_⟩
    rw [upd_ne (Nat.ne_of_lt (Nat.lt_of_lt_of_le (alive b hb) hT))]
    exact (hf b hb).1
  done := by
    intro X hP hw hK hc i pins s σ H E I hf st hg
    subst hP hw hK
    have hh : X.A.in1.handled = none := I.ok.hd hc
    have G := GoesN.zip2 (elts := elts) (x1 := kk) (pos := tpos) S (Draws.text (prog := X.prog) (w := X.w) (A := X.A.in1) hh i1 x t) (Draws.text (prog := X.prog) (w := X.w) (A := X.A.in1) hh i2 y u)
    have hi : i = min x.cps.size y.cps.size := hg
    subst hi
    exact G.stops s (fun s1 => Inv X pins σ H s1) E st fun h' tk hk _ => I.turnedL (t' := tk) (ch := [z, TI, TO, i1, i2]) (fun b o hb q => hk b o (fun m => hb (by
      rcases (show b = z ∨ b = TO ∨ b = i1 ∨ b = i2 by simpa using m) with y | y | y | y <;> simp [y])) q) hf
  self := fun A i s Q E st h => wpAny_pyIter_zip st.1 h
def iZipS (ta : TA) : TI := fun σ H R => ta σ H fun vs H1 => ∃ x y, vs = [.str x, .str y] ∧ R (Itzs x y) H1
theorem pi_zipS {X : Cx} {e e2 : Expr} {ta : TA} {p pos tpos : Pos} {elts : List Expr} {kk : Nat} (hg : Gl X "zip") (hm : X.mg "zip" = none) (ha : PA X [e, e2] ta)
    (hs : starEach [e, e2] X.env = (false, eval e X.env) :: starEach [e2] X.env := by rfl) (hpl : (backTo pos (starEach [e2] X.env)).any (·.1) = false := by rfl) :
    PI X (.Tuple elts kk tpos) (.Call (.Name "zip" p) [e, e2] [] pos) (iZipS ta) := ⟨fun pins s σ H R I h => by
  refine Call_ (ld_blt I hg hm PyProof.Rows.boot_zip (PyProof.Rows.callWith_type1 (thn (ha.run pos pins s σ H _ I h) fun us s1 w => ?_) hs hpl))
  obtain ⟨vs, H1, J, r, x, y, rfl, q⟩ := w
  cases r with
  | cons r rr =>
    cases rr with
    | cons r' rr =>
      cases rr
      obtain ⟨t, rfl⟩ := r
      obtain ⟨u, rfl⟩ := r'
      refine zip_begins2 (begins_text x t) (begins_text y u) trivial trivial fun h' hz hTI hTO h1 h2 hsz hk => wpAny_pyIter_zip hz ?_
      refine ⟨s1.heap.objs.size + 4, [s1.heap.objs.size + 4, s1.heap.objs.size + 2, s1.heap.objs.size + 3, s1.heap.objs.size, s1.heap.objs.size + 1], _, _, H1, rfl, J.kept (t' := s1.toks) hk,
        turn_zipS (x := x) (y := y) (t := t) (u := u) (zip_sep2 (fp1 := []) (fp2 := []) (by simp) (by simp)), ⟨hz, hTI, ⟨_, _, hTO⟩, ⟨_, h1, rfl, rfl⟩, ⟨_, h2, rfl, rfl⟩⟩, fun b hb => ?_, q⟩
      have le : s1.heap.objs.size ≤ b := by
        rcases (show b = s1.heap.objs.size + 4 ∨ b = s1.heap.objs.size + 2 ∨ b = s1.heap.objs.size + 3 ∨ b = s1.heap.objs.size ∨ b = s1.heap.objs.size + 1 by simpa using hb) with w | w | w | w | w
        · rw [w]; exact Nat.le_add_right _ _
        · rw [w]; exact Nat.le_add_right _ _
        · rw [w]; exact Nat.le_add_right _ _
        · rw [w]; exact Nat.le_refl _
        · rw [w]; exact Nat.le_add_right _ _
      exact J.fpOk le (J.hok.fresh le)⟩
end DL

set_option maxHeartbeats 1000000
namespace DL
open PySem PySem.Spec PyProof.Rows L2
variable [TB : TabSet]
section
variable {X : Cx} {C : Cq} {W : WX} {st : Stmt} {e a b c o tg l : Expr} {es : List Expr} {pos apos cpos : Pos} {F Fa Fb Fc : EF} {G : AF}
def signsOf (x : Str) : List D := x.cps.toList.map fun c => .str ⟨#[c]⟩
def aSigns (F : EF) : AF := fun ρ b => (F ρ b).bind fun d b' => match d with
  | .str x => .ok (signsOf x) b'
  | _ => .stuck
theorem itS {K : PySem.W.Frag} {ba : Option Addr} {S : Hp} (x : Str) : ItD K ba (Its x) (signsOf x) S := fun C hC i S' ρ b σ H e ok => by
  have hl : (signsOf x).length = x.cps.size := by simp [signsOf]
  refine ⟨fun d hd => ?_, fun h => ?_⟩
  · have hi : i < x.cps.size := by rw [← hl]; exact (List.getElem?_eq_some_iff.mp hd).1
    refine ⟨hi, fun v H' y => ?_⟩
    obtain ⟨e1, k, hk, rfl⟩ := y
    subst e1
    have hd' : (signsOf x)[i]? = some (.str ⟨#[k]⟩) := by
      unfold signsOf
      rw [List.getElem?_map, Array.getElem?_toList, hk]
      rfl
    rw [hd] at hd'
    cases hd'
    exact ⟨S', Same.refl _, ok, .str _, fun _ _ z => z⟩
  · show x.cps.size ≤ i
    omega
theorem d_istr (h : PE X l (tD X.K C W F)) : PI X tg l (tDI X.K C W (aSigns F)) := pi_imp (pi_str h) fun σ H R ⟨S, ρ, b, ok, q⟩ => by
  refine ⟨S, ρ, b, ok, q.bind.imp fun d b1 S1 H1 s1 ok1 q1 v r => ?_⟩
  cases d with
  | str x => cases r; exact ⟨x, rfl, q1 S1 H1 (Same.refl _) ok1 _ (itS x)⟩
  | _ => exact q1.elim
def enumOf (ds : List D) : List D := (List.range ds.length).zipWith (fun (k : Nat) d => D.tup [.int k, d]) ds
def aEnumT (G : AF) : AF := fun ρ b => (G ρ b).bind fun ds b' => match ds with
  | [.tup ds] => .ok (enumOf ds) b'
  | _ => .stuck
theorem pair_of {K : PySem.W.Frag} {S : Hp} {ρ : Env} {b : Bag} {σ : L2.St} {H : Hp} {T : Addr} {v w : V} {d e : D} (ok : OkS K C S ρ b σ H) (hT : H T = none) (r1 : DR K C.ba S v d) (r2 : DR K C.ba S w e) :
    Same S (upd S T (.tup [v, w])) ∧ OkS K C (upd S T (.tup [v, w])) ρ b σ (upd H T (.tup [v, w])) ∧ DR K C.ba (upd S T (.tup [v, w])) (.ref T) (.tup [d, e]) :=
  ⟨ok.same hT, ok.alloc hT, .tup upd_same (.cons (r1.up (ok.same hT)) (.cons (r2.up (ok.same hT)) .nil))⟩
theorem keep_upd {H : Hp} {T : Addr} {u : HO} (hT : H T = none) : ∀ p o, H p = some o → upd H T u p = some o := fun p o e => by
  rw [upd_ne (ne_of_none e hT)]; exact e
theorem itE {K : PySem.W.Frag} {ba : Option Addr} {S : Hp} {a : Addr} {xs : List V} {ds : List D} (h : S a = some (.tup xs)) (r : DRs K ba S xs ds) : ItD K ba (Itet K a) (enumOf ds) S := fun C hC i S' ρ b σ H e ok => by
  subst hC
  have hS : SqT K H a xs := seqT (e.trans ok.core.sub) h
  have hl : (enumOf ds).length = ds.length := by simp [enumOf]
  refine ⟨fun d hd => ?_, fun hl' => ⟨xs, hS, by rw [r.length, ← hl]; exact hl'⟩⟩
  have hi : i < ds.length := by rw [← hl]; exact (List.getElem?_eq_some_iff.mp hd).1
  have hdi : ds[i]? = some ds[i] := List.getElem?_eq_getElem hi
  obtain ⟨v, hv, rv⟩ := r.get hdi
  refine ⟨⟨xs, v, hS, hv⟩, fun x H' y => ?_⟩
  obtain ⟨T, x0, rfl, hT, rfl, y⟩ := y
  have hx := y xs hS
  rw [hv] at hx
  cases hx
  have hd' : (enumOf ds)[i]? = some (.tup [.int (i : Nat), ds[i]]) := by
    unfold enumOf
    rw [List.getElem?_zipWith, hdi, List.getElem?_range hi]
  rw [hd] at hd'
  cases hd'
  obtain ⟨p1, p2, p3⟩ := pair_of ok hT (.int (i : Nat)) (rv.up e)
  exact ⟨_, p1, p2, p3, keep_upd hT⟩
theorem d_ienumT {elts : List Expr} {kk : Nat} {p tpos : Pos} (hg : Gl X "enumerate") (hm : X.mg "enumerate" = none) (ha : PA X [a] (tDA X.K C W G)) (hs : starEach [a] X.env = [(false, eval a X.env)] := by rfl) :
    PI X (.Tuple elts kk tpos) (.Call (.Name "enumerate" p) [a] [] pos) (tDI X.K C W (aEnumT G)) := pi_imp (pi_enumT hg hm ha hs) fun σ H R ⟨S, ρ, b, ok, q⟩ => by
  refine ⟨S, ρ, b, ok, q.bind.imp fun ds b1 S1 H1 s1 ok1 q1 vs r => ?_⟩
  split at q1
  · cases r with
    | cons r1 r2 =>
      cases r2
      cases r1 with
      | tup h1 h2 => exact ⟨_, _, rfl, seqT ok1.core.sub h1, q1 S1 H1 (Same.refl _) ok1 _ (itE h1 h2)⟩
  · exact q1.elim
def zipOf (xs ys : List D) : List D := xs.zipWith (fun d e => D.tup [d, e]) ys
def aZipS (G : AF) : AF := fun ρ b => (G ρ b).bind fun ds b' => match ds with
  | [.str x, .str y] => .ok (zipOf (signsOf x) (signsOf y)) b'
  | _ => .stuck
theorem itZ {K : PySem.W.Frag} {ba : Option Addr} {S : Hp} (x y : Str) : ItD K ba (Itzs x y) (zipOf (signsOf x) (signsOf y)) S := fun C hC i S' ρ b σ H e ok => by
  subst hC
  have hl : (zipOf (signsOf x) (signsOf y)).length = min x.cps.size y.cps.size := by simp [zipOf, signsOf]
  refine ⟨fun d hd => ?_, fun h => ?_⟩
  · have hi : i < min x.cps.size y.cps.size := by rw [← hl]; exact (List.getElem?_eq_some_iff.mp hd).1
    refine ⟨hi, fun v H' w => ?_⟩
    obtain ⟨T, k, m, rfl, hT, rfl, hk, hm⟩ := w
    have hd' : (zipOf (signsOf x) (signsOf y))[i]? = some (.tup [.str ⟨#[k]⟩, .str ⟨#[m]⟩]) := by
      unfold zipOf signsOf
      rw [List.getElem?_zipWith, List.getElem?_map, List.getElem?_map, Array.getElem?_toList, Array.getElem?_toList, hk, hm]
      rfl
    rw [hd] at hd'
    cases hd'
    obtain ⟨p1, p2, p3⟩ := pair_of ok hT (.str ⟨#[k]⟩) (.str ⟨#[m]⟩)
    exact ⟨_, p1, p2, p3, keep_upd hT⟩
  · show i = min x.cps.size y.cps.size
    omega
theorem d_izipS {elts : List Expr} {kk : Nat} {p tpos : Pos} (hg : Gl X "zip") (hm : X.mg "zip" = none) (ha : PA X [a, b] (tDA X.K C W G)) (hs : starEach [a, b] X.env = (false, eval a X.env) :: starEach [b] X.env := by rfl) (hpl : (backTo pos (starEach [b] X.env)).any (·.1) = false := by rfl) :
    PI X (.Tuple elts kk tpos) (.Call (.Name "zip" p) [a, b] [] pos) (tDI X.K C W (aZipS G)) := pi_imp (pi_zipS hg hm ha hs hpl) fun σ H R ⟨S, ρ, b, ok, q⟩ => by
  refine ⟨S, ρ, b, ok, q.bind.imp fun ds b1 S1 H1 s1 ok1 q1 vs r => ?_⟩
  split at q1
  · cases r with
    | cons r1 r2 =>
      cases r2 with
      | cons r2 r3 => cases r3; cases r1; cases r2; exact ⟨_, _, rfl, q1 S1 H1 (Same.refl _) ok1 _ (itZ _ _)⟩
  · exact q1.elim
def anySeq : D → Option (List D)
  | .lst ds => some ds
  | .fl ds => some ds
  | .tup ds => some ds
  | _ => none
def aStar (F : EF) (G : AF) : AF := fun ρ b => (F ρ b).bind fun d b1 => match anySeq d with
  | some xs => (G ρ b1).bind fun ds b2 => .ok (xs ++ ds) b2
  | none => .stuck
theorem d_astar {p : Pos} (he : PE X e (tD X.K C W F)) (hr : PA X es (tDA X.K C W G)) (hs : starEach (.Starred e p :: es) X.env = (true, eval e X.env) :: starEach es X.env := by rfl) : PA X (.Starred e p :: es) (tDA X.K C W (aStar F G)) :=
  pa_imp (StX.pa_star he hr hs) fun σ H Q ⟨S, ρ, b, ok, q⟩ => by
  refine ⟨S, ρ, b, ok, q.bind.imp fun d b1 S1 H1 s1 ok1 q1 v r => ?_⟩
  cases hx : anySeq d with
  | none => rw [hx] at q1; exact q1.elim
  | some xs =>
    rw [hx] at q1
    have key : ∃ a ys, v = .ref a ∧ (SqT X.K H1 a ys ∨ SqL X.K H1 a ys) ∧ DRs X.K C.ba S1 ys xs := by
      cases d <;> simp [anySeq] at hx
      · subst hx
        cases r with
        | tup h1 h2 => exact ⟨_, _, rfl, .inl (seqT ok1.core.sub h1), h2⟩
      · subst hx
        cases r with
        | lst h1 h2 => exact ⟨_, _, rfl, .inr (SqL.of (ok1.core.sub _ _ h1)), h2⟩
      · subst hx
        cases r with
        | fl h1 h2 => exact ⟨_, _, rfl, .inr (ok1.core.sub.seq h1), h2⟩
    obtain ⟨a, ys, rfl, h1, h2⟩ := key
    exact ⟨a, ys, rfl, h1, S1, ρ, b1, ok1, q1.bind.imp fun ds b2 S2 H2 s2 ok2 q2 vs rs => q2 S2 H2 (Same.refl _) ok2 _ ((h2.up s2).app rs)⟩
theorem tChain_of {r r' : R2} {f f' : D → D → Option D} (hf : Op2 X.K C r f) (hf' : Op2 X.K C r' f') {σ : L2.St} {H : Hp} {Q : VK} (h : tD X.K C W (e3 f f' Fa Fb Fc) σ H Q) : tChain r r' (tD X.K C W Fa) (tD X.K C W Fb) (tD X.K C W Fc) σ H Q := by
  obtain ⟨S, ρ, b, ok, q⟩ := h
  refine ⟨S, ρ, b, ok, q.bind.imp fun x b1 S1 H1 s1 ok1 q1 v r1 => ⟨S1, ρ, b1, ok1, q1.bind.imp fun y b2 S2 H2 s2 ok2 q2 w r2 => ?_⟩⟩
  split at q2
  · rename_i hz
    refine hf S2 ρ b2 σ H2 v w x y _ _ ok2 (r1.up s2) r2 hz fun u S3 H3 e3 o3 r3 => ?_
    cases r3
    refine ⟨true, rfl, ?_⟩
    rw [if_pos rfl]
    refine ⟨S3, ρ, b2, o3, (OutG.up q2 e3).bind.imp fun z b3 S4 H4 s4 ok4 q4 w' r4 => ?_⟩
    obtain ⟨z', hz', q5⟩ := q4.pureO
    exact hf' S4 ρ b3 σ H4 w w' y z z' Q ok4 (r2.up (e3.trans s4)) r4 hz' fun u S5 H5 e5 o5 r5 => q5 S5 H5 e5 o5 u r5
  · rename_i hz
    refine hf S2 ρ b2 σ H2 v w x y _ _ ok2 (r1.up s2) r2 hz fun u S3 H3 e3 o3 r3 => ?_
    cases r3
    refine ⟨false, rfl, ?_⟩
    rw [if_neg (by decide)]
    exact q2 S3 H3 e3 o3 _ (.bl _)
  · exact q2.elim
theorem d_chain {op op' : CmpOp} {r r' : R2} {f f' : D → D → Option D} (ho : OpR X (compareOp op) r) (ho' : OpR X (compareOp op') r') (hf : Op2 X.K C r f) (hf' : Op2 X.K C r' f') (ha : PE X a (tD X.K C W Fa)) (hb : PE X b (tD X.K C W Fb)) (hc : PE X c (tD X.K C W Fc))
    (hm : lastMarks [op, op'] [b, c] = false := by with_unfolding_all rfl) : PE X (.Compare a [op, op'] [b, c] pos) (tD X.K C W (e3 f f' Fa Fb Fc)) := pe_imp (pe_chain ho ho' ha hb hc hm) fun _ _ _ h => tChain_of hf hf' h
theorem t_chain {op op' : CmpOp} {r r' : R2} {f f' : D → D → Option D} (ho : OpR X (compareOp op) r) (ho' : OpR X (compareOp op') r') (hf : Op2 X.K C r f) (hf' : Op2 X.K C r' f') (ha : PE X a (tD X.K C W Fa)) (hb : PE X b (tD X.K C W Fb)) (hc : PE X c (tD X.K C W Fc))
    (hm : lastMarks [op, op'] [b, c] = false := by with_unfolding_all rfl) : PT X (.Compare a [op, op'] [b, c] pos) (tDt X.K C W (bB (e3 f f' Fa Fb Fc))) := pt_imp (pt_chain ho ho' ha hb hc hm) fun _ _ _ h => by
  have h' := tTest_of h
  exact tChain_of hf hf' h'
theorem t_lele (ha : PE X a (tD X.K C W Fa)) (hb : PE X b (tD X.K C W Fb)) (hc : PE X c (tD X.K C W Fc)) (hm : lastMarks [.LtE, .LtE] [b, c] = false := by with_unfolding_all rfl) : PT X (.Compare a [.LtE, .LtE] [b, c] pos) (tDt X.K C W (bB (e3 leF leF Fa Fb Fc))) := t_chain o_le o_le d_le2 d_le2 ha hb hc hm
theorem d_lele (ha : PE X a (tD X.K C W Fa)) (hb : PE X b (tD X.K C W Fb)) (hc : PE X c (tD X.K C W Fc)) (hm : lastMarks [.LtE, .LtE] [b, c] = false := by with_unfolding_all rfl) : PE X (.Compare a [.LtE, .LtE] [b, c] pos) (tD X.K C W (e3 leF leF Fa Fb Fc)) := d_chain o_le o_le d_le2 d_le2 ha hb hc hm
end
end DL

set_option maxHeartbeats 1000000
namespace DL
open PySem PySem.Spec PyProof.Rows L2
variable [TB : TabSet]
section
variable {X : Cx} {C : Cq} {W : WX} {st : Stmt} {e a b c o tg l : Expr} {es : List Expr} {pos apos cpos : Pos} {F Fa Fb Fc : EF} {G : AF}
theorem d_tyn {x : Str} {n : String} (hg : Gl X x) (hm : X.mg x = none) (hv : bootBuiltins x = some (.type n)) (hn : x ≠ "__name__" := by decide) (hd : (x == ("__debug__" : Str)) = false := by decide) : PE X (.Name x pos) (tD X.K C W (eC (.obj (.ty n)))) :=
  d_const (pe_bltn (v := .ty n) hg hm hv rfl hn hd) fun _ => .obj _
theorem d_clsn {x : Str} {A : Addr} (hg : Gl X x) (hm : X.mg x = some (.ref A)) (hd : (x == ("__debug__" : Str)) = false := by decide) : PE X (.Name x pos) (tD X.K C W (eC (.obj (.ref A)))) :=
  d_const (pe_glob (v := .ref A) hg hm rfl hd) fun _ => .obj _
theorem d_intn {x : Str} {i : Int} {t : Tok} (hg : Gl X x) (hm : X.mg x = some (.int i t)) (hd : (x == ("__debug__" : Str)) = false := by decide) : PE X (.Name x pos) (tD X.K C W (eC (.int i))) :=
  d_const (v := .int i) (pe_glob hg hm ⟨_, rfl⟩ hd) fun _ => .int _
theorem d_strn {x y : Str} {t : Tok} (hg : Gl X x) (hm : X.mg x = some (.str y t)) (hd : (x == ("__debug__" : Str)) = false := by decide) : PE X (.Name x pos) (tD X.K C W (eC (.str y))) :=
  d_const (v := .str y) (pe_glob hg hm ⟨_, rfl⟩ hd) fun _ => .str _
structure ClsI (K : PySem.W.Frag) (C : Addr) : Prop where
  cl : Cls K C
  ha : PySem.W.findIn K (.ref C) "__class__" = some (some (.builtin "object.__class__"))
  hn : PySem.W.specialIn K (.builtin "object.__class__") "__get__" = some (some (.builtin "getset_descriptor.__get__"))
  htk : PySem.W.takesIn K (.builtin "object.__class__") = some true
  hm : PySem.W.mroIn K C (.type "object") = some true
@[simp] def tyD : D → Option (String ⊕ Addr)
  | .non => some (.inl "NoneType")
  | .bl _ => some (.inl "bool")
  | .int _ => some (.inl "int")
  | .str _ => some (.inl "str")
  | .tup _ => some (.inl "tuple")
  | .lst _ => some (.inl "list")
  | .fl _ => some (.inl "list")
  | .ins C _ _ => some (.inr C)
  | .obj _ => none
  | .bag => none
  | .dct _ _ => some (.inl "dict")
  | .dtp _ _ => none
def isiF (c : V) (kb : String → Option Bool) (own : Addr → Option Bool) : List D → Option D
  | [d, .obj c'] => if c' = c then (match tyD d with
    | some (.inl n) => (kb n).map .bl
    | some (.inr A) => (own A).map .bl
    | none => none) else none
  | _ => none
theorem tyx_seqT {K : PySem.W.Frag} {H : Hp} {a : Addr} {xs : List V} (h : SqT K H a xs) : TyX K H (.ref a) (.type "tuple") := by
  rcases h with (h | ⟨o, h⟩) | ⟨o, _, _, h1, h2, _⟩
  · exact .base (.tup h)
  · exact .fTuple h
  · exact .kTuple h1 h2
theorem tyx_seqL {K : PySem.W.Frag} {H : Hp} {a : Addr} {xs : List V} (h : SqL K H a xs) : TyX K H (.ref a) (.type "list") := by
  rcases h with (h | ⟨o, h⟩) | ⟨o, _, _, h1, h2, _⟩
  · exact .base (.lst h)
  · exact .base (.frz h)
  · exact .kList h1 h2
theorem c_isi {K : PySem.W.Frag} {c : V} {u : Value} {kb : String → Option Bool} {own : Addr → Option Bool} (hc : ClsV c u) (hb : ∀ n b, kb n = some b → PySem.W.kitOne K (.type n) u = some b) (ho : ∀ A b, own A = some b → ClsI K A ∧ PySem.W.kitOne K (.ref A) u = some b) : CallD K C (rIsi K) (isiF c kb own) := by
  intro S ρ b σ H vs ds z Q ok rs hz q
  unfold isiF at hz
  split at hz
  · rename_i d c'
    split at hz
    · rename_i hcc
      subst hcc
      cases rs with
      | cons r1 r2 =>
        cases r2 with
        | cons r2 r3 =>
          cases r3; cases r2
          have base : ∀ (n : String), tyD d = some (.inl n) → (∀ v, DR K C.ba S v d → TyX K H v (.type n)) → ∃ (x c : V) (t u : Value) (b : Bool), [_, c'] = [x, c] ∧ ClsV c u ∧ TyX K H x t ∧ PySem.W.kitOne K t u = some b ∧ Q (.bl b) H := fun n hn hty => by
            rw [hn] at hz
            simp only [Option.map_eq_some_iff] at hz
            obtain ⟨k, hk, rfl⟩ := hz
            exact ⟨_, _, _, _, k, rfl, hc, hty _ r1, hb _ _ hk, q _ S H (Same.refl _) ok (.bl _)⟩
          cases d with
          | non => exact base _ rfl fun v r => by cases r; exact .base .non
          | bl k => exact base _ rfl fun v r => by cases r; exact .base (.bl _)
          | int k => exact base _ rfl fun v r => by cases r; exact .base (.int _)
          | str k => exact base _ rfl fun v r => by cases r; exact .base (.str _)
          | tup ds => exact base _ rfl fun v r => (by
              cases r with
              | tup h1 h2 => exact tyx_seqT (seqT ok.core.sub h1))
          | lst ds => exact base _ rfl fun v r => (by
              cases r with
              | lst h1 h2 => exact tyx_seqL (SqL.of (ok.core.sub _ _ h1)))
          | fl ds => exact base _ rfl fun v r => (by
              cases r with
              | fl h1 h2 => exact tyx_seqL (ok.core.sub.seq h1))
          | ins A ns ds =>
            simp only [tyD, Option.map_eq_some_iff] at hz
            obtain ⟨k, hk, rfl⟩ := hz
            obtain ⟨i, hi⟩ := ho _ _ hk
            cases r1 with
            | ins h1 h2 h3 => exact ⟨_, _, _, _, k, rfl, hc, .base (.ins (ok.core.sub _ _ h1) i.cl i.ha i.hn i.htk i.hm), hi, q _ S H (Same.refl _) ok (.bl _)⟩
          | obj v => simp [tyD] at hz
          | bag => simp [tyD] at hz
          | dct ks es => exact base _ rfl fun v r => (by
              cases r with
              | dct h1 h2 h3 => exact .fDict (ok.core.sub _ _ h1))
          | dtp _ _ => simp [tyD] at hz
    · cases hz
  · cases hz
theorem d_isi {p : Pos} {cv : V} {u : Value} {kb : String → Option Bool} {own : Addr → Option Bool} (hc : ClsV cv u) (hb : ∀ n b, kb n = some b → PySem.W.kitOne X.K (.type n) u = some b) (ho : ∀ A b, own A = some b → ClsI X.K A ∧ PySem.W.kitOne X.K (.ref A) u = some b)
    (hg : Gl X "isinstance") (hm : X.mg "isinstance" = none) (ha : PA X [a, b] (tDA X.K C W G)) (he : starEach [a, b] X.env = (false, eval a X.env) :: starEach [b] X.env := by rfl) (hpl : (backTo pos (starEach [b] X.env)).any (·.1) = false := by rfl) :
    PE X (.Call (.Name "isinstance" p) [a, b] [] pos) (tD X.K C W (eB (isiF cv kb own) G)) := d_callB call_isi (c_isi hc hb ho) hg hm PyProof.Rows.boot_isinstance ha (by decide) (by decide) he hpl
def inF : D → D → Option D
  | .str x, .str z => match x.cps.toList with
    | [c] => some (.bl (decide (c ∈ z.cps.toList)))
    | _ => none
  | _, _ => none
theorem one_cp {x : Str} {c : Nat} (h : x.cps.toList = [c]) : x = ⟨#[c]⟩ := by
  cases x with
  | mk cps =>
    have h : cps.toList = [c] := h
    have : cps = #[c] := by
      apply Array.ext'
      exact h
    rw [this]
theorem in2 {K : PySem.W.Frag} : Op2 K C (fun x y H Q => ∃ (c : Nat) (z : Str), x = .str ⟨#[c]⟩ ∧ y = .str z ∧ Q (.bl (decide (c ∈ z.cps.toList))) H) inF := by
  intro S ρ b σ H v w d e z Q ok r1 r2 hz q
  unfold inF at hz
  split at hz
  · split at hz
    · rename_i hc
      cases hz; cases r1; cases r2
      exact ⟨_, _, by rw [one_cp hc], rfl, q _ S H (Same.refl _) ok (.bl _)⟩
    · cases hz
  · cases hz
theorem d_in (ha : PE X a (tD X.K C W Fa)) (hb : PE X b (tD X.K C W Fb)) (hm : behindInMarks .In b = false := by with_unfolding_all rfl) : PE X (.Compare a [.In] [b] pos) (tD X.K C W (e2 inF Fa Fb)) := d_cmp op_in_sign in2 ha hb hm
def eM (f : Str → List D → Option D) (Fo : EF) (G : AF) : EF := fun ρ b => (Fo ρ b).bind fun d b1 => match d with
  | .str x => (G ρ b1).bind fun ds b2 => Out.pureO (f x ds) b2
  | _ => .stuck
def MtD (K : PySem.W.Frag) (C : Cq) (r : V → List V → Hp → VK → Prop) (f : Str → List D → Option D) : Prop := ∀ (S : Hp) (ρ : Env) (b : Bag) (σ : L2.St) (H : Hp) (x : Str) (vs : List V) (ds : List D) (z : D) (Q : VK), OkS K C S ρ b σ H → DRs K C.ba S vs ds → f x ds = some z →
  (∀ u S' H', Same S S' → OkS K C S' ρ b σ H' → DR K C.ba S' u z → Q u H') → r (.str x) vs H Q
theorem d_bm {name : Str} {id : String} {r : V → List V → Hp → VK → Prop} {f : Str → List D → Option D} (slot : Slot "str" name id) (hty : typeOf (.builtin id) = pure (.type "method_descriptor")) (hm : MtR X id r) (hf : MtD X.K C r f) (ho : PE X o (tD X.K C W F)) (ha : PA X (e :: es) (tDA X.K C W G))
    (hbase : attributeBase o name X.env (eval o X.env) = eval o X.env := by rfl)
    (hfew : ((backTo cpos (starEach (e :: es) X.env)).all (fun x => !x.1) && (backToKw cpos (keywordEach [] X.env)).all (fun x => x.1.isSome)
      && decide ((e :: es).length + ([] : List Keyword).length + (if ([] : List Keyword).isEmpty then 0 else 1) < 30)) = true := by rfl)
    (hline : (apos.endLine == cpos.line) = true := by rfl) (hs : starEach (e :: es) X.env = (false, eval e X.env) :: starEach es X.env := by rfl) (hplain : (backTo cpos (starEach es X.env)).any (·.1) = false := by rfl) :
    PE X (.Call (.Attribute o name apos) (e :: es) [] cpos) (tD X.K C W (eM f F G)) :=
  pe_imp (pe_bm PySem.F.plainAttrs_str slot hty hm ho ha hbase hfew hline hs hplain) fun σ H Q ⟨S, ρ, b, ok, q⟩ => by
  refine ⟨S, ρ, b, ok, q.bind.imp fun d b1 S1 H1 s1 ok1 q1 v r => ?_⟩
  cases d with
  | str x =>
    cases r
    refine ⟨rfl, S1, ρ, b1, ok1, q1.bind.imp fun ds b2 S2 H2 s2 ok2 q2 vs rs => ?_⟩
    obtain ⟨z, hz, q3⟩ := q2.pureO
    exact hf S2 ρ b2 σ H2 x vs ds z Q ok2 rs hz fun u S' H' e o r => q3 S' H' e o u r
  | _ => exact q1.elim
def strsD : List D → Option (List Str)
  | [] => some []
  | .str x :: ds => (strsD ds).map (x :: ·)
  | _ :: _ => none
def seqD : D → Option (List D)
  | .lst ds => some ds
  | .tup ds => some ds
  | .fl ds => some ds
  | _ => none
def joinF (x : Str) : List D → Option D
  | [d] => (seqD d).bind fun ds => (strsD ds).bind fun ys => if (ys.map (·.length)).sum + ys.length * x.length ≤ 16777216 then some (.str (Txt.join x ys)) else none
  | _ => none
theorem strsD_dr {K : PySem.W.Frag} {ba : Option Addr} {S : Hp} : ∀ {ds : List D} {vs : List V} {ys : List Str}, DRs K ba S vs ds → strsD ds = some ys → vs = ys.map V.str
  | [], _, _, r, h => by cases r; cases h; rfl
  | .str x :: ds, _, _, r, h => by
    simp only [strsD, Option.map_eq_some_iff] at h
    obtain ⟨ks, h1, rfl⟩ := h
    cases r with
    | cons r1 r2 => cases r1; rw [strsD_dr r2 h1]; rfl
  | .non :: _, _, _, _, h => by cases h
  | .int _ :: _, _, _, _, h => by cases h
  | .bl _ :: _, _, _, _, h => by cases h
  | .tup _ :: _, _, _, _, h => by cases h
  | .lst _ :: _, _, _, _, h => by cases h
  | .fl _ :: _, _, _, _, h => by cases h
  | .ins _ _ _ :: _, _, _, _, h => by cases h
  | .obj _ :: _, _, _, _, h => by cases h
  | .bag :: _, _, _, _, h => by cases h
  | .dct _ _ :: _, _, _, _, h => by cases h
  | .dtp _ _ :: _, _, _, _, h => by cases h
theorem m_join {K : PySem.W.Frag} : MtD K C (fun x xs H Q => ∃ a p, ∃ ys : List Str, x = .str a ∧ xs = [.ref p] ∧ (SqL K H p (ys.map V.str) ∨ SqT K H p (ys.map V.str)) ∧
    (ys.map (·.length)).sum + ys.length * a.length ≤ 16777216 ∧ Q (.str (Txt.join a ys)) H) joinF := by
  intro S ρ b σ H x vs ds z Q ok rs hz q
  unfold joinF at hz
  split at hz
  · rename_i d
    simp only [Option.bind_eq_some_iff] at hz
    obtain ⟨ds, h1, ys, h2, hz⟩ := hz
    split at hz
    · rename_i hl
      cases hz
      cases rs with
      | @cons v0 _ _ _ r1 r2 =>
        cases r2
        have key : ∃ p xs, v0 = V.ref p ∧ (SqL K H p xs ∨ SqT K H p xs) ∧ DRs K C.ba S xs ds := by
          cases d <;> simp [seqD] at h1
          · subst h1
            cases r1 with
            | tup g1 g2 => exact ⟨_, _, rfl, .inr (seqT ok.core.sub g1), g2⟩
          · subst h1
            cases r1 with
            | lst g1 g2 => exact ⟨_, _, rfl, .inl (SqL.of (ok.core.sub _ _ g1)), g2⟩
          · subst h1
            cases r1 with
            | fl g1 g2 => exact ⟨_, _, rfl, .inl (ok.core.sub.seq g1), g2⟩
        obtain ⟨p, xs, e0, g1, g2⟩ := key
        have := strsD_dr g2 h2
        subst this
        subst e0
        exact ⟨x, p, ys, rfl, rfl, g1, hl, q _ S H (Same.refl _) ok (.str _)⟩
    · cases hz
  · cases hz
def lkD : List Str → List D → Str → Option D
  | n :: ns, d :: ds, f => if (f == n) = true then some d else lkD ns ds f
  | _, _, _ => none
theorem lk_dr {K : PySem.W.Frag} {ba : Option Addr} {S : Hp} {f : Str} : ∀ {fs : List (Str × V)} {ns : List Str} {ds : List D} {d : D}, fs.map (·.1) = ns → DRs K ba S (fs.map (·.2)) ds → lkD ns ds f = some d → ∃ v, fs.lookup f = some v ∧ DR K ba S v d
  | [], _, _, _, h, r, e => by subst h; cases r; simp [lkD] at e
  | (n, v) :: fs, _, ds, d, h, r, e => by
    subst h
    cases r with
    | cons r1 r2 =>
      simp only [List.map_cons, lkD] at e
      unfold List.lookup
      split at e
      · rename_i hh
        cases e
        exact ⟨v, by rw [hh], r1⟩
      · rename_i hh
        have hh : (f == n) = false := by simpa using hh
        rw [hh]
        exact lk_dr rfl r2 e
def fldF (A : Addr) (f : Str) : D → Option D
  | .ins A' ns ds => if A' = A then lkD ns ds f else none
  | _ => none
theorem ins_of {K : PySem.W.Frag} {ba : Option Addr} {S : Hp} {A : Addr} {f : Str} {d z : D} {v : V} (r : DR K ba S v d) (h : fldF A f d = some z) : ∃ a dx fs u, v = .ref a ∧ S a = some (.ins A dx fs) ∧ fs.lookup f = some u ∧ DR K ba S u z := by
  cases d with
  | ins A' ns ds =>
    simp only [fldF] at h
    split at h
    · rename_i hA
      subst hA
      cases r with
      | ins h1 h2 h3 =>
        obtain ⟨u, h4, h5⟩ := lk_dr h2 h3 h
        exact ⟨_, _, _, u, rfl, h1, h4, h5⟩
    · cases h
  | _ => cases h
theorem d_fld {A : Addr} {f : Str} (he : PE X e (tD X.K C W F)) (c : Cls X.K A) (n : NoAttr X.K A f) (hb : attributeBase e f X.env (eval e X.env) = eval e X.env := by rfl) : PE X (.Attribute e f pos) (tD X.K C W (e1 (fldF A f) F)) := pe_imp (pe_fld he hb) fun σ H Q ⟨S, ρ, b, ok, q⟩ => by
  refine ⟨S, ρ, b, ok, q.bind.imp fun d b1 S1 H1 s1 ok1 q1 v r => ?_⟩
  obtain ⟨z, hz, q2⟩ := q1.pureO
  obtain ⟨a, dx, fs, u, rfl, h1, h2, h3⟩ := ins_of r hz
  exact ⟨a, A, dx, fs, u, rfl, ok1.core.sub _ _ h1, c, n, h2, q2 S1 H1 (Same.refl _) ok1 u h3⟩
theorem d_prop {A p g : Addr} {f pr : Str} {fd : FuncData} {k : Nat} (he : PE X e (tD X.K C W F)) (c : Cls X.K A) (hp : PropOf X.K A pr p g) (FO : FnOk X.prog X.w X.K X.mg X.base CX0 k g fd ["self"] (getSp A f)) (hr : Room (k + 1) X.A) (hb : Binds X.K fd ["self"] [])
    (hab : attributeBase e pr X.env (eval e X.env) = eval e X.env := by rfl) : PE X (.Attribute e pr pos) (tD X.K C W (e1 (fldF A f) F)) := pe_imp (pe_prop he c hp FO hr hb .nil pass0 hab) fun σ H Q ⟨S, ρ, b, ok, q⟩ => by
  refine ⟨S, ρ, b, ok, q.bind.imp fun d b1 S1 H1 s1 ok1 q1 v r => ?_⟩
  obtain ⟨z, hz, q2⟩ := q1.pureO
  obtain ⟨a, dx, fs, u, rfl, h1, h2, h3⟩ := ins_of r hz
  exact ⟨a, dx, fs, rfl, ok1.core.sub _ _ h1, a, dx, fs, u, rfl, ok1.core.sub _ _ h1, h2, q2 S1 H1 (Same.refl _) ok1 u h3⟩
end
end DL

set_option maxHeartbeats 1000000
namespace DL
open PySem PySem.Spec PyProof.Rows L2
variable [TB : TabSet]
theorem FnG.fnok {P : Program} {w : World} {K : PySem.W.Frag} {mg : Str → Option Value} {base : Heap} {k : Nat} {f : Addr} {fd : FuncData} {ps : List Str} {sp : Sp} (F : FnG P w K mg base (fun _ => True) k f fd ps sp) : FnOk P w K mg base (L2.CX P w) k f fd ps sp :=
  ⟨F.many, fun A fr s H ar us vs Q E hr he hb hv hs => F.go A fr s H ar us vs Q E hr trivial he hb hv hs⟩
section
variable {K : PySem.W.Frag} {C : Cq} {S S' H H' : Hp} {ρ : Env} {b : Bag} {σ : L2.St} {p : Addr} {u u' : HO}
theorem OkF.setU (o : OkF K C S ρ b σ H p u) (pu : plainB u' = true := by rfl) : OkF K C S ρ b σ (upd H p u') p u' := by
  obtain ⟨c, h1, h2, h3, h4, ⟨O, s, w, n⟩, pl⟩ := o
  refine ⟨c.write h1 pl h2 h3 h4, upd_same, h2, h3, h4, ⟨O, s.mono (Same.refl _) (fun q hq v h => ?_), w, n⟩, pu⟩
  rw [upd_ne (fun z => n (by rw [← z]; exact hq))]
  exact h
theorem OkF.setSh {v : V} {d : D} {i : Nat} (o : OkF K C S ρ b σ H p u) (r : DR K C.ba S v d) : OkF K C S (ρ.set i (some (.sh d))) b (σ.set i (some v)) H p u := by
  obtain ⟨c, h1, h2, h3, h4, ⟨O, s, w, n⟩, pl⟩ := o
  obtain ⟨O', s', l⟩ := s.setSh r (i := i)
  exact ⟨c, h1, h2, h3, h4, ⟨O', s', w.sub l, fun z => n (l.subset z)⟩, pl⟩
end
abbrev IF := Env → Bag → List Str → List D → IO
def isMe (x : Addr) (ρ : Env) : Bool := match (ρ[0]? : Option (Option SD)) with
  | some (some (.sh (.obj (.ref y)))) => y == x
  | _ => false
/-- the rows of an __init__ -/
def tI (K : PySem.W.Frag) (C : Cq) (W : WX) (A x : Addr) (F : IF) : TS := fun E σ H => ∃ S ρ b dx fs ns ds, OkF K C S ρ b σ H x (.ins A dx fs) ∧ isMe x ρ = true ∧ fs.map (·.1) = ns ∧ DRs K C.ba S (fs.map (·.2)) ds ∧ IOk K C W A x S E (F ρ b ns ds)
def iNil : IF := fun _ b ns ds => .ok (ns, ds) b
def iSeq (x : Addr) (G : SF) (F : IF) : IF := fun ρ b ns ds => match G (unown ρ) b with
  | .nx ρ' b' => if isMe x ρ' = true then F ρ' b' ns ds else .stuck
  | .ex _ c es xs bx => .ex c es xs bx
  | _ => .stuck
def iSt (f : Str) (Fe : EF) (F : IF) : IF := fun ρ b ns ds => match Fe (unown ρ) b with
  | .ok d b' => if ns.contains f = true ∨ 900 < ns.length then .stuck else F ρ b' (ns ++ [f]) (ds ++ [d])
  | _ => .stuck
theorem me_slot {K : PySem.W.Frag} {C : Cq} {S H : Hp} {ρ : Env} {b : Bag} {σ : L2.St} {x : Addr} (ok : OkS K C S ρ b σ H) (h : isMe x ρ = true) : σ[0]? = some (some (.ref x)) := by
  unfold isMe at h
  split at h
  · rename_i y hr
    obtain ⟨v, hv, r⟩ := ok.get hr
    have hy : y = x := by simpa using h
    subst hy
    cases r
    exact hv
  · cases h
theorem putF_new {f : Str} {v : V} : ∀ {fs : List (Str × V)}, (fs.map (·.1)).contains f = false → putF f v fs = fs ++ [(f, v)]
  | [], _ => rfl
  | (n, w) :: fs, h => by
    simp only [List.map_cons, List.contains_cons, Bool.or_eq_false_iff] at h
    unfold putF
    rw [putF_new h.2]
    have hne : n ≠ f := fun z => by
      subst z
      have := h.1
      simp at this
    simp [hne]
section
variable {X : Cx} {C : Cq} {W : WX} {st : Stmt} {sts : List Stmt} {e : Expr} {pos : Pos} {A x : Addr} {G : SF} {F : IF} {Fe : EF}
theorem i_nil : PSs X [] (tI X.K C W A x iNil) := pss_imp pss_nil fun E σ H ⟨S, ρ, b, dx, fs, ns, ds, o, hme, hn, hd, q⟩ => q S σ H dx fs (Same.refl _) o.core o.at_ o.sn hn hd
theorem i_cons (h1 : ∀ C, PS X st (tDS X.K C W G)) (h2 : PSs X sts (tI X.K C W A x F)) : PSs X (st :: sts) (tI X.K C W A x (iSeq x G F)) :=
  pss_imp (pss_cons (t := fun E σ H => ∃ C, tDS X.K C W G E σ H) ⟨fun pins s σ H D I ⟨C, h⟩ => (h1 C).run pins s σ H D I h⟩ h2) fun E σ H ⟨S, ρ, b, dx, fs, ns, ds, o, hme, hn, hd, q⟩ => by
  have s0 : OkS X.K (inner C S H) S (unown ρ) b σ H := o.ok.inner
  refine ⟨inner C S H, S, unown ρ, b, s0, ?_⟩
  unfold iSeq at q
  split at q
  · rename_i ρ' b' hG
    rw [hG]
    intro S' σ' H' e ok
    split at q
    · rename_i hme'
      exact ⟨S', ρ', b', dx, fs, ns, ds, o.again ok, hme', hn, hd.up e, q.up e⟩
    · exact q.elim
  · rename_i ρ' c es xs hG
    rw [hG]
    exact fun dx S' σ' H' b' e ok xr => q dx S' σ' H' b' e (o.core.outer ok.core) xr
  · exact q.elim
theorem i_store {f : Str} {pos' p0 : Pos} {sx : Str} (h0 : PE X (.Name sx p0) (tVar 0)) (he : ∀ C, PE X e (tD X.K C W0 Fe)) (c : Cls X.K A) (n : NoAttr X.K A f) (h2 : PSs X sts (tI X.K C W A x F)) (hs : swapsWith e (some (.Attribute (.Name sx p0) f pos')) pos.line X.env = pure false := by rfl) :
    PSs X (.Assign [.Attribute (.Name sx p0) f pos'] e pos :: sts) (tI X.K C W A x (iSt f Fe F)) :=
  pss_imp (pss_cons (ps_fld (tv := fun σ H Q => ∃ C, tD X.K C W0 Fe σ H Q) h0 ⟨fun pins s σ H Q I ⟨C, h⟩ => (he C).run pins s σ H Q I h⟩ hs) h2) fun E σ H ⟨S, ρ, b, dx, fs, ns, ds, o, hme, hn, hd, q⟩ => by
  refine ⟨inner C S H, S, unown ρ, b, o.ok.inner, ?_⟩
  unfold iSt at q
  split at q
  · rename_i d b' hF
    rw [hF]
    intro S' H' e' ok v r
    have o' : OkF X.K C S' ρ b' σ H' x (.ins A dx fs) := o.frame ok.core e'
    split at q
    · exact q.elim
    · rename_i hc
      have hc1 : ns.contains f = false := by
        cases hh : ns.contains f with
        | false => rfl
        | true => exact absurd (Or.inl hh) hc
      have hc2 : ns.length ≤ 900 := by
        by_cases hh : 900 < ns.length
        · exact absurd (Or.inr hh) hc
        · omega
      refine ⟨_, me_slot o'.ok hme, x, A, dx, fs, rfl, o'.at_, c, n, ?_, ?_⟩
      · have := congrArg List.length hn
        rw [List.length_map] at this
        omega
      · refine ⟨S', ρ, b', dx, fs ++ [(f, v)], ns ++ [f], ds ++ [d], ?_, hme, ?_, ?_, q.up e'⟩
        · rw [putF_new (by rw [hn]; exact hc1)]
          exact o'.setU
        · rw [List.map_append, hn]
          rfl
        · rw [List.map_append]
          exact (hd.up e').app (.cons r .nil)
  · exact q.elim
end
def OutI (K : PySem.W.Frag) (C : Cq) (A x : Addr) (S : Hp) (Q : VK) (E : XK) : IO → Prop
  | .ok z b => ∀ S' H dx fs, Same S S' → Core C S' b H → H x = some (.ins A dx fs) → S' x = none → fs.map (·.1) = z.1 → DRs K C.ba S' (fs.map (·.2)) z.2 → Q .non H
  | .ex c ns ds bx => ∀ (dx : Option Addr) S' H b, Same S S' → Core C S' b H → XR K C.ba S' dx ns ds → b = bx → E (.ref (He.ga K c)) dx H
  | .stuck => False
def spI (K : PySem.W.Frag) (A : Addr) (Fn : Addr → List D → Bag → IO) : Sp := fun vs H Q E => ∃ (H1 S : Hp) (ba : Option Addr) (b : Bag) (ds : List D) (x dx : Addr) (ws : List V), vs = .ref x :: ws ∧ H = upd (upd H1 dx (.own x)) x (.ins A dx []) ∧ H1 x = none ∧ H1 dx = none ∧ dx ≠ x ∧
  Core ⟨noTb H1, S, ba⟩ S b H1 ∧ DRs K ba S ws ds ∧ OutI K ⟨noTb H1, S, ba⟩ A x S Q E (Fn x ds b)
def initF (n m : Nat) (F : Addr → IF) : Addr → List D → Bag → IO := fun x ds b => if ds.length + 1 = m then F x (some (.sh (.obj (.ref x))) :: (ds.map (fun d => some (.sh d)) ++ List.replicate (n - (ds.length + 1)) none)) b [] [] else .stuck
section
variable {P : Program} {w : World} {K : PySem.W.Frag} {mg : Str → Option Value} {base : Heap} {Gd : Around → Prop}
theorem d_init {x qual : Str} {st : Stmt} {f A : Addr} {fd : FuncData} {N ps : List Str} {k : Nat} {F : Addr → IF} (Fu : Fun K x qual st f fd) (Sc : FnScope N ps (defScope st))
    (body : ∀ (y : Addr) (cdv : Value) (Ar : Around) (outer : List PySem.Env) (s : Shared) (H : Hp) (E : XK) (C : Cq), Room k (Ar.deeper (envOfC qual (defScope st) s.heap.objs.size f cdv)) → Gd Ar →
      PSs (cxOf (L2.CX P w) P w K mg base N qual (defScope st) f cdv Ar outer s H E) (defBody st) (tI K C (WD E) A y (F y))) : FnG P w K mg base Gd (k + 1) f fd ps (spI K A (initF N.length ps.length F)) := by
  refine FnG.body Fu Sc (fun vs H Q E h => ?_) (fun cdv Ar outer s H vs Q E hr hg h => ?_)
  · obtain ⟨H1, S, ba, b, ds, y, dx, ws, rfl, rfl, _, _, _, _, r, o⟩ := h
    by_cases hl : ds.length + 1 = ps.length
    · rw [← hl, ← r.length]; rfl
    · unfold initF at o
      rw [if_neg hl] at o
      exact o.elim
  · obtain ⟨H1, S, ba, b, ds, y, dx, ws, rfl, hH, h1, h2, h3, c, r, o⟩ := h
    refine ⟨_, body y cdv Ar outer s H E ⟨noTb H1, S, ba⟩ hr hg, ?_⟩
    unfold initF at o
    by_cases hl : ds.length + 1 = ps.length
    · rw [if_pos hl] at o
      have hx : (upd H1 dx (.own y)) y = none := by rw [upd_ne (fun z => h3 z.symm)]; exact h1
      have cc : Core ⟨noTb H1, S, ba⟩ S b H := by
        rw [hH]
        exact (c.allocH h2).allocH hx
      have sl : Slots K ba S H (L2.start N (.ref y :: ws)) (some (.sh (.obj (.ref y))) :: (ds.map (fun d => some (.sh d)) ++ List.replicate (N.length - (ds.length + 1)) none)) [] := by
        unfold L2.start
        show Slots K ba S H (some (V.ref y) :: (ws.map some ++ List.replicate (N.length - (ws.length + 1)) none)) _ _
        rw [r.length]
        exact .sh (.obj _) (slots_start _ ds ws r)
      refine ⟨S, _, b, dx, [], [], [], ⟨cc, by rw [hH]; exact upd_same, c.sn h1, noTb_none h1, c.nba h1, ⟨[], sl, ⟨List.nodup_nil, fun _ h => by cases h⟩, by simp⟩, rfl⟩, by simp [isMe], rfl, .nil, ?_⟩
      cases hF : F y (some (.sh (.obj (.ref y))) :: (ds.map (fun d => some (.sh d)) ++ List.replicate (N.length - (ds.length + 1)) none)) b [] [] with
      | ok z b' => rw [hF] at o; exact fun S' σ H' dx' fs e cc g1 g2 g3 g4 => o S' H' dx' fs e cc g1 g2 g3 g4
      | ex cl ns es => rw [hF] at o; exact fun dx' S' σ H' b' e cc xr => o dx' S' H' b' e cc xr
      | stuck => rw [hF] at o; exact o
    · rw [if_neg hl] at o
      exact o.elim
end
section
variable {X : Cx} {C : Cq} {E : XK} {e : Expr} {es : List Expr} {pos p : Pos} {G : AF} {A f : Addr} {k : Nat} {fd : FuncData} {ps : List Str} {x : Str}
def eMake (A : Addr) (Fm : List D → Bag → IO) (G : AF) : EF := fun ρ b => (G ρ b).bind fun ds b' => (Fm ds b').bind fun z b2 => .ok (.ins A z.1 z.2) b2
theorem make_of {Fx : Addr → List D → Bag → IO} {Fm : List D → Bag → IO} (hF : ∀ y ds b, Fm ds b = .stuck ∨ Fx y ds b = Fm ds b) {S1 : Hp} {ρ : Env} {b1 : Bag} {σ : L2.St} {H1 : Hp} {vs : List V} {ds : List D} {Q : VK} {y dx : Addr} (ok1 : OkS X.K C S1 ρ b1 σ H1) (r : DRs X.K C.ba S1 vs ds)
    (hy : H1 y = none) (hdx : H1 dx = none) (hne : dx ≠ y) (q : OutG X.K C (WD E) S1 ρ σ (fun d _ S' H' => ∀ v, DR X.K C.ba S' v d → Q v H') ((Fm ds b1).bind fun z b2 => .ok (.ins A z.1 z.2) b2)) :
    spI X.K A Fx (.ref y :: vs) (upd (upd H1 dx (.own y)) y (.ins A dx [])) (fun v H2 => v = .non ∧ Q (.ref y) H2) E := by
  refine ⟨H1, S1, C.ba, b1, ds, y, dx, vs, rfl, rfl, hy, hdx, hne, ok1.core.inner, r, ?_⟩
  rcases hF y ds b1 with h | h
  · rw [h] at q; exact q.elim
  · rw [h]
    cases hm : Fm ds b1 with
    | stuck => rw [hm] at q; exact q.elim
    | ex c ns es bx => rw [hm] at q; exact fun dx' S' H' b' e cc xr => q dx' S' H' b' e (ok1.frame cc e) xr
    | ok z b2 =>
      rw [hm] at q
      intro S' H' dx' fs e cc g1 g2 g3 g4
      have sh := same_upd (u := .ins A dx' fs) g2
      refine ⟨rfl, q (upd S' y (.ins A dx' fs)) H' (e.trans sh) (ok1.frame (cc.share g1 rfl g2 (noTb_none hy) (ok1.core.nba hy)) (e.trans sh)) _ (.ins upd_same g3 (g4.up sh))⟩
theorem d_make {Fx : Addr → List D → Bag → IO} {Fm : List D → Bag → IO} (M : Mk X.K A f) (FO : FnOk X.prog X.w X.K X.mg X.base (L2.CX X.prog X.w) k f fd ps (spI X.K A Fx)) (hF : ∀ y ds b, Fm ds b = .stuck ∨ Fx y ds b = Fm ds b) (hr : Room (k + 1) X.A) (hg : Gl X x) (hm : X.mg x = some (.ref A)) (hb : Binds X.K fd ps []) (hx : Passes (L2.CX X.prog X.w) X E)
    (ha : PA X (e :: es) (tDA X.K C (WD E) G)) (hdb : (x == ("__debug__" : Str)) = false := by decide) (he : starEach (e :: es) X.env = (false, eval e X.env) :: starEach es X.env := by rfl) (hpl : (backTo pos (starEach es X.env)).any (·.1) = false := by rfl) :
    PE X (.Call (.Name x p) (e :: es) [] pos) (tD X.K C (WD E) (eMake A Fm G)) := pe_imp (pe_make (dvs := []) M FO hr hg hm hb .nil hx ha hdb he hpl) fun σ H Q ⟨S, ρ, b, ok, q⟩ => by
  refine ⟨S, ρ, b, ok, q.bind.imp fun ds b1 S1 H1 s1 ok1 q1 vs r y dx hy hdx hne => ?_⟩
  rw [List.append_nil]
  exact make_of hF ok1 r hy hdx hne q1
theorem d_knil {W : WX} : PK X [] (tDA X.K C W aNil) := ⟨fun pos pins s σ H Q I ⟨S, ρ, b, ok, q⟩ => pk_nil.run pos pins s σ H Q I (q S H (Same.refl _) ok [] .nil)⟩
theorem d_kcons {W : WX} {F : EF} {kws : List Keyword} {nm : Option Str} {kpos : Pos} (he : PE X e (tD X.K C W F)) (hr : PK X kws (tDA X.K C W G)) : PK X (⟨nm, e, kpos⟩ :: kws) (tDA X.K C W (aCons F G)) :=
  ⟨fun pos pins s σ H Q I ⟨S, ρ, b, ok, q⟩ => (pk_cons he hr).run pos pins s σ H Q I
    ⟨S, ρ, b, ok, q.bind.imp fun d b1 S1 H1 s1 ok1 q1 v r => ⟨S1, ρ, b1, ok1, q1.bind.imp fun ds b2 S2 H2 s2 ok2 q2 vs rs => q2 S2 H2 (Same.refl _) ok2 _ (.cons (r.up s2) rs)⟩⟩⟩
def eCallK (m : Nat) (Fn : DFn) (gD : List D → List D) (G : AF) : EF := fun ρ b => (G ρ b).bind fun ds b' => if ds.length = m then Fn (gD ds) b' else .stuck
theorem d_callK0 {Fn : DFn} {kws : List Keyword} {ks : List Str} {g : List Value → List Value → List Value} {gV : List V → List V → List V} {gD : List D → List D} (FO : FnOk X.prog X.w X.K X.mg X.base (L2.CX X.prog X.w) k f fd ps (spD X.K Fn)) (hr : Room k X.A) (hg : Gl X x) (hm : X.mg x = some (.ref f)) (hk : PySem.W.keepIn X.K (.ref f) = true)
    (hb : KBn X.K fd ps 0 ks g gV) (hgD : ∀ ba S vs ds, DRs X.K ba S vs ds → DRs X.K ba S (gV [] vs) (gD ds)) (hx : Passes (L2.CX X.prog X.w) X E) (hkw : PK X kws (tDA X.K C (WD E) G)) (hall : (backToKw pos (keywordEach kws X.env)).all (·.1.isSome) = true := by rfl) (hks : (backToKw pos (keywordEach kws X.env)).filterMap (·.1) = ks := by rfl)
    (hdb : (x == ("__debug__" : Str)) = false := by decide) (hpl : ((backTo pos (starEach [] X.env)).any (·.1) || (backToKw pos (keywordEach kws X.env)).any (·.1.isNone)) = false := by rfl) :
    PE X (.Call (.Name x p) [] kws pos) (tD X.K C (WD E) (eCallK ks.length Fn gD G)) := ⟨fun pins s σ H Q I ⟨S, ρ, b, ok, q⟩ =>
  wpAny_Call_Name_kw (ld_glob I hg hm (PySem.W.callWith_KW0 (h₀ := X.base) I.ok.mod.kin hk hall (thn (hkw.run pos pins s σ H (fun vs H1 => vs.length = ks.length ∧ spD X.K Fn (gV [] vs) H1 Q E) I ⟨S, ρ, b, ok, q.bind.imp fun ds b1 S1 H1 s1 ok1 q1 vs r => by
      by_cases hl : ds.length = ks.length
      · rw [if_pos hl] at q1
        exact ⟨by rw [r.length, hl], spD_of (W := WD E) ok1 (hgD _ _ _ _ r) q1⟩
      · rw [if_neg hl] at q1
        exact q1.elim⟩) fun us s1 z => by
    obtain ⟨vs, H1, J, r, hl, q⟩ := z
    refine ⟨J.kIn, ?_⟩
    rw [hks]
    exact run_fnN (us := []) (vs := []) FO hr hb hx J .nil r rfl hl q) hpl) hdb)⟩
end
section
variable {X : Cx} {C : Cq} {W : WX} {pos : Pos} {body : List Stmt} {h₀ : ExceptHandler} {hs : List ExceptHandler} {G : SF}
theorem d_in3 {e : Expr} {F : EF} (h : ∀ C, PE X e (tD X.K C W0 F)) : PE X e (tDin X.K F) := ⟨fun pins s σ H Q I ⟨C, z⟩ => (h C).run pins s σ H Q I z⟩
end
end DL

set_option maxHeartbeats 1000000
namespace DL
open PySem PySem.Spec PyProof.Rows L2
variable [TB : TabSet]
section
variable {X : Cx} {C : Cq} {W : WX} {st : Stmt} {e a b c o tg l : Expr} {es : List Expr} {pos apos cpos : Pos} {F Fa Fb Fc : EF} {G : AF}
@[simp] def allOf : D → Option (List D)
  | .lst ds => some ds
  | .fl ds => some ds
  | .tup ds => some ds
  | .str x => some (signsOf x)
  | _ => none
@[simp] def aAny (F : EF) : AF := fun ρ b => (F ρ b).bind fun d b' => Out.pureO (allOf d) b'
theorem aAny_cases (F : EF) (ρ : Env) (b : Bag) : aAny F ρ b = aSeq F ρ b ∨ aAny F ρ b = aTup F ρ b ∨ aAny F ρ b = aSigns F ρ b := by
  unfold aAny aSeq aTup aSigns
  cases F ρ b with
  | ok d b' => cases d <;> first | exact .inl rfl | exact .inr (.inl rfl) | exact .inr (.inr rfl)
  | ex c ns ds bx => exact .inl rfl
  | stuck => exact .inl rfl
theorem d_iany (h : PE X l (tD X.K C W F)) : PI X tg l (tDI X.K C W (aAny F)) := ⟨fun pins s σ H R I ⟨S, ρ, b, ok, q⟩ => by
  rcases aAny_cases F ρ b with e | e | e
  · rw [e] at q; exact (d_ilist h).run pins s σ H R I ⟨S, ρ, b, ok, q⟩
  · rw [e] at q; exact (d_ituple h).run pins s σ H R I ⟨S, ρ, b, ok, q⟩
  · rw [e] at q; exact (d_istr h).run pins s σ H R I ⟨S, ρ, b, ok, q⟩⟩
@[simp] def bYes : BF := fun _ b => .ok true b
theorem d_tsnil : PTs X [] (tDt X.K C W bYes) := ⟨fun pins s σ H Q I ⟨S, ρ, b, ok, q⟩ => pts_nil.run pins s σ H Q I (q S H (Same.refl _) ok)⟩
theorem d_tsone {T : BF} (h : PT X e (tDt X.K C W T)) : PTs X [e] (tDt X.K C W T) := pts_one h
theorem d_inte {x : Str} {i : Int} (hg : Gl X x) (hm : ∃ t, X.mg x = some (.int i t)) (hd : (x == ("__debug__" : Str)) = false := by decide) : PE X (.Name x pos) (tD X.K C W (eC (.int i))) := by
  obtain ⟨t, hm⟩ := hm
  exact d_intn hg hm hd
theorem d_stre {x y : Str} (hg : Gl X x) (hm : ∃ t, X.mg x = some (.str y t)) (hd : (x == ("__debug__" : Str)) = false := by decide) : PE X (.Name x pos) (tD X.K C W (eC (.str y))) := by
  obtain ⟨t, hm⟩ := hm
  exact d_strn hg hm hd
def Has (P : Program) (w : World) (K : PySem.W.Frag) (mg : Str → Option Value) (base : Heap) (Gd : Around → Prop) (k : Nat) (x : Str) (ps : List Str) (sp : Sp) : Prop :=
  ∃ f fd, FnG P w K mg base Gd k f fd ps sp ∧ mg x = some (.ref f) ∧ PySem.W.keepIn K (.ref f) = true ∧ Binds K fd ps []
theorem d_callH {Gd : Around → Prop} {j k : Nat} {ps : List Str} {Fn : DFn} {x : Str} {p : Pos} (h : Has X.prog X.w X.K X.mg X.base Gd j x ps (spD X.K Fn)) (hr : Room k X.A) (hj : j ≤ k) (hgd : Gd X.A) (hg : Gl X x)
    (tk : Takes X W) (ha : PA X (e :: es) (tDA X.K C W G)) (hdb : (x == ("__debug__" : Str)) = false := by decide) (he : starEach (e :: es) X.env = (false, eval e X.env) :: starEach es X.env := by rfl)
    (hpl : (backTo pos (starEach es X.env)).any (·.1) = false := by rfl) : PE X (.Call (.Name x p) (e :: es) [] pos) (tD X.K C W (eCall Fn G)) := by
  obtain ⟨f, fd, FO, hm, hk, hb⟩ := h
  exact d_call FO (hr.mono hj) hgd hg hm hk hb tk ha hdb he hpl
theorem d_callHB {Gd Gd' : Around → Prop} {j jb k : Nat} {ps psb : List Str} {Fn Bn : DFn} {x xb : Str} {p pb posb : Pos} {e2 : Expr} (h : Has X.prog X.w X.K X.mg X.base Gd j x ps (spD X.K Fn)) (h' : Has X.prog X.w X.K X.mg X.base Gd' jb xb psb (spDF X.K Bn)) (hr : Room k X.A) (hj : j ≤ k) (hjb : jb ≤ k) (hgd : Gd X.A) (hgd' : Gd' X.A) (hg : Gl X x) (hgb : Gl X xb)
    (tk : Takes X W) (ha : PA X (e2 :: es) (tDA X.K C W G)) (hdb : (x == ("__debug__" : Str)) = false := by decide) (hdb2 : (xb == ("__debug__" : Str)) = false := by decide)
    (he2 : starEach (e2 :: es) X.env = (false, eval e2 X.env) :: starEach es X.env := by rfl) (hpl2 : (backTo posb (starEach es X.env)).any (·.1) = false := by rfl)
    (he : starEach [.Call (.Name xb pb) (e2 :: es) [] posb] X.env = (false, eval (.Call (.Name xb pb) (e2 :: es) [] posb) X.env) :: starEach [] X.env := by rfl) (hpl : (backTo pos (starEach [] X.env)).any (·.1) = false := by rfl) :
    PE X (.Call (.Name x p) [.Call (.Name xb pb) (e2 :: es) [] posb] [] pos) (tD X.K C W (eBag Fn Bn G)) := by
  obtain ⟨f, fd, FO, hm, hk, hb⟩ := h
  obtain ⟨f', fd', FO', hm', hk', hb'⟩ := h'
  exact d_callBag FO (hr.mono hj) hgd hg hm hk hb tk FO' (hr.mono hjb) hgd' hgb hm' hk' hb' ha hdb hdb2 he2 hpl2 he hpl
end
end DL

set_option maxHeartbeats 1000000
namespace DL
open PySem PySem.Spec PyProof.Rows L2
variable [TB : TabSet]
theorem QD.get {K : PySem.W.Frag} {d : QD} (e : fnV K (d.at_ K) = d.val) (c : d.ok K = true) : ∃ fd, Fun K d.name d.qual d.st (d.at_ K) fd := by
  unfold QD.ok at c
  rw [Bool.and_eq_true] at c
  obtain ⟨kp, c⟩ := c
  unfold fnV at e
  cases q : K.lookup (d.at_ K) with
  | none => rw [q] at c; cases c
  | some o =>
    obtain ⟨oc, od, dt, osl⟩ := o
    rw [q] at c e
    cases dt with
    | func fd =>
      obtain ⟨n1, n2, n3, n4, n5, n6, n7, n8, n9, n10, n11, n12, n13, n14, n15⟩ := fd
      have e : (some (n1, n2, n3, n4, n5, n6, n7, n15) : He.FnW) = d.val := e
      unfold QD.val at e
      simp only [Option.some.injEq, Prod.mk.injEq] at e
      obtain ⟨h1, h2, h3, h4, h5, h6, h7, h8⟩ := e
      subst h1 h2 h3 h4 h5 h6 h7 h8
      have c : (PySem.W.codeIn K n13 d.qual && noneV n8) = true := c
      rw [Bool.and_eq_true] at c
      obtain ⟨c1, c2⟩ := c
      cases n8 <;> first | cases c2 | skip
      exact ⟨_, ⟨oc, od, n9, n10, n11, n12, n13, n14, osl, rfl, q, c1⟩, kp⟩
    | _ => cases c
section
variable {fn : List QD} {ex : PySem.W.Frag → Bool} {K : PySem.W.Frag}
theorem ex_of (c : obK fn ex K = vaK fn) : ex K = true := by
  have := congrArg (fun z : QA => z.1) c
  have h : (ex K && fn.all fun d => d.ok K) = true := this
  rw [Bool.and_eq_true] at h
  exact h.1
theorem fun_of (c : obK fn ex K = vaK fn) (i : Nat) {d : QD} (h : fn[i]? = some d := by rfl) : ∃ fd, Fun K d.name d.qual d.st (d.at_ K) fd := by
  have h1 : (ex K && fn.all fun d => d.ok K) = true := congrArg (fun z : QA => z.1) c
  have h2 : (fn.map fun d => fnV K (d.at_ K)) = fn.map QD.val := congrArg (fun z : QA => z.2) c
  rw [Bool.and_eq_true] at h1
  have h3 : (fn.map fun d => fnV K (d.at_ K))[i]? = (fn.map QD.val)[i]? := by rw [h2]
  rw [List.getElem?_map, List.getElem?_map, h] at h3
  exact QD.get (Option.some.inj h3) (List.all_eq_true.mp h1.2 d (List.mem_of_getElem? h))
end
abbrev GK : Around → Prop := fun A => A.guards = some []
abbrev GT : Around → Prop := fun _ => True
abbrev Fine (s₁ : Shared) (r : Result) (t : Shared) : Prop := r = .ok (.ret (.bool true)) ∧ OldK s₁.heap t.heap ∧ t.os = s₁.os ∧ AllBare t.gens
end DL

set_option maxHeartbeats 1000000
namespace DL
open PySem PySem.Spec PyProof.Rows L2
section
variable {α β : Type} {a : α} {b : Bag} {k : α → Bag → Out β} {c : Str} {ns : List Str} {ds : List D} {ρ : Env} {ks : α → Bag → SO} {kr : Env → Bag → SO} {d : D}
@[simp] theorem bind_ok_ : (Out.ok a b).bind k = k a b := rfl
@[simp] theorem bind_ex_ : (Out.ex c ns ds bx : Out α).bind k = .ex c ns ds bx := rfl
@[simp] theorem bind_st_ : (Out.stuck : Out α).bind k = .stuck := rfl
@[simp] theorem pureO_some_ : Out.pureO (some a) b = .ok a b := rfl
@[simp] theorem pureO_none_ : Out.pureO (none : Option α) b = .stuck := rfl
@[simp] theorem st_ok_ : (Out.ok a b).st ρ ks = ks a b := rfl
@[simp] theorem st_ex_ : (Out.ex c ns ds bx : Out α).st ρ ks = .ex ρ c ns ds bx := rfl
@[simp] theorem st_st_ : (Out.stuck : Out α).st ρ ks = .stuck := rfl
@[simp] theorem seq_nx_ : (SO.nx ρ b).seq kr = kr ρ b := rfl
@[simp] theorem seq_rt_ : (SO.rt d b).seq kr = .rt d b := rfl
@[simp] theorem seq_ro_ : (SO.ro d b).seq kr = .ro d b := rfl
@[simp] theorem out_rt_ : (SO.rt d b).out = .ok d b := rfl
@[simp] theorem out_nx_ : (SO.nx ρ b).out = .ok .non b := rfl
@[simp] theorem outF_ro_ : (SO.ro d b).outF = .ok d b := rfl
@[simp] theorem noex_ok_ : (Out.ok a b).noex = .ok a b := rfl
@[simp] theorem atI_0 {x : α} {xs : List α} : atI (x :: xs) 0 = some x := by
  simp [atI, ixN]
@[simp] theorem atI_1 {x y : α} {xs : List α} : atI (x :: y :: xs) 1 = some y := by
  have : (1 : Int) < (xs.length : Int) + 1 + 1 := by omega
  simp [atI, ixN, this]
@[simp] theorem atI_2 {x y z : α} {xs : List α} : atI (x :: y :: z :: xs) 2 = some z := by
  have : (2 : Int) < (xs.length : Int) + 1 + 1 + 1 := by omega
  simp [atI, ixN, this]
@[simp] theorem atI_3 {x0 x1 x2 x3 : α} {xs : List α} : atI (x0 :: x1 :: x2 :: x3 :: xs) 3 = some x3 := by
  have : (3 : Int) < (xs.length : Int) + 1 + 1 + 1 + 1 := by omega
  simp [atI, ixN, this]
@[simp] theorem atI_4 {x0 x1 x2 x3 x4 : α} {xs : List α} : atI (x0 :: x1 :: x2 :: x3 :: x4 :: xs) 4 = some x4 := by
  have : (4 : Int) < (xs.length : Int) + 1 + 1 + 1 + 1 + 1 := by omega
  simp [atI, ixN, this]
@[simp] theorem atI_5 {x0 x1 x2 x3 x4 x5 : α} {xs : List α} : atI (x0 :: x1 :: x2 :: x3 :: x4 :: x5 :: xs) 5 = some x5 := by
  have : (5 : Int) < (xs.length : Int) + 1 + 1 + 1 + 1 + 1 + 1 := by omega
  simp [atI, ixN, this]
@[simp] theorem atI_6 {x0 x1 x2 x3 x4 x5 x6 : α} {xs : List α} : atI (x0 :: x1 :: x2 :: x3 :: x4 :: x5 :: x6 :: xs) 6 = some x6 := by
  have : (6 : Int) < (xs.length : Int) + 1 + 1 + 1 + 1 + 1 + 1 + 1 := by omega
  simp [atI, ixN, this]
@[simp] theorem atI_7 {x0 x1 x2 x3 x4 x5 x6 x7 : α} {xs : List α} : atI (x0 :: x1 :: x2 :: x3 :: x4 :: x5 :: x6 :: x7 :: xs) 7 = some x7 := by
  have : (7 : Int) < (xs.length : Int) + 1 + 1 + 1 + 1 + 1 + 1 + 1 + 1 := by omega
  simp [atI, ixN, this]
theorem sh_int (i : Int) : SeqAt.shaped (.int i) = true := by simp [SeqAt.shaped, PyData.canLay0, PyData.depth]
theorem int_eqv (i j : Int) : PyData.eqv (.int i) (.int j) = decide (i = j) := by simp [PyData.eqv]; rfl
@[simp] theorem eqF_int {i j : Int} : eqF (.int i) (.int j) = some (.bl (decide (i = j))) := by
  simp only [eqF, D.pd, sh_int, int_eqv, and_self, if_true]
@[simp] theorem neF_int {i j : Int} : neF (.int i) (.int j) = some (.bl (!decide (i = j))) := by
  simp only [neF, D.pd, sh_int, int_eqv, and_self, if_true]
theorem atI_nat {xs : List α} {i : Nat} {x : α} (h : xs[i]? = some x) : atI xs (i : Int) = some x := by
  have hl : i < xs.length := (List.getElem?_eq_some_iff.mp h).1
  have : (i : Int) < (xs.length : Int) := by omega
  simp [atI, ixN, this, h]
end
end DL

set_option maxHeartbeats 1000000
namespace DL
open PySem PySem.Spec PyProof.Rows L2
variable [TB : TabSet]
section
variable {X : Cx} {CX : CXT} {k : Nat} {A f : Addr} {fd : FuncData} {ps : List Str} {sp : Sp}
def rLenO (A : Addr) (sp : Sp) : List V → Hp → VK → Prop := fun xs H Q => ∃ a dx fs, xs = [.ref a] ∧ H a = some (.ins A dx fs) ∧ sp [.ref a] H (fun v H' => ∃ n : Int, v = .int n ∧ (0 ≤ n ∧ n < 2 ^ 63) ∧ Q (.int n) H') E0
theorem call_lenO (hs : PySem.W.findIn X.K (.ref A) "__len__" = some (some (.ref f))) (hf : PySem.W.isFn X.K (.ref f) = true) (F : FnOk X.prog X.w X.K X.mg X.base CX k f fd ps sp) (hr : Room (k + 1) X.A) (hb : Binds X.K fd ps []) (hx : Passes CX X E0) : CallR X (.builtin "len") (rLenO A sp) := by
  intro pins s σ H xs us Q I r h
  obtain ⟨a, dx, fs, rfl, ea, q⟩ := h
  have hu : us = [Value.ref a] := by
    cases r with
    | cons r1 r2 => cases r2; cases r1; rfl
  subst hu
  obtain ⟨mA, O, _⟩ := ins_get I.hok ea
  obtain ⟨od, J, _⟩ := O.look
  have hl : ([Value.ref a] ++ []).length = ps.length := by rw [← F.len _ _ _ _ q]; rfl
  refine PySem.Calls.call_function_entry kind_len plain_len entry_len (args_len1 _) ?_
  unfold PySem.Builtin.«len»
  refine wpAny_bind (m := oneArg "len" _) (wpAny_pure ?_)
  refine wpAny_bind (m := callSpecial? (.ref a) (Str.ofString "__len__")) (PySem.W.special_fn I.kIn J hs (beq_iff_eq.mp hf) (wpAny_call (codeAny_mono (F.run X.A.in1 X.stack s H ⟨[.ref a], []⟩ ([Value.ref a] ++ []) [.ref a] _ E0 hr.in1 I.env0.in1 (hb s [.ref a] I.kIn hl) (.cons rfl .nil) q) fun r s' hq => ?_)))
  cases r with
  | error er => exact hx pins σ H s er s' I hq
  | ok fl =>
    cases fl with
    | ret u =>
      obtain ⟨v, H', I3, rv, n, e, ⟨h0, h1⟩, q3⟩ := I.after hq
      subst e
      obtain ⟨t, rfl⟩ := rv
      refine wpAny_bind (wpAny_holding (wpAny_pure ?_))
      refine wpAny_bind (wpAny_letGo ?_)
      have n1 : ¬ n < 0 := Int.not_lt.mpr h0
      have n2 : ¬ n ≥ 2 ^ 63 := Int.not_le.mpr h1
      simp only [n1, n2, if_false]
      exact wpAny_bind (wpAny_mkInt (wpAny_pure ⟨_, rfl, .int n, H', I3.tok _, ⟨_, rfl⟩, q3⟩))
    | next => exact False.elim hq
    | brk => exact False.elim hq
    | cont => exact False.elim hq
end
section
variable {X : Cx} {C : Cq} {W : WX} {k : Nat} {A f : Addr} {fd : FuncData} {ps : List Str} {a : Expr} {pos p : Pos} {G : AF} {Fn : DFn}
/-- len(e), e an object of the class A whose __len__ is Fn -/
@[simp] def eLenO (A : Addr) (Fn : DFn) (G : AF) : EF := fun ρ b => (G ρ b).bind fun ds b1 => match ds with
  | [.ins A' ns es] => if A' = A then (match Fn [.ins A' ns es] b1 with
    | .ok (.int n) b2 => if 0 ≤ n ∧ n < 2 ^ 63 then .ok (.int n) b2 else .stuck
    | _ => .stuck) else .stuck
  | _ => .stuck
theorem d_lenO (hs : PySem.W.findIn X.K (.ref A) "__len__" = some (some (.ref f))) (hf : PySem.W.isFn X.K (.ref f) = true) (F : FnOk X.prog X.w X.K X.mg X.base (L2.CX X.prog X.w) k f fd ps (spD X.K Fn)) (hr : Room (k + 1) X.A) (hb : Binds X.K fd ps [])
    (hg : Gl X "len") (hm : X.mg "len" = none) (ha : PA X [a] (tDA X.K C W G)) (he : starEach [a] X.env = (false, eval a X.env) :: starEach [] X.env := by rfl) (hpl : (backTo pos (starEach [] X.env)).any (·.1) = false := by rfl) :
    PE X (.Call (.Name "len" p) [a] [] pos) (tD X.K C W (eLenO A Fn G)) := pe_imp (pe_callB (call_lenO hs hf F hr hb passL) hg hm PySem.boot_len ha (by decide) (by decide) he hpl) fun σ H Q ⟨S, ρ, b, ok, q⟩ => by
  refine ⟨S, ρ, b, ok, q.bind.imp fun ds b1 S1 H1 s1 ok1 q1 vs r => ?_⟩
  split at q1
  · rename_i A' ns es
    split at q1
    · rename_i hA
      subst hA
      split at q1
      · rename_i n b2 hF
        split at q1
        · rename_i hn
          cases r with
          | cons r1 r2 =>
            cases r2
            cases r1 with
            | ins h1 h2 h3 =>
              refine ⟨_, _, _, rfl, ok1.core.sub _ _ h1, spD_of (W := W0) ok1 (.cons (.ins h1 h2 h3) .nil) ?_⟩
              rw [hF]
              intro S2 H2 e2 ok2 v r
              cases r
              exact ⟨n, rfl, hn, q1 S2 H2 e2 ok2 _ (.int n)⟩
        · exact q1.elim
      · exact q1.elim
    · exact q1.elim
  · exact q1.elim
end
def intsD : List D → Option (List Int)
  | [] => some []
  | .int i :: ds => (intsD ds).map (i :: ·)
  | _ :: _ => none
def maxLF : List D → Option D
  | [.lst ds] => (intsD ds).bind fun is => match is with
    | i :: is => some (.int (topI i is))
    | [] => none
  | _ => none
theorem intsD_dr {K : PySem.W.Frag} {ba : Option Addr} {S : Hp} : ∀ {ds : List D} {vs : List V} {is : List Int}, DRs K ba S vs ds → intsD ds = some is → vs = is.map V.int
  | [], _, _, r, h => by cases r; cases h; rfl
  | .int x :: ds, _, _, r, h => by
    simp only [intsD, Option.map_eq_some_iff] at h
    obtain ⟨ks, h1, rfl⟩ := h
    cases r with
    | cons r1 r2 => cases r1; rw [intsD_dr r2 h1]; rfl
  | .non :: _, _, _, _, h => by cases h
  | .str _ :: _, _, _, _, h => by cases h
  | .bl _ :: _, _, _, _, h => by cases h
  | .tup _ :: _, _, _, _, h => by cases h
  | .lst _ :: _, _, _, _, h => by cases h
  | .fl _ :: _, _, _, _, h => by cases h
  | .ins _ _ _ :: _, _, _, _, h => by cases h
  | .obj _ :: _, _, _, _, h => by cases h
  | .bag :: _, _, _, _, h => by cases h
  | .dct _ _ :: _, _, _, _, h => by cases h
  | .dtp _ _ :: _, _, _, _, h => by cases h
theorem topI_ge : ∀ (is : List Int) (m : Int), m ≤ topI m is ∧ (∀ y ∈ is, y ≤ topI m is) ∧ (topI m is = m ∨ topI m is ∈ is)
  | [], m => ⟨Int.le_refl _, fun _ h => (by cases h), .inl rfl⟩
  | i :: is, m => by
    obtain ⟨h1, h2, h3⟩ := topI_ge is (if m < i then i else m)
    unfold topI
    by_cases h : m < i
    · rw [if_pos h] at h1 h2 h3 ⊢
      exact ⟨by omega, fun y hy => (List.mem_cons.mp hy).elim (fun e => by rw [e]; exact h1) (h2 y), .inr (h3.elim (fun e => by rw [e]; exact List.mem_cons_self) (List.mem_cons_of_mem _))⟩
    · rw [if_neg h] at h1 h2 h3 ⊢
      exact ⟨h1, fun y hy => (List.mem_cons.mp hy).elim (fun e => by rw [e]; omega) (h2 y), h3.elim .inl fun z => .inr (List.mem_cons_of_mem _ z)⟩
theorem c_maxL {K : PySem.W.Frag} {C : Cq} : CallD K C (rMax K) maxLF := by
  intro S ρ b σ H vs ds z Q ok rs hz q
  unfold maxLF at hz
  split at hz
  · simp only [Option.bind_eq_some_iff] at hz
    obtain ⟨is, h1, hz⟩ := hz
    split at hz
    · rename_i i is
      cases hz
      cases rs with
      | cons r1 r2 =>
        cases r2
        cases r1 with
        | lst g1 g2 =>
          have e := intsD_dr g2 h1
          subst e
          refine ⟨_, i :: is, rfl, SqL.of (ok.core.sub _ _ g1), by simp, fun m hm hall => ?_⟩
          obtain ⟨t1, t2, t3⟩ := topI_ge is i
          have e : m = topI i is := by
            have a1 : topI i is ≤ m := t3.elim (fun e => by rw [e]; exact hall i List.mem_cons_self) fun z => hall _ (List.mem_cons_of_mem _ z)
            have a2 : m ≤ topI i is := (List.mem_cons.mp hm).elim (fun e => by rw [e]; exact t1) (t2 m)
            omega
          rw [e]
          exact q _ S H (Same.refl _) ok (.int _)
    · cases hz
  · cases hz
theorem d_maxL {X : Cx} {C : Cq} {W : WX} {a : Expr} {pos p : Pos} {G : AF} (hc : X.calm = true) (hg : Gl X "max") (hm : X.mg "max" = none) (ha : PA X [a] (tDA X.K C W G)) (he : starEach [a] X.env = (false, eval a X.env) :: starEach [] X.env := by rfl) (hpl : (backTo pos (starEach [] X.env)).any (·.1) = false := by rfl) :
    PE X (.Call (.Name "max" p) [a] [] pos) (tD X.K C W (eB maxLF G)) := d_callB (cr_max hc) c_maxL hg hm (by decide +kernel) ha (by decide) (by decide) he hpl
end DL

set_option maxHeartbeats 1000000
namespace DL
open PySem PySem.Spec PyProof.Rows L2
variable [TB : TabSet]
@[simp] def flatD : D → Option V
  | .non => some .non
  | .bl b => some (.bl b)
  | .int i => some (.int i)
  | .str x => some (.str x)
  | _ => none
@[simp] def flatsD : List D → Option (List V)
  | [] => some []
  | d :: ds => (flatD d).bind fun v => (flatsD ds).map (v :: ·)
section
variable {K : PySem.W.Frag} {ba : Option Addr} {S S' H : Hp}
theorem flat_dr {v u : V} {d : D} (r : DR K ba S v d) (h : flatD d = some u) : v = u ∧ flatV u = true := by
  cases d <;> simp only [flatD, Option.some.injEq, reduceCtorEq] at h <;> subst h <;> cases r <;> exact ⟨rfl, rfl⟩
theorem flats_dr : ∀ {ds : List D} {vs us : List V}, DRs K ba S vs ds → flatsD ds = some us → vs = us ∧ us.all flatV = true
  | [], _, _, r, h => by cases r; cases h; exact ⟨rfl, rfl⟩
  | d :: ds, _, _, r, h => by
    cases r with
    | cons r1 r2 =>
      simp only [flatsD, Option.bind_eq_some_iff, Option.map_eq_some_iff] at h
      obtain ⟨v, h1, us, h2, rfl⟩ := h
      obtain ⟨rfl, f1⟩ := flat_dr r1 h1
      obtain ⟨rfl, f2⟩ := flats_dr r2 h2
      exact ⟨rfl, by rw [List.all_cons, f1, f2]; rfl⟩
end
section
variable {X : Cx} {C : Cq} {W : WX} {o e a b : Expr} {es : List Expr} {pos apos cpos : Pos} {F Fa Fb : EF} {G : AF}
@[simp] def eML (f : List D → List D → Option D) (Fo : EF) (G : AF) : EF := fun ρ b => (Fo ρ b).bind fun d b1 => match seqOf d with
  | some xs => (G ρ b1).bind fun ds b2 => Out.pureO (f xs ds) b2
  | none => .stuck
def MtDL (K : PySem.W.Frag) (C : Cq) (r : V → List V → Hp → VK → Prop) (f : List D → List D → Option D) : Prop := ∀ (S : Hp) (ρ : Env) (b : Bag) (σ : L2.St) (H : Hp) (a : Addr) (ys vs : List V) (ds es : List D) (z : D) (Q : VK), OkS K C S ρ b σ H → SqL K H a ys → DRs K C.ba S ys ds → DRs K C.ba S vs es → f ds es = some z →
  (∀ u S' H', Same S S' → OkS K C S' ρ b σ H' → DR K C.ba S' u z → Q u H') → r (.ref a) vs H Q
theorem d_bmL {name : Str} {id : String} {r : V → List V → Hp → VK → Prop} {f : List D → List D → Option D} (slot : Slot "list" name id) (hty : typeOf (.builtin id) = pure (.type "method_descriptor")) (hm : MtR X id r) (hf : MtDL X.K C r f) (ho : PE X o (tD X.K C W F)) (ha : PA X (e :: es) (tDA X.K C W G))
    (hbase : attributeBase o name X.env (eval o X.env) = eval o X.env := by rfl)
    (hfew : ((backTo cpos (starEach (e :: es) X.env)).all (fun x => !x.1) && (backToKw cpos (keywordEach [] X.env)).all (fun x => x.1.isSome)
      && decide ((e :: es).length + ([] : List Keyword).length + (if ([] : List Keyword).isEmpty then 0 else 1) < 30)) = true := by rfl)
    (hline : (apos.endLine == cpos.line) = true := by rfl) (hs : starEach (e :: es) X.env = (false, eval e X.env) :: starEach es X.env := by rfl) (hplain : (backTo cpos (starEach es X.env)).any (·.1) = false := by rfl) :
    PE X (.Call (.Attribute o name apos) (e :: es) [] cpos) (tD X.K C W (eML f F G)) :=
  pe_imp (pe_bm PySem.F.plainAttrs_list slot hty hm ho ha hbase hfew hline hs hplain) fun σ H Q ⟨S, ρ, b, ok, q⟩ => by
  refine ⟨S, ρ, b, ok, q.bind.imp fun d b1 S1 H1 s1 ok1 q1 v r => ?_⟩
  cases hd : seqOf d with
  | none => simp only [hd] at q1; exact q1.elim
  | some xs =>
    simp only [hd] at q1
    obtain ⟨a, ys, rfl, h1, h2⟩ := seqL r hd
    refine ⟨?_, S1, ρ, b1, ok1, q1.bind.imp fun ds b2 S2 H2 s2 ok2 q2 vs rs => ?_⟩
    · exact .inl ⟨rfl, ys, ok1.core.sub.seq h1⟩
    · obtain ⟨z, hz, q3⟩ := q2.pureO
      exact hf S2 ρ b2 σ H2 a ys vs xs ds z Q ok2 ((s2.trans ok2.core.sub).seq h1) (h2.up s2) rs hz fun u S' H' e o r => q3 S' H' e o u r
/-- the first place of a flat item -/
def lidxF (xs : List D) : List D → Option D
  | [d] => (flatD d).bind fun y => (flatsD xs).bind fun ys => (ys.findIdx? (fun z => eqV z y)).map fun j => .int (j : Nat)
  | _ => none
theorem m_lidx {K : PySem.W.Frag} : MtDL K C (rIndex K) lidxF := by
  intro S ρ b σ H a ys vs ds es z Q ok h1 h2 h3 hz q
  unfold lidxF at hz
  split at hz
  · simp only [Option.bind_eq_some_iff, Option.map_eq_some_iff] at hz
    obtain ⟨y, hy, us, hu, j, hj, rfl⟩ := hz
    cases h3 with
    | cons r1 r2 =>
      cases r2
      obtain ⟨rfl, f1⟩ := flat_dr r1 hy
      obtain ⟨rfl, f2⟩ := flats_dr h2 hu
      rw [List.findIdx?_eq_some_iff_getElem] at hj
      obtain ⟨hl, hj1, hj2⟩ := hj
      refine ⟨a, ys, _, j, ys[j], rfl, rfl, h1, f1, f2, List.getElem?_eq_getElem hl, hj1, fun m z' hm hz' => ?_, q _ S H (Same.refl _) ok (.int _)⟩
      obtain ⟨hl2, rfl⟩ := List.getElem?_eq_some_iff.mp hz'
      simpa using hj2 m hm
  · cases hz
@[simp] def inQ : D → D → Option D
  | d, .lst es => (flatD d).bind fun y => (flatsD es).map fun ys => .bl (inV y ys)
  | d, .fl es => (flatD d).bind fun y => (flatsD es).map fun ys => .bl (inV y ys)
  | d, .tup es => (flatD d).bind fun y => (flatsD es).map fun ys => .bl (inV y ys)
  | _, _ => none
@[simp] def ninQ : D → D → Option D
  | d, .lst es => (flatD d).bind fun y => (flatsD es).map fun ys => .bl (!inV y ys)
  | d, .fl es => (flatD d).bind fun y => (flatsD es).map fun ys => .bl (!inV y ys)
  | d, .tup es => (flatD d).bind fun y => (flatsD es).map fun ys => .bl (!inV y ys)
  | _, _ => none
theorem inq2 {K : PySem.W.Frag} : Op2 K C (rIn K false) inQ := by
  intro S ρ b σ H v w d e z Q ok r1 r2 hz q
  cases e with
  | lst es =>
    simp only [inQ, Option.bind_eq_some_iff, Option.map_eq_some_iff] at hz
    obtain ⟨y, hy, ys, hys, rfl⟩ := hz
    cases r2 with
    | lst h1 h2 =>
      obtain ⟨rfl, f1⟩ := flat_dr r1 hy
      obtain ⟨rfl, f2⟩ := flats_dr h2 hys
      exact ⟨_, _, rfl, .inl (SqL.of (ok.core.sub _ _ h1)), f1, f2, q _ S H (Same.refl _) ok (.bl _)⟩
  | fl es =>
    simp only [inQ, Option.bind_eq_some_iff, Option.map_eq_some_iff] at hz
    obtain ⟨y, hy, ys, hys, rfl⟩ := hz
    cases r2 with
    | fl h1 h2 =>
      obtain ⟨rfl, f1⟩ := flat_dr r1 hy
      obtain ⟨rfl, f2⟩ := flats_dr h2 hys
      exact ⟨_, _, rfl, .inl (ok.core.sub.seq h1), f1, f2, q _ S H (Same.refl _) ok (.bl _)⟩
  | tup es =>
    simp only [inQ, Option.bind_eq_some_iff, Option.map_eq_some_iff] at hz
    obtain ⟨y, hy, ys, hys, rfl⟩ := hz
    cases r2 with
    | tup h1 h2 =>
      obtain ⟨rfl, f1⟩ := flat_dr r1 hy
      obtain ⟨rfl, f2⟩ := flats_dr h2 hys
      exact ⟨_, _, rfl, .inr (seqT ok.core.sub h1), f1, f2, q _ S H (Same.refl _) ok (.bl _)⟩
  | _ => simp only [inQ, reduceCtorEq] at hz
theorem ninq2 {K : PySem.W.Frag} : Op2 K C (rIn K true) ninQ := by
  intro S ρ b σ H v w d e z Q ok r1 r2 hz q
  cases e with
  | lst es =>
    simp only [ninQ, Option.bind_eq_some_iff, Option.map_eq_some_iff] at hz
    obtain ⟨y, hy, ys, hys, rfl⟩ := hz
    cases r2 with
    | lst h1 h2 =>
      obtain ⟨rfl, f1⟩ := flat_dr r1 hy
      obtain ⟨rfl, f2⟩ := flats_dr h2 hys
      exact ⟨_, _, rfl, .inl (SqL.of (ok.core.sub _ _ h1)), f1, f2, q _ S H (Same.refl _) ok (.bl _)⟩
  | fl es =>
    simp only [ninQ, Option.bind_eq_some_iff, Option.map_eq_some_iff] at hz
    obtain ⟨y, hy, ys, hys, rfl⟩ := hz
    cases r2 with
    | fl h1 h2 =>
      obtain ⟨rfl, f1⟩ := flat_dr r1 hy
      obtain ⟨rfl, f2⟩ := flats_dr h2 hys
      exact ⟨_, _, rfl, .inl (ok.core.sub.seq h1), f1, f2, q _ S H (Same.refl _) ok (.bl _)⟩
  | tup es =>
    simp only [ninQ, Option.bind_eq_some_iff, Option.map_eq_some_iff] at hz
    obtain ⟨y, hy, ys, hys, rfl⟩ := hz
    cases r2 with
    | tup h1 h2 =>
      obtain ⟨rfl, f1⟩ := flat_dr r1 hy
      obtain ⟨rfl, f2⟩ := flats_dr h2 hys
      exact ⟨_, _, rfl, .inr (seqT ok.core.sub h1), f1, f2, q _ S H (Same.refl _) ok (.bl _)⟩
  | _ => simp only [ninQ, reduceCtorEq] at hz
theorem d_inq (ha : PE X a (tD X.K C W Fa)) (hb : PE X b (tD X.K C W Fb)) (hm : behindInMarks .In b = false := by with_unfolding_all rfl) : PE X (.Compare a [.In] [b] pos) (tD X.K C W (e2 inQ Fa Fb)) := d_cmp op_in_seq inq2 ha hb hm
theorem t_inq (ha : PE X a (tD X.K C W Fa)) (hb : PE X b (tD X.K C W Fb)) (hm : behindInMarks .In b = false := by with_unfolding_all rfl) : PT X (.Compare a [.In] [b] pos) (tDt X.K C W (bB (e2 inQ Fa Fb))) := d_tcmp op_in_seq inq2 ha hb hm
theorem t_ninq (ha : PE X a (tD X.K C W Fa)) (hb : PE X b (tD X.K C W Fb)) (hm : behindInMarks .NotIn b = false := by with_unfolding_all rfl) : PT X (.Compare a [.NotIn] [b] pos) (tDt X.K C W (bB (e2 ninQ Fa Fb))) := d_tcmp op_notIn_seq ninq2 ha hb hm
end
end DL

set_option maxHeartbeats 1000000
namespace DL
open PySem PySem.Spec PyProof.Rows L2
variable [TB : TabSet]
section
variable {X : Cx} {C : Cq} {W : WX} {o e a b : Expr} {es : List Expr} {pos apos cpos p : Pos} {F Fa Fb : EF} {G : AF} {st : Stmt}
@[simp] def shlF : D → D → Option D
  | .int i, .int j => if 0 ≤ j ∧ j ≤ 1000 ∧ i.natAbs < 2 ^ 64 then some (.int (i * 2 ^ j.toNat)) else none
  | _, _ => none
@[simp] def shrF : D → D → Option D
  | .int i, .int j => if 0 ≤ j then some (.int (i / 2 ^ j.toNat)) else none
  | _, _ => none
@[simp] def bandF : D → D → Option D
  | .int i, .int j => some (.int (Builtin.bitAnd i j))
  | _, _ => none
@[simp] def borF : D → D → Option D
  | .int i, .int j => some (.int (Builtin.bitOr i j))
  | _, _ => none
theorem d_shl (ha : PE X a (tD X.K C W Fa)) (hb : PE X b (tD X.K C W Fb)) : PE X (.BinOp a .LShift b pos) (tD X.K C W (e2 shlF Fa Fb)) :=
  d_op op_shl (i2 (g' := fun i j => .int (i * 2 ^ j.toNat)) (fun d e z h => by
    unfold shlF at h
    split at h
    · split at h
      · rename_i hh; cases h; exact ⟨_, _, rfl, rfl, ⟨hh.1, by omega, hh.2.2⟩, rfl⟩
      · cases h
    · cases h) fun _ _ _ => .int _) ha hb
theorem d_shr (ha : PE X a (tD X.K C W Fa)) (hb : PE X b (tD X.K C W Fb)) : PE X (.BinOp a .RShift b pos) (tD X.K C W (e2 shrF Fa Fb)) :=
  d_op op_shr (i2 (g' := fun i j => .int (i / 2 ^ j.toNat)) (fun d e z h => by
    unfold shrF at h
    split at h
    · split at h
      · cases h; exact ⟨_, _, rfl, rfl, by assumption, rfl⟩
      · cases h
    · cases h) fun _ _ _ => .int _) ha hb
theorem d_band (ha : PE X a (tD X.K C W Fa)) (hb : PE X b (tD X.K C W Fb)) : PE X (.BinOp a .BitAnd b pos) (tD X.K C W (e2 bandF Fa Fb)) :=
  d_op (rI_of0 op_and) (i2 (g' := fun i j => .int (Builtin.bitAnd i j)) (fun d e z h => by
    unfold bandF at h
    split at h
    · cases h; exact ⟨_, _, rfl, rfl, trivial, rfl⟩
    · cases h) fun _ _ _ => .int _) ha hb
theorem d_bor (ha : PE X a (tD X.K C W Fa)) (hb : PE X b (tD X.K C W Fb)) : PE X (.BinOp a .BitOr b pos) (tD X.K C W (e2 borF Fa Fb)) :=
  d_op (rI_of0 op_or) (i2 (g' := fun i j => .int (Builtin.bitOr i j)) (fun d e z h => by
    unfold borF at h
    split at h
    · cases h; exact ⟨_, _, rfl, rfl, trivial, rfl⟩
    · cases h) fun _ _ _ => .int _) ha hb
theorem isN_dr {K : PySem.W.Frag} {ba : Option Addr} {S : Hp} {v : V} {d z : D} (r : DR K ba S v d) (h : isNF d = some z) : z = .bl (decide (v = .non)) := by
  cases d <;> simp only [isNF, Option.some.injEq, reduceCtorEq] at h <;> subst h <;> cases r <;> rfl
@[simp] def truD : D → Option Bool
  | .non => some false
  | .bl k => some k
  | .int i => some (i != 0)
  | .str x => if x.length ≤ 100000 then some ((x.length : Int) != 0) else none
  | .lst ds => some (!ds.isEmpty)
  | .fl ds => some (!ds.isEmpty)
  | .tup ds => some (!ds.isEmpty)
  | _ => none
@[simp] def bT (F : EF) : BF := fun ρ b => (F ρ b).bind fun d b' => match truD d with
  | some k => .ok k b'
  | none => .stuck
theorem empty_dr {K : PySem.W.Frag} {ba : Option Addr} {S : Hp} {vs : List V} {ds : List D} (r : DRs K ba S vs ds) : vs.isEmpty = ds.isEmpty := by
  cases r <;> rfl
theorem tru_dr {K : PySem.W.Frag} {ba : Option Addr} {S H : Hp} {v : V} {d : D} {k : Bool} (r : DR K ba S v d) (sub : Same S H) (h : truD d = some k) : TruV K v H k := by
  cases r with
  | non => cases h; rfl
  | bl b => cases h; rfl
  | int i => cases h; rfl
  | str x =>
    simp only [truD] at h
    split at h
    · rename_i hl; cases h; exact ⟨big_le hl, rfl⟩
    · cases h
  | tup h1 h2 => cases h; exact .inr (.inl ⟨_, seqT sub h1, by rw [empty_dr h2]⟩)
  | lst h1 h2 => cases h; exact .inl ⟨_, SqL.of (sub _ _ h1), by rw [empty_dr h2]⟩
  | fl h1 h2 => cases h; exact .inl ⟨_, sub.seq h1, by rw [empty_dr h2]⟩
  | ins => cases h
  | obj => cases h
  | bag => cases h
  | dct h1 h2 h3 => cases h
  | dtp h1 h2 h3 => cases h
theorem d_truth (h : PE X e (tD X.K C W F)) (he : ∀ whole, isTrue e X.env whole = (do let v ← whole; standAt e.pos; holding [v] (truthy v)) := by intro _; rfl) : PT X e (tDt X.K C W (bT F)) := pt_imp (pt_truth h he) fun σ H Q ⟨S, ρ, b, ok, q⟩ => by
  refine ⟨S, ρ, b, ok, q.bind.imp fun d b1 S1 H1 s1 ok1 q1 v r => ?_⟩
  split at q1
  · rename_i k hk
    exact ⟨k, tru_dr r ok1.core.sub hk, q1 S1 H1 (Same.refl _) ok1⟩
  · exact q1.elim
def sumF : List D → Option D
  | [.lst ds] => (intsD ds).map fun is => .int is.sum
  | _ => none
theorem c_sum {K : PySem.W.Frag} : CallD K C (rSum K) sumF := by
  intro S ρ b σ H vs ds z Q ok rs hz q
  unfold sumF at hz
  split at hz
  · simp only [Option.map_eq_some_iff] at hz
    obtain ⟨is, h1, rfl⟩ := hz
    cases rs with
    | cons r1 r2 =>
      cases r2
      cases r1 with
      | lst g1 g2 =>
        have e := intsD_dr g2 h1
        subst e
        exact ⟨_, is, rfl, SqL.of (ok.core.sub _ _ g1), q _ S H (Same.refl _) ok (.int _)⟩
  · cases hz
theorem d_sum (hc : X.calm = true) (hg : Gl X "sum") (hm : X.mg "sum" = none) (ha : PA X [a] (tDA X.K C W G)) (he : starEach [a] X.env = (false, eval a X.env) :: starEach [] X.env := by rfl) (hpl : (backTo pos (starEach [] X.env)).any (·.1) = false := by rfl) :
    PE X (.Call (.Name "sum" p) [a] [] pos) (tD X.K C W (eB sumF G)) := d_callB (cr_sum hc) c_sum hg hm (by decide +kernel) ha (by decide) (by decide) he hpl
def anyF : List D → Option D
  | [.lst ds] => (truths ds).map fun ks => .bl (ks.any id)
  | _ => none
theorem c_any {K : PySem.W.Frag} : CallD K C (rAny K) anyF := by
  intro S ρ b σ H vs ds z Q ok rs hz q
  unfold anyF at hz
  split at hz
  · simp only [Option.map_eq_some_iff] at hz
    obtain ⟨ks, hk, rfl⟩ := hz
    cases rs with
    | cons r1 r2 =>
      cases r2
      cases r1 with
      | lst g1 g2 =>
        have e := truths_dr g2 hk
        subst e
        exact ⟨_, ks, rfl, SqL.of (ok.core.sub _ _ g1), q _ S H (Same.refl _) ok (.bl _)⟩
  · cases hz
theorem d_any' (hc : X.calm = true) (hg : Gl X "any") (hm : X.mg "any" = none) (ha : PA X [a] (tDA X.K C W G)) (he : starEach [a] X.env = (false, eval a X.env) :: starEach [] X.env := by rfl) (hpl : (backTo pos (starEach [] X.env)).any (·.1) = false := by rfl) :
    PE X (.Call (.Name "any" p) [a] [] pos) (tD X.K C W (eB anyF G)) := d_callB (cr_any hc) c_any hg hm (by decide +kernel) ha (by decide) (by decide) he hpl
def whileD (c : BF) (B : SF) : Nat → Env → Bag → SO
  | 0, _, _ => .stuck
  | n + 1, ρ, b => (c ρ b).st ρ fun k b1 => if k = true then (match B ρ b1 with
    | .nx ρ2 b2 => whileD c B n ρ2 b2
    | .ct ρ2 b2 => whileD c B n ρ2 b2
    | .bk ρ2 b2 => .nx ρ2 b2
    | .rt d b2 => .rt d b2
    | .ro d b2 => .ro d b2
    | .ex ρ2 c ns es bx => .ex ρ2 c ns es bx
    | .stuck => .stuck) else .nx ρ b1
def sWhile (n : Nat) (c : BF) (B : SF) : SF := fun ρ b => whileD c B n ρ b
theorem while_ok {K : PySem.W.Frag} {c : BF} {B : SF} {S1 : Hp} {E : Ends} {σ : L2.St} {H : Hp} {ρ : Env} {b : Bag} {n : Nat} (ok : OkS K C S1 ρ b σ H) (h : SOk K C W S1 E (whileD c B n ρ b)) : tWhile (tDt K C W c) (tDS K C W B) E σ H := by
  refine ⟨fun m σ H => ∃ S' ρ b, Same S1 S' ∧ OkS K C S' ρ b σ H ∧ SOk K C W S' E (whileD c B m ρ b), ⟨n, S1, ρ, b, Same.refl _, ok, h⟩, ?_⟩
  rintro m σ H ⟨S', ρ, b, e, ok, q⟩
  cases m with
  | zero => exact q.elim
  | succ m =>
    unfold whileD at q
    refine ⟨S', ρ, b, ok, q.st.imp fun k b1 S2 H2 e2 ok2 q2 => ?_⟩
    cases k with
    | false => exact q2 S2 σ H2 (Same.refl _) ok2
    | true =>
      rw [if_pos rfl]
      rw [if_pos rfl] at q2
      refine ⟨fun σ' H' => ∃ S' ρ b, Same S1 S' ∧ OkS K C S' ρ b σ' H' ∧ SOk K C W S' E (whileD c B m ρ b), fun σ' H' z => ⟨m, Nat.lt_succ_self _, z⟩, S2, ρ, b1, ok2, ?_⟩
      cases hB : B ρ b1 with
      | nx ρ2 b2 => rw [hB] at q2; exact fun S4 σ4 H4 e4 ok4 => ⟨S4, ρ2, b2, (e.trans e2).trans e4, ok4, SOk.up q2 e4⟩
      | ct ρ2 b2 => rw [hB] at q2; exact fun S4 σ4 H4 e4 ok4 => ⟨S4, ρ2, b2, (e.trans e2).trans e4, ok4, SOk.up q2 e4⟩
      | bk ρ2 b2 => rw [hB] at q2; exact q2
      | rt d b2 => rw [hB] at q2; exact q2
      | ro d b2 => rw [hB] at q2; exact q2
      | ex ρ2 c ns es bx => rw [hB] at q2; exact q2
      | stuck => rw [hB] at q2; exact q2.elim
theorem d_while {n : Nat} {c : BF} {B : SF} {test : Expr} {body : List Stmt} (hp : PassesOwn (model X.prog X.w) X.A X.env X.xe) (hc : PT X test (tDt X.K C W c)) (hb : PSs X body (tDS X.K C W B)) : PS X (.While test body [] pos) (tDS X.K C W (sWhile n c B)) :=
  ps_imp (ps_while hp hc hb) fun E σ H ⟨S, ρ, b, ok, q⟩ => while_ok ok q
/-- len(x) -/
@[simp] def eLenOw (i : Nat) : EF := fun ρ b => match ρ[i]? with
  | some (some (.ow (.lst ds))) => .ok (.int ds.length) b
  | some (some (.sh (.lst ds))) => .ok (.int ds.length) b
  | _ => .stuck
theorem d_lenOw {i : Nat} {x : Str} {px : Pos} (hg : Gl X "len") (hm : X.mg "len" = none) (hx : PE X (.Name x px) (tVar i)) (he : starEach [.Name x px] X.env = (false, eval (.Name x px) X.env) :: starEach [] X.env := by rfl) (hpl : (backTo pos (starEach [] X.env)).any (·.1) = false := by rfl) :
    PE X (.Call (.Name "len" p) [.Name x px] [] pos) (tD X.K C W (eLenOw i)) := pe_imp (pe_callB call_len hg hm PySem.boot_len (pa_cons hx pa_nil he) (by decide) (by decide) he hpl) fun σ H Q ⟨S, ρ, b, ok, q⟩ => by
  unfold eLenOw at q
  split at q
  · rename_i ds hr
    obtain ⟨pp, u, e1, hp, r, _⟩ := ok.getOw hr
    cases r with
    | lst r => exact ⟨_, e1, _, _, rfl, .inl ⟨_, SqL.of hp, r.length.symm⟩, q S H (Same.refl _) ok _ (.int _)⟩
  · rename_i ds hr
    obtain ⟨v, e1, r⟩ := ok.get hr
    cases r with
    | lst h1 h2 => exact ⟨_, e1, _, _, rfl, .inl ⟨_, SqL.of (ok.core.sub _ _ h1), h2.length.symm⟩, q S H (Same.refl _) ok _ (.int _)⟩
  · exact q.elim
/-- x[e] -/
@[simp] def eIxOw (i : Nat) (F : EF) : EF := fun ρ b => match ρ[i]? with
  | some (some (.ow (.lst ds))) => (F ρ b).bind fun d b1 => match d with
    | .int k => Out.pureO (atI ds k) b1
    | _ => .stuck
  | some (some (.sh (.lst ds))) => (F ρ b).bind fun d b1 => match d with
    | .int k => Out.pureO (atI ds k) b1
    | _ => .stuck
  | _ => .stuck
theorem d_ixOw {i : Nat} {x : Str} {px : Pos} (hx : PE X (.Name x px) (tVar i)) (hb : PE X b (tD X.K C W F)) (hs : PlainIx b) : PE X (.Subscript (.Name x px) b pos) (tD X.K C W (eIxOw i F)) := pe_imp (pe_ix ix_seq hx hb hs) fun σ H Q ⟨S, ρ, b0, ok, q⟩ => by
  unfold eIxOw at q
  split at q
  · rename_i ds hr
    obtain ⟨pp, u, e1, _⟩ := ok.getOw hr
    refine ⟨_, e1, S, ρ, b0, ok, q.bind.imp fun d b1 S1 H1 s1 ok1 q1 v rv => ?_⟩
    split at q1
    · rename_i k
      cases rv
      obtain ⟨z, hz, q2⟩ := q1.pureO
      obtain ⟨pp', u', e1', hp', r', _⟩ := ok1.getOw hr
      rw [e1] at e1'
      cases e1'
      cases r' with
      | lst r' =>
        obtain ⟨w, hw, rw'⟩ := r'.atI hz
        exact .inl ⟨_, _, k, w, rfl, rfl, SqL.of hp', hw, q2 S1 H1 (Same.refl _) ok1 w rw'⟩
    · exact q1.elim
  · rename_i ds hr
    obtain ⟨v, e1, r⟩ := ok.get hr
    refine ⟨_, e1, S, ρ, b0, ok, q.bind.imp fun d b1 S1 H1 s1 ok1 q1 v rv => ?_⟩
    split at q1
    · rename_i k
      cases rv
      obtain ⟨z, hz, q2⟩ := q1.pureO
      cases r with
      | lst h1 h2 =>
        obtain ⟨w, hw, rw'⟩ := h2.atI hz
        exact .inl ⟨_, _, k, w, rfl, rfl, SqL.of (ok1.core.sub _ _ (s1 _ _ h1)), hw, q2 S1 H1 (Same.refl _) ok1 w (rw'.up s1)⟩
    · exact q1.elim
  · exact q.elim
/-- e in x, e not in x -/
@[simp] def eInOw (neg : Bool) (i : Nat) (F : EF) : EF := fun ρ b => match ρ[i]? with
  | some (some (.ow (.lst ds))) => (F ρ b).bind fun d b1 => match flatD d, flatsD ds with
    | some y, some ys => .ok (.bl (if neg then !inV y ys else inV y ys)) b1
    | _, _ => .stuck
  | _ => .stuck
/-- x, as a test -/
@[simp] def bOw (i : Nat) : BF := fun ρ b => match ρ[i]? with
  | some (some (.ow (.lst ds))) => .ok (!ds.isEmpty) b
  | _ => .stuck
theorem t_ow {i : Nat} {x : Str} {px : Pos} (hx : PE X (.Name x px) (tVar i)) (he : ∀ whole, isTrue (.Name x px) X.env whole = (do let v ← whole; standAt (Expr.Name x px).pos; holding [v] (truthy v)) := by intro _; rfl) : PT X (.Name x px) (tDt X.K C W (bOw i)) := pt_imp (pt_truth hx he) fun σ H Q ⟨S, ρ, b, ok, q⟩ => by
  unfold bOw at q
  split at q
  · rename_i ds hr
    obtain ⟨pp, u, e1, hp, r, _⟩ := ok.getOw hr
    cases r with
    | lst r => exact ⟨_, e1, _, .inl ⟨_, SqL.of hp, rfl⟩, by rw [empty_dr r]; exact q S H (Same.refl _) ok⟩
  · exact q.elim
@[simp] def sPop (i j : Nat) : SF := fun ρ b => match ρ[i]? with
  | some (some (.ow (.lst ds))) => match ds[ds.length - 1]? with
    | some d => .nx ((ρ.set i (some (.ow (.lst ds.dropLast)))).set j (some (.sh d))) b
    | none => .stuck
  | _ => .stuck
theorem dropLast_dr {K : PySem.W.Frag} {ba : Option Addr} {S : Hp} {vs : List V} {ds : List D} (h : DRs K ba S vs ds) : DRs K ba S vs.dropLast ds.dropLast := by
  rw [List.dropLast_eq_take, List.dropLast_eq_take, h.length]
  exact h.take _
theorem d_pop {i j : Nat} (h : PS X st (tAsg (tBM0 X.K "list" rPop (tVar i)) (gName j))) : PS X st (tDS X.K C W (sPop i j)) := ps_imp h fun E σ H ⟨S, ρ, b, ok, q⟩ => by
  unfold sPop at q
  split at q
  · rename_i ds hr
    split at q
    · rename_i d hd
      obtain ⟨pp, u, e1, hp, r, _, _, _, wr, _⟩ := ok.getOw hr
      cases r with
      | @lst xs _ r =>
        obtain ⟨v, hv, rv⟩ := r.get hd
        refine ⟨_, e1, .inl ⟨rfl, _, SqL.of hp⟩, pp, xs, v, rfl, rfl, hp, by rw [r.length]; exact hv, ?_⟩
        exact q S _ _ (Same.refl _) ((wr _ _ (.lst (dropLast_dr r))).setSh rv)
    · exact q.elim
  · exact q.elim
end
end DL

set_option maxHeartbeats 1000000
namespace DL
open PySem PySem.Spec PyProof.Rows L2
variable [TB : TabSet]
@[simp] def keyD : D → Option Key
  | .int i => some (.inl i)
  | .str x => some (.inr x)
  | _ => none
def lookK : List Key → List D → Key → Option D
  | k :: ks, d :: ds, j => if k = j then some d else lookK ks ds j
  | _, _, _ => none
/-- the values behind a store of one that is there -/
def setK : List Key → List D → Key → D → List D
  | k :: ks, d :: ds, j, e => (if k = j then e else d) :: setK ks ds j e
  | _, ds, _, _ => ds
def putD (ks : List Key) (ds : List D) (j : Key) (e : D) : D := if ks.any (fun k => decide (k = j)) then .dct ks (setK ks ds j e) else .dct (ks ++ [j]) (ds ++ [e])
section
variable {K : PySem.W.Frag} {ba : Option Addr} {S S' H : Hp}
theorem key_dr {v : V} {d : D} {k : Key} (r : DR K ba S v d) (h : keyD d = some k) : v = kV k := by
  cases d <;> simp only [keyD, Option.some.injEq, reduceCtorEq] at h <;> subst h <;> cases r <;> rfl
theorem look_dr : ∀ {kvs : List (Key × V)} {ds : List D} {j : Key} {d : D}, DRs K ba S (kvs.map (·.2)) ds → lookK (kvs.map (·.1)) ds j = some d → ∃ v, valV kvs j = some v ∧ DR K ba S v d
  | [], _, _, _, _, h => by simp [lookK] at h
  | p :: kvs, [], _, _, r, h => by cases r
  | p :: kvs, e :: ds, j, d, r, h => by
    cases r with
    | cons r1 r2 =>
      unfold lookK at h
      rw [List.map_cons] at h
      by_cases hk : p.1 = j
      · simp only [hk, if_true] at h
        cases h
        exact ⟨p.2, valV_pos hk, r1⟩
      · simp only [hk, if_false] at h
        obtain ⟨v, h1, h2⟩ := look_dr r2 h
        exact ⟨v, by rw [valV_neg hk]; exact h1, h2⟩
theorem look_none : ∀ {kvs : List (Key × V)} {ds : List D} {j : Key}, DRs K ba S (kvs.map (·.2)) ds → ((valV kvs j).isSome = (kvs.map (·.1)).any (fun k => decide (k = j)))
  | [], _, _, _ => by simp [valV]
  | p :: kvs, [], _, r => by cases r
  | p :: kvs, e :: ds, j, r => by
    cases r with
    | cons r1 r2 =>
      by_cases hk : p.1 = j
      · rw [valV_pos hk]
        simp [hk]
      · rw [valV_neg hk, look_none r2]
        simp [hk]
theorem set_dr {j : Key} {v : V} {d : D} (rv : DR K ba S v d) : ∀ {kvs : List (Key × V)} {ds : List D}, DRs K ba S (kvs.map (·.2)) ds → DRs K ba S ((kvs.map (fun kv => if kv.1 = j then (kv.1, v) else kv)).map (·.2)) (setK (kvs.map (·.1)) ds j d)
  | [], _, r => by cases r; exact .nil
  | p :: kvs, [], r => by cases r
  | p :: kvs, e :: ds, r => by
    cases r with
    | cons r1 r2 =>
      simp only [List.map_cons, setK]
      by_cases hk : p.1 = j
      · simp only [hk, if_true]
        exact .cons rv (set_dr rv r2)
      · simp only [hk, if_false]
        exact .cons r1 (set_dr rv r2)
theorem put_dr {kvs : List (Key × V)} {ds : List D} {j : Key} {v : V} {d : D} (r : DRs K ba S (kvs.map (·.2)) ds) (rv : DR K ba S v d) : ODR K ba S (.dK (putK kvs j v)) (putD (kvs.map (·.1)) ds j d) := by
  unfold putK putD
  have e : (kvs.any fun kv => decide (kv.1 = j)) = (kvs.map (·.1)).any (fun k => decide (k = j)) := by rw [valV_any]; exact look_none r
  rw [e]
  by_cases h : (kvs.map (·.1)).any (fun k => decide (k = j)) = true
  · rw [if_pos h, if_pos h]
    refine .dct ?_ (set_dr rv r)
    rw [List.map_map]
    apply List.map_congr_left
    intro p _
    show (if p.1 = j then (p.1, v) else p).1 = p.1
    split <;> rfl
  · rw [if_neg h, if_neg h]
    refine .dct (by simp) ?_
    rw [List.map_append]
    exact r.app (.cons rv .nil)
end
section
variable {X : Cx} {C : Cq} {W : WX} {o e a b : Expr} {es : List Expr} {pos pos' apos cpos p : Pos} {F Fa Fb Fk Fv : EF} {G : AF} {st : Stmt}
/-- {} -/
@[simp] def eDnew : EF := fun _ b => .ok (.dct [] []) b
theorem d_dnew : PE X (.Dict [] [] pos) (tDF X.K C W eDnew) := pe_imp pe_dnewK fun σ H Q ⟨S, ρ, b, ok, q⟩ => fun p hp => q S _ p _ (Same.refl _) (ok.fresh hp) (.dct rfl .nil)
/-- x[k] = v, x owned -/
@[simp] def sDput (i : Nat) (Fk Fv : EF) : SF := fun ρ b => match ρ[i]? with
  | some (some (.ow (.dct ks ds))) => (Fv ρ b).st ρ fun d b1 => (Fk ρ b1).st ρ fun k b2 => match keyD k with
    | some j => if ks.length ≤ 100000 then .nx (ρ.set i (some (.ow (putD ks ds j d)))) b2 else .stuck
    | none => .stuck
  | _ => .stuck
theorem d_dput {i : Nat} {x : Str} {px : Pos} (hu : X.A.units + 1 < cLine) (hx : PE X (.Name x px) (tVar i)) (hk : PE X a (tD X.K C W Fk)) (hv : PE X e (tD X.K C W Fv)) (hs : swapsWith e (some (.Subscript (.Name x px) a pos')) pos.line X.env = pure false := by rfl) :
    PS X (.Assign [.Subscript (.Name x px) a pos'] e pos) (tDS X.K C W (sDput i Fk Fv)) := ps_imp (ps_dput hu hx hk hv hs) fun E σ H ⟨S, ρ, b, ok, q⟩ => by
  unfold sDput at q
  split at q
  · rename_i ks ds hr
    refine ⟨S, ρ, b, ok, q.st.imp fun d b1 S1 H1 s1 ok1 q1 v rv => ?_⟩
    obtain ⟨p1, u1, e1, hp1, r1, _⟩ := ok1.getOw hr
    refine ⟨_, e1, S1, ρ, b1, ok1, q1.st.imp fun k b2 S2 H2 s2 ok2 q2 w rw' => ?_⟩
    split at q2
    · rename_i j hj
      obtain ⟨p2, u2, e2, hp2, r2, _, _, _, wr, _⟩ := ok2.getOw hr
      rw [e1] at e2
      cases e2
      cases r2 with
      | @dct kvs _ _ g1 g2 =>
        split at q2
        · rename_i hl
          refine ⟨_, upd H2 p1 (.dK (putK kvs j v)), rfl, ?_, ?_⟩
          · rw [key_dr rw' hj]
            refine DPut.k hp2 (small_lt ?_)
            have := congrArg List.length g1
            rw [List.length_map] at this
            omega
          · subst g1
            exact q2 S2 σ _ (Same.refl _) (wr _ _ (put_dr g2 (rv.up s2)))
        · exact q2.elim
    · exact q2.elim
  · exact q.elim
/-- x[k], x owned -/
@[simp] def eDgOw (i : Nat) (F : EF) : EF := fun ρ b => match ρ[i]? with
  | some (some (.ow (.dct ks ds))) => (F ρ b).bind fun k b1 => match keyD k with
    | some j => Out.pureO (lookK ks ds j) b1
    | none => .stuck
  | _ => .stuck
theorem d_dgOw {i : Nat} {x : Str} {px : Pos} (hu : X.A.units + 1 < cLine) (hx : PE X (.Name x px) (tVar i)) (hb : PE X b (tD X.K C W F)) (hs : NoSl b) : PE X (.Subscript (.Name x px) b pos) (tD X.K C W (eDgOw i F)) := pe_imp (pe_dget hu hx hb hs) fun σ H Q ⟨S, ρ, b0, ok, q⟩ => by
  unfold eDgOw at q
  split at q
  · rename_i ks ds hr
    obtain ⟨pp, u, e1, _⟩ := ok.getOw hr
    refine ⟨_, e1, S, ρ, b0, ok, q.bind.imp fun d b1 S1 H1 s1 ok1 q1 v rv => ?_⟩
    split at q1
    · rename_i j hj
      obtain ⟨z, hz, q2⟩ := q1.pureO
      obtain ⟨pp', u', e1', hp', r', _⟩ := ok1.getOw hr
      rw [e1] at e1'
      cases e1'
      cases r' with
      | @dct kvs _ _ g1 g2 =>
        subst g1
        obtain ⟨w, hw, rw'⟩ := look_dr g2 hz
        refine ⟨_, w, rfl, ?_, q2 S1 H1 (Same.refl _) ok1 w rw'⟩
        rw [key_dr rv hj, ← hw]
        exact DGet.k hp'
    · exact q1.elim
  · exact q.elim
/-- d[k] -/
@[simp] def eDg (Fo F : EF) : EF := fun ρ b => (Fo ρ b).bind fun d b1 => match d with
  | .dct ks ds => (F ρ b1).bind fun k b2 => match keyD k with
    | some j => Out.pureO (lookK ks ds j) b2
    | none => .stuck
  | _ => .stuck
theorem d_dg (hu : X.A.units + 1 < cLine) (ho : PE X o (tD X.K C W Fa)) (hb : PE X b (tD X.K C W F)) (hs : NoSl b) : PE X (.Subscript o b pos) (tD X.K C W (eDg Fa F)) := pe_imp (pe_dget hu ho hb hs) fun σ H Q ⟨S, ρ, b0, ok, q⟩ => by
  refine ⟨S, ρ, b0, ok, q.bind.imp fun d b1 S1 H1 s1 ok1 q1 v rv => ?_⟩
  split at q1
  · rename_i ks ds
    refine ⟨S1, ρ, b1, ok1, q1.bind.imp fun k b2 S2 H2 s2 ok2 q2 w rw' => ?_⟩
    split at q2
    · rename_i j hj
      obtain ⟨z, hz, q3⟩ := q2.pureO
      cases rv with
      | @dct a od kvs _ _ h1 g1 g2 =>
        subst g1
        obtain ⟨y, hy, ry⟩ := look_dr g2 hz
        refine ⟨_, y, rfl, ?_, q3 S2 H2 (Same.refl _) ok2 y (ry.up s2)⟩
        rw [key_dr rw' hj, ← hy]
        exact .inl ⟨_, _, .inr ⟨od, (s2.trans ok2.core.sub) _ _ h1⟩, rfl, rfl⟩
    · exact q2.elim
  · exact q1.elim
end
end DL

set_option maxHeartbeats 2000000
namespace DL
open PySem PySem.Spec PyProof.Rows L2
variable [TB : TabSet]
def lc2D (g : GF) (Fi1 : AF) (vs1 : List Nat) (g1 : GF) (F : EF) : List D → Env → Bag → Out (List D)
  | [], _, b => .ok [] b
  | d :: ds, ρ, b => match g d ρ b with
    | none => .stuck
    | some z => ((Fi1 (unown z.1) z.2).noex).bind fun es b1 => (lcD g1 bYes F es (wipeE (unown z.1) vs1) b1).bind fun ys b2 => (lc2D g Fi1 vs1 g1 F ds ρ b2).bind fun zs b3 => .ok (ys ++ zs) b3
@[simp] def eLc2 (Fi : AF) (vs : List Nat) (g : GF) (Fi1 : AF) (vs1 : List Nat) (g1 : GF) (F : EF) : EF := fun ρ b => (Fi ρ b).bind fun ds b1 => (lc2D g Fi1 vs1 g1 F ds (wipeE (unown ρ) vs) b1).bind fun ys b2 => if ys.length ≤ 100000 then .ok (.lst ys) b2 else .stuck
def tDIany (K : PySem.W.Frag) (F : AF) : TI := fun σ H R => ∃ C, tDI K C W0 F σ H R
theorem d_iany2 {X : Cx} {tg it : Expr} {F : AF} (h : ∀ C, PI X tg it (tDI X.K C W0 F)) : PI X tg it (tDIany X.K F) := ⟨fun pins s σ H Q I ⟨C, q⟩ => (h C).run pins s σ H Q I q⟩
section
variable {X : Cx} {C : Cq} {W : WX} {e : Expr} {Fi Fi1 : AF} {g g1 : TG} {f f1 : GF} {F : EF} {vs vs1 : List Nat}
theorem lc2D_noex : ∀ {ds : List D} {ρ : Env} {b : Bag} {c : Str} {ns : List Str} {es : List D} {bx : Bag}, lc2D f Fi1 vs1 f1 F ds ρ b ≠ .ex c ns es bx
  | [], _, _, _, _, _, _, h => by cases h
  | d :: ds, ρ, b, c, ns, es, bx, h => by
    unfold lc2D at h
    split at h
    · cases h
    · rename_i z _
      cases hT : Fi1 (unown z.1) z.2 with
      | ex _ _ _ => rw [hT] at h; cases h
      | stuck => rw [hT] at h; cases h
      | ok k b1 =>
        rw [hT] at h
        have h : ((lcD f1 bYes F k (wipeE (unown z.1) vs1) b1).bind fun ys b2 => (lc2D f Fi1 vs1 f1 F ds ρ b2).bind fun zs b3 => .ok (ys ++ zs) b3) = Out.ex c ns es bx := h
        cases hL : lcD f1 bYes F k (wipeE (unown z.1) vs1) b1 with
        | ex _ _ _ => exact lcD_noex hL
        | stuck => rw [hL] at h; cases h
        | ok ys b2 =>
          rw [hL] at h
          have h : ((lc2D f Fi1 vs1 f1 F ds ρ b2).bind fun zs b3 => .ok (ys ++ zs) b3) = Out.ex c ns es bx := h
          cases hM : lc2D f Fi1 vs1 f1 F ds ρ b2 with
          | ex _ _ _ => exact lc2D_noex hM
          | stuck => rw [hM] at h; cases h
          | ok _ _ => rw [hM] at h; cases h
theorem Slots.flat {K : PySem.W.Frag} {ba : Option Addr} {S S' H H' : Hp} {σ : L2.St} {ρ : Env} (s : Slots K ba S H σ ρ []) (e : Same S S') : Slots K ba S' H' σ ρ [] := s.mono e fun p hp => by cases hp
theorem okS_in {K : PySem.W.Frag} {C : Cq} {S H : Hp} {b : Bag} {σ : L2.St} {ρ : Env} (c : Core C S b H) (s : Slots K C.ba S H σ ρ []) : OkS K (inner C S H) S ρ b σ H := ⟨c.inner, [], s, List.nodup_nil, fun _ h => by cases h⟩
theorem lc2_of (hT : CTg X.K g f vs) (hT1 : CTg X.K g1 f1 vs1) {σ : L2.St} {H : Hp} {Q : VK} (hh : tDF X.K C W (eLc2 Fi vs f Fi1 vs1 f1 F) σ H Q) :
    tLc2 (tDI X.K C W Fi) g (tDtany X.K bYes) (tDIany X.K Fi1) g1 (tDtany X.K bYes) (tDany X.K F) vs vs1 σ H Q := by
  obtain ⟨S, ρ, b, ok, q⟩ := hh
  refine ⟨S, ρ, b, ok, ?_⟩
  unfold eLc2 at q
  cases hF : Fi ρ b with
  | stuck => rw [hF] at q; exact q.elim
  | ex c ns ds bx => rw [hF] at q; exact q
  | ok ds b1 =>
    rw [hF] at q
    have q : OutF X.K C W S ρ σ Q ((lc2D f Fi1 vs1 f1 F ds (wipeE (unown ρ) vs) b1).bind fun ys b2 => if ys.length ≤ 100000 then .ok (.lst ys) b2 else .stuck) := q
    intro S1 H1 e1 ok1 J hJ Dd hD
    cases hL : lc2D f Fi1 vs1 f1 F ds (wipeE (unown ρ) vs) b1 with
    | stuck => rw [hL] at q; exact q.elim
    | ex c ns es bx => exact absurd hL lc2D_noex
    | ok ys b2 =>
      rw [hL] at q
      have q : OutF X.K C W S ρ σ Q (if ys.length ≤ 100000 then .ok (.lst ys) b2 else .stuck) := q
      by_cases hl : ys.length ≤ 100000
      · rw [if_pos hl] at q
        have q : ∀ S' H' p u, Same S S' → OkF X.K C S' ρ b2 σ H' p u → ODR X.K C.ba S' u (.lst ys) → Q (.ref p) H' := q
        refine ⟨fun i m H => m = ds.length - i ∧ i ≤ ds.length ∧ ∃ S' b xs pre rest, Same S1 S' ∧ OkF X.K C S' ρ b σ H Dd (.lst xs) ∧ DRs X.K C.ba S' xs pre ∧ lc2D f Fi1 vs1 f1 F (ds.drop i) (wipeE (unown ρ) vs) b = .ok rest b2 ∧ pre ++ rest = ys,
          ⟨ds.length, by simp, Nat.zero_le _, S1, b1, [], [], ys, Same.refl _, ok1.fresh hD, .nil, by simpa using hL, rfl⟩, ?_⟩
        rintro i m H ⟨rfl, hi, S', b', xs, pre, rest, e', of, rx, hr, hys⟩
        by_cases hlt : i < ds.length
        · have hd : ds[i]? = some ds[i] := List.getElem?_eq_getElem hlt
          have oks := of.ok
          obtain ⟨go, yl⟩ := (hJ C rfl i S' ρ b' σ H e' oks).1 _ hd
          rw [List.drop_eq_getElem_cons hlt] at hr
          unfold lc2D at hr
          refine .inr ⟨go, fun H => i + 1 ≤ ds.length ∧ ∃ S' b xs pre rest, Same S1 S' ∧ OkF X.K C S' ρ b σ H Dd (.lst xs) ∧ DRs X.K C.ba S' xs pre ∧ lc2D f Fi1 vs1 f1 F (ds.drop (i + 1)) (wipeE (unown ρ) vs) b = .ok rest b2 ∧ pre ++ rest = ys,
            fun H' n => ⟨ds.length - (i + 1), by omega, rfl, n.1, n.2⟩, fun x H' y => ?_⟩
          have okw : OkS X.K (inner C S' H) S' (wipeE (unown ρ) vs) b' (wipe σ vs) H := (oks.inner).wipe vs
          obtain ⟨_, yl2⟩ := (hJ (inner C S' H) rfl i S' _ b' _ H e' okw).1 _ hd
          obtain ⟨S2, e2, ok2, r2, k2⟩ := yl2 x H' y
          split at hr
          · cases hr
          · rename_i z hg
            refine hT (inner C S' H) S2 _ b' _ H' x _ z.1 z.2 _ ok2 r2 hg fun σ2 hw ok3 => ⟨by rw [hw]; exact wipe_idem, ?_⟩
            obtain ⟨es, b3, hk, hr⟩ := bind_ok hr
            obtain ⟨ys1, b4, hm, hr⟩ := bind_ok hr
            obtain ⟨zs, b5, hz, hr⟩ := bind_ok hr
            cases hr
            refine ⟨inner C S' H, S2, z.1, z.2, ok3, fun S4 H4 e4 ok4 => ?_⟩
            simp only [↓reduceIte]
            -- the inner walk, seen from within
            have sl4 : Slots X.K C.ba S4 H4 σ2 (unown z.1) [] := by
              obtain ⟨c4, O4, s4, w4⟩ := ok4
              exact s4.unown
            have oki : OkS X.K (inner C S' H) S4 (unown z.1) z.2 σ2 H4 := ⟨ok4.core, [], sl4, List.nodup_nil, fun _ h => by cases h⟩
            refine ⟨inner C S' H, S4, unown z.1, z.2, oki, noex_out hk fun S5 H5 e5 ok5 J1 hJ1 => ?_⟩
            have e25 : Same S' S5 := (e2.trans e4).trans e5
            obtain ⟨_, _, of5⟩ := of.push (y := x) ok5.core e25
            refine ⟨fun j k H => k = es.length - j ∧ j ≤ es.length ∧ ∃ S6 b6 xs6 pre6 rest6, Same S5 S6 ∧ OkF X.K C S6 ρ b6 σ H Dd (.lst xs6) ∧ DRs X.K C.ba S6 xs6 pre6 ∧ Slots X.K C.ba S6 H σ2 (unown z.1) [] ∧ lcD f1 bYes F (es.drop j) (wipeE (unown z.1) vs1) b6 = .ok rest6 b4 ∧ pre6 ++ rest6 = pre ++ ys1,
              ⟨es.length, by simp, Nat.zero_le _, S5, b3, xs, pre, ys1, Same.refl _, of5, rx.up e25, sl4.flat e5, by simpa using hm, rfl⟩, ?_⟩
            rintro j k H6 ⟨rfl, hj, S6, b6, xs6, pre6, rest6, e6, of6, rx6, sl6, hr6, hys6⟩
            by_cases hjl : j < es.length
            · have hdj : es[j]? = some es[j] := List.getElem?_eq_getElem hjl
              have ok6 := okS_in of6.ok.core sl6
              have okw6 : OkS X.K (inner C S6 H6) S6 (wipeE (unown z.1) vs1) b6 (wipe σ2 vs1) H6 := ok6.wipe vs1
              obtain ⟨go1, yl1⟩ := (hJ1 (inner C S6 H6) rfl j S6 _ b6 _ H6 e6 okw6).1 _ hdj
              rw [List.drop_eq_getElem_cons hjl] at hr6
              unfold lcD at hr6
              refine .inr ⟨go1, fun H => j + 1 ≤ es.length ∧ ∃ S6 b6 xs6 pre6 rest6, Same S5 S6 ∧ OkF X.K C S6 ρ b6 σ H Dd (.lst xs6) ∧ DRs X.K C.ba S6 xs6 pre6 ∧ Slots X.K C.ba S6 H σ2 (unown z.1) [] ∧ lcD f1 bYes F (es.drop (j + 1)) (wipeE (unown z.1) vs1) b6 = .ok rest6 b4 ∧ pre6 ++ rest6 = pre ++ ys1,
                fun H' n => ⟨es.length - (j + 1), by omega, rfl, n.1, n.2⟩, fun x7 H7 y7 => ?_⟩
              obtain ⟨S7, e7, ok7, r7, _⟩ := yl1 x7 H7 y7
              split at hr6
              · cases hr6
              · rename_i z7 hg7
                refine hT1 (inner C S6 H6) S7 _ b6 _ H7 x7 _ z7.1 z7.2 _ ok7 r7 hg7 fun σ3 hw3 ok8 => ⟨by rw [hw3]; exact wipe_idem, ?_⟩
                obtain ⟨k9, b9, hk9, hr6⟩ := bind_ok hr6
                have hk9 : (Out.ok true z7.2 : Out Bool) = .ok k9 b9 := hk9
                cases hk9
                rw [if_pos rfl] at hr6
                obtain ⟨y0, b10, hy, hr6⟩ := bind_ok hr6
                obtain ⟨ys', b11, hr7, hr8⟩ := bind_ok hr6
                cases hr8
                refine ⟨inner C S6 H6, S7, z7.1, z7.2, ok8, fun S9 H9 e9 ok9 => ?_⟩
                simp only [↓reduceIte]
                refine ⟨inner C S6 H6, S9, z7.1, z7.2, ok9, noex_out hy fun S10 H10 e10 ok10 v10 r10 => ?_⟩
                have e610 : Same S6 S10 := (e7.trans e9).trans e10
                obtain ⟨a1, a2, _⟩ := of6.push (y := v10) ok10.core e610
                have hlen : xs6.length < 100001 := by
                  have h1 := rx6.length
                  have h2 := congrArg List.length hys6
                  have h3 := congrArg List.length hys
                  simp only [List.length_append, List.length_cons] at h2 h3
                  omega
                refine ⟨xs6, a1, small_lt (by omega), hjl, S10, b10, xs6 ++ [v10], pre6 ++ [y0], ys', e6.trans e610, a2, (rx6.up e610).app (.cons r10 .nil), sl6.flat e610, hr7, ?_⟩
                rw [← hys6]
                simp
            · have ej : j = es.length := by omega
              subst ej
              rw [List.drop_length] at hr6
              cases hr6
              have ok6 := okS_in of6.ok.core sl6
              refine .inl ⟨(hJ1 (inner C S6 H6) rfl _ S6 _ b4 _ H6 e6 ok6).2 rfl, hlt, S6, b4, xs6, pre6, zs, ((e'.trans e25).trans e6), of6, rx6, hz, ?_⟩
              rw [List.append_nil] at hys6
              rw [← hys, hys6]
              simp
        · have e : i = ds.length := by omega
          subst e
          rw [List.drop_length] at hr
          cases hr
          refine .inl ⟨(hJ C rfl _ S' ρ _ σ H e' of.ok).2 rfl, ?_⟩
          rw [List.append_nil] at hys
          subst hys
          exact q S' H Dd _ (e1.trans e') of (.lst rx)
      · rw [if_neg hl] at q
        exact q.elim
theorem d_lc2 (hT : CTg X.K g f vs) (hT1 : CTg X.K g1 f1 vs1) (h : PE X e (tLc2 (tDI X.K C W Fi) g (tDtany X.K bYes) (tDIany X.K Fi1) g1 (tDtany X.K bYes) (tDany X.K F) vs vs1)) : PE X e (tDF X.K C W (eLc2 Fi vs f Fi1 vs1 f1 F)) := pe_imp h fun _ _ _ hh => lc2_of hT hT1 hh
end
end DL

set_option maxHeartbeats 1000000
namespace DL
open PySem PySem.Spec PyProof.Rows L2
variable [TB : TabSet]
section
variable {X : Cx} {C : Cq} {W : WX} {o e a b : Expr} {es : List Expr} {pos pos' p p2 : Pos} {F Fa Fb : EF} {G : AF}
/-- list(range(n)) -/
@[simp] def eLstRg (F : EF) : EF := fun ρ b => (F ρ b).bind fun d b1 => match d with
  | .int n => if 0 ≤ n ∧ n ≤ 100000 then .ok (.lst (rangeOf n)) b1 else .stuck
  | _ => .stuck
theorem rg_dr {K : PySem.W.Frag} {ba : Option Addr} {S : Hp} (n : Int) : DRs K ba S (rgV 0 n) (rangeOf n) := by
  unfold rgV rangeOf
  rw [Int.sub_zero]
  induction List.range n.toNat with
  | nil => exact .nil
  | cons k ks ih =>
    rw [List.map_cons, List.map_cons]
    refine .cons ?_ ih
    show DR K ba S (.int (0 + (k : Nat))) (.int (k : Int))
    rw [Int.zero_add]
    exact .int _
theorem d_listRg (hc : X.calm = true) (hg : Gl X "list") (hm : X.mg "list" = none) (hg2 : Gl X "range") (hm2 : X.mg "range" = none) (ha : PE X a (tD X.K C W F)) (na : starEach [a] X.env = (false, eval a X.env) :: starEach [] X.env := by rfl)
    (nb : starEach [.Call (.Name "range" p2) [a] [] pos'] X.env = (false, eval (.Call (.Name "range" p2) [a] [] pos') X.env) :: starEach [] X.env := by rfl) :
    PE X (.Call (.Name "list" p) [.Call (.Name "range" p2) [a] [] pos'] [] pos) (tDF X.K C W (eLstRg F)) := pe_imp (pe_listRg hc hg hm (prg_1 hg2 hm2 ha na) nb) fun σ H Q ⟨S, ρ, b, ok, q⟩ => by
  refine ⟨S, ρ, b, ok, ?_⟩
  unfold eLstRg at q
  cases hF : F ρ b with
  | stuck => rw [hF] at q; exact q.elim
  | ex c ns ds bx => rw [hF] at q; exact q
  | ok d b1 =>
    rw [hF] at q
    intro S1 H1 e1 ok1 v r
    cases d with
    | int n =>
      have q : OutF X.K C W S ρ σ Q (if 0 ≤ n ∧ n ≤ 100000 then .ok (.lst (rangeOf n)) b1 else .stuck) := q
      by_cases h : 0 ≤ n ∧ n ≤ 100000
      · rw [if_pos h] at q
        cases r
        exact ⟨n, rfl, RgOk.of_le (by omega) (by omega) (by omega) h.1, fun p hp => q S1 _ p _ e1 (ok1.fresh hp) (.lst (rg_dr n))⟩
      · rw [if_neg h] at q; exact q.elim
    | _ => exact q.elim
/-- list(xs) of a list or a tuple -/
@[simp] def anyL : List D → Option (List D)
  | [.lst ds] => some ds
  | [.fl ds] => some ds
  | [.tup ds] => some ds
  | [.dct ks _] => some (ks.map fun k => match k with | .inl i => .int i | .inr x => .str x)
  | _ => none
end
end DL

set_option maxHeartbeats 2000000
namespace DL
open PySem PySem.Spec PyProof.Rows L2
def ownB (M : Addr) : Addr → Option Bool := fun A => if A = M then some false else none
def ownM (M : Addr) : Addr → Option Bool := fun A => if A = M then some true else none
def kitM (n : String) : Option Bool := if n = "NoneType" ∨ n = "bool" ∨ n = "int" ∨ n = "str" ∨ n = "tuple" ∨ n = "list" ∨ n = "dict" then some false else none
def pick {α : Type} (perm : List Nat) (xs : List α) : List α := perm.filterMap fun i => xs[i]?
theorem pick_dr {K : PySem.W.Frag} {ba : Option Addr} {S : Hp} {vs : List V} {ds : List D} (h : DRs K ba S vs ds) : ∀ perm : List Nat, DRs K ba S (pick perm vs) (pick perm ds)
  | [] => .nil
  | i :: perm => by
    unfold pick
    rw [List.filterMap_cons, List.filterMap_cons]
    cases hd : ds[i]? with
    | none =>
      have : vs[i]? = none := by
        rw [List.getElem?_eq_none_iff] at hd ⊢
        rw [h.length]; exact hd
      rw [this]
      exact pick_dr h perm
    | some d =>
      obtain ⟨v, hv, r⟩ := h.get hd
      rw [hv]
      exact .cons r (pick_dr h perm)
end DL

set_option maxHeartbeats 2000000
namespace DL
open PySem PySem.Spec PyProof.Rows L2
variable [TB : TabSet]
/-- zip(x, tuple), x a text, a tuple: each letter and item in a new pair -/
def ItzST (K : PySem.W.Frag) (x : Str) (a : Addr) : It :=
  ⟨fun i H => i < x.cps.size ∧ ∃ (ys : List V) (y : V), SqT K H a ys ∧ ys[i]? = some y, fun i H v H' => ∃ T c y, v = .ref T ∧ H T = none ∧ H' = upd H T (.tup [.str ⟨#[c]⟩, y]) ∧ x.cps[i]? = some c ∧ ∀ ys, SqT K H a ys → ys[i]? = some y, fun i H => ∃ ys : List V, SqT K H a ys ∧ i = min x.cps.size ys.length⟩
theorem turn_zipST {P : Program} {w : World} {K : PySem.W.Frag} {elts : List Expr} {kk : Nat} {tpos : Pos} {x : Str} {t : Tok} {a z TI TO i1 i2 : Addr} (S : ZipSep2 z TI TO i1 i2 [i1] [i2, a]) (hne : a ≠ i2) :
    Turn P w K (.Tuple elts kk tpos) (ItzST K x a) [z, TI, TO, i1, i2] z (fun i h => IsZip h z TI TO .none ∧ IsTupOf2 h TI (.ref i1) (.ref i2) ∧ (∃ a1 a2, IsTupOf2 h TO a1 a2) ∧ h.IsStrIter i1 (strIterType x) x t i ∧ h.IsTupleIter i2 a i) where
  mem := by simp
  obj := fun i h st c hc => by
    obtain ⟨hz, hTI, ⟨a1, a2, hTO⟩, ⟨o1, e1, _, d1⟩, ⟨o2, e2, _, d2⟩⟩ := st
    rcases (show c = z ∨ c = TI ∨ c = TO ∨ c = i1 ∨ c = i2 by simpa using hc) with q | q | q | q | q
    · rw [q]; exact ⟨_, hz, fun v y => by cases y⟩
    · rw [q]; exact ⟨_, hTI, fun v y => by cases y⟩
    · rw [q]; exact ⟨_, hTO, fun v y => by cases y⟩
    · rw [q]; exact ⟨o1, e1, fun v y => by rw [d1] at y; cases y⟩
    · rw [q]; exact ⟨o2, e2, fun v y => by rw [d2] at y; cases y⟩
  keep := fun i h h' st k => by
    obtain ⟨hz, hTI, ⟨a1, a2, hTO⟩, ⟨o1, e1, r1⟩, h2⟩ := st
    exact ⟨k z (by simp) _ hz, k TI (by simp) _ hTI, ⟨a1, a2, k TO (by simp) _ hTO⟩, ⟨o1, k i1 (by simp) _ e1, r1⟩, h2.at fun o q => k i2 (by simp) o q⟩
  item := by
    intro X hP hw hK hc i pins s σ H E I hf st hg
    subst hP hw hK
    have hh : X.A.in1.handled = none := I.ok.hd hc
    obtain ⟨hxi, ys, y, hqy, hy⟩ := hg
    obtain ⟨its, rv, p0, _⟩ := I.tuple hqy
    have p := p0
    obtain ⟨u, hu, ru⟩ := rv.get hy
    have G := GoesN.zip2 (elts := elts) (x1 := kk) (pos := tpos) S (Draws.text (prog := X.prog) (w := X.w) (A := X.A.in1) hh i1 x t) (Draws.tuple (prog := X.prog) (w := X.w) (A := X.A.in1) hh i2 a hne its.toArray)
    have alive : ∀ b ∈ [z, TI, TO, i1, i2], b < s.heap.objs.size := fun b hb => by
      obtain ⟨hz, hTI, ⟨a1, a2, hTO⟩, ⟨o1, e1, _, d1⟩, ⟨o2, e2, _, d2⟩⟩ := st
      rcases (show b = z ∨ b = TI ∨ b = TO ∨ b = i1 ∨ b = i2 by simpa using hb) with q | q | q | q | q
      · rw [q]; exact Heap.lt_size hz
      · rw [q]; exact Heap.lt_size hTI
      · rw [q]; exact Heap.lt_size hTO
      · rw [q]; exact Heap.lt_size e1
      · rw [q]; exact Heap.lt_size e2
    have hil : i < its.length := (List.getElem?_eq_some_iff.mp hu).1
    obtain ⟨s1, s2, s3, s4, s5⟩ := st
    have st' : IsZip s.heap z TI TO .none ∧ IsTupOf2 s.heap TI (.ref i1) (.ref i2) ∧ (∃ a1 a2, IsTupOf2 s.heap TO a1 a2) ∧ s.heap.IsStrIter i1 (strIterType x) x t i ∧ (s.heap.IsTupleIter i2 a i ∧ s.heap.IsTuple a its.toArray) := ⟨s1, s2, s3, s4, s5, p⟩
    refine wpAny_mono (G.goes i s (fun v s2 => ∃ w H', Inv X pins σ H' s2 ∧ RelV w v ∧ (ItzST X.K x a).yld i H w H' ∧ (IsZip s2.heap z TI TO .none ∧ IsTupOf2 s2.heap TI (.ref i1) (.ref i2) ∧ (∃ a1 a2, IsTupOf2 s2.heap TO a1 a2) ∧ s2.heap.IsStrIter i1 (strIterType x) x t (i + 1) ∧ s2.heap.IsTupleIter i2 a (i + 1)) ∧ ∀ b ∈ [z, TI, TO, i1, i2], H' b = none) E (by simp; omega) st' fun v h' tk hY hst hk _ => ?_)
      (fun r s1 h1 => h1) fun _ _ q => q
    obtain ⟨T, v1, v2, rfl, hT, ⟨c, t1, hc1, rfl⟩, hv2, hTup⟩ := hY
    have ev : v2 = u := by
      have hv' : its[i]? = some v2 := by simpa using hv2
      rw [hu] at hv'
      exact (Option.some.inj hv').symm
    subst ev
    have new : ObjOk X.prog X.w (upd H T (.tup [.str ⟨#[c]⟩, y])) h' T (.tup [.str ⟨#[c]⟩, y]) :=
      ⟨by show 2 ≤ sizeLine; decide, [.str ⟨#[c]⟩ t1, v2], .cons ⟨t1, rfl⟩ (.cons ru .nil), hTup⟩
    have J := I.turnedNew (t' := tk) (ch := [z, TI, TO, i1, i2]) (fun b o hb q => hk b o (fun m => hb (by
      rcases (show b = z ∨ b = TO ∨ b = i1 ∨ b = i2 by simpa using m) with y | y | y | y <;> simp [y])) q) hf hT new
    refine ⟨.ref T, _, J, rfl, ⟨T, c, y, rfl, I.hok.fresh hT, rfl, hc1, fun zs hzs => by rw [I.tuple_inj hzs hqy]; exact hy⟩, ⟨hst.1, hst.2.1, hst.2.2.1, hst.2.2.2.1, hst.2.2.2.2.1⟩, fun b hb => ?_⟩
    rw [upd_ne (Nat.ne_of_lt (Nat.lt_of_lt_of_le (alive b hb) hT))]
    exact (hf b hb).1
  done := by
    intro X hP hw hK hc i pins s σ H E I hf st hg
    subst hP hw hK
    have hh : X.A.in1.handled = none := I.ok.hd hc
    obtain ⟨ys, hqy, hi⟩ := hg
    obtain ⟨its, rv, p0, _⟩ := I.tuple hqy
    have p := p0
    have G := GoesN.zip2 (elts := elts) (x1 := kk) (pos := tpos) S (Draws.text (prog := X.prog) (w := X.w) (A := X.A.in1) hh i1 x t) (Draws.tuple (prog := X.prog) (w := X.w) (A := X.A.in1) hh i2 a hne its.toArray)
    have hi : i = min x.cps.size its.toArray.size := by
      have hl := rv.length
      have h2 : its.toArray.size = its.length := by simp
      rw [h2, ← hl]
      exact hi
    subst hi
    obtain ⟨s1, s2, s3, s4, s5⟩ := st
    exact G.stops s (fun s1 => Inv X pins σ H s1) E ⟨s1, s2, s3, s4, s5, p⟩ fun h' tk hk _ => I.turnedL (t' := tk) (ch := [z, TI, TO, i1, i2]) (fun b o hb q => hk b o (fun m => hb (by
      rcases (show b = z ∨ b = TO ∨ b = i1 ∨ b = i2 by simpa using m) with y | y | y | y <;> simp [y])) q) hf
  self := fun A i s Q E st h => wpAny_pyIter_zip st.1 h
/-- zip(x, list), x a text, a list: each letter and item in a new pair -/
def ItzSL (K : PySem.W.Frag) (x : Str) (a : Addr) : It :=
  ⟨fun i H => i < x.cps.size ∧ ∃ (ys : List V) (y : V), SqL K H a ys ∧ ys[i]? = some y, fun i H v H' => ∃ T c y, v = .ref T ∧ H T = none ∧ H' = upd H T (.tup [.str ⟨#[c]⟩, y]) ∧ x.cps[i]? = some c ∧ ∀ ys, SqL K H a ys → ys[i]? = some y, fun i H => ∃ ys : List V, SqL K H a ys ∧ i = min x.cps.size ys.length⟩
theorem turn_zipSL {P : Program} {w : World} {K : PySem.W.Frag} {elts : List Expr} {kk : Nat} {tpos : Pos} {x : Str} {t : Tok} {a z TI TO i1 i2 : Addr} (S : ZipSep2 z TI TO i1 i2 [i1] [i2, a]) (hne : a ≠ i2) :
    Turn P w K (.Tuple elts kk tpos) (ItzSL K x a) [z, TI, TO, i1, i2] z (fun i h => IsZip h z TI TO .none ∧ IsTupOf2 h TI (.ref i1) (.ref i2) ∧ (∃ a1 a2, IsTupOf2 h TO a1 a2) ∧ h.IsStrIter i1 (strIterType x) x t i ∧ h.IsListIter i2 a i) where
  mem := by simp
  obj := fun i h st c hc => by
    obtain ⟨hz, hTI, ⟨a1, a2, hTO⟩, ⟨o1, e1, _, d1⟩, ⟨o2, e2, _, d2⟩⟩ := st
    rcases (show c = z ∨ c = TI ∨ c = TO ∨ c = i1 ∨ c = i2 by simpa using hc) with q | q | q | q | q
    · rw [q]; exact ⟨_, hz, fun v y => by cases y⟩
    · rw [q]; exact ⟨_, hTI, fun v y => by cases y⟩
    · rw [q]; exact ⟨_, hTO, fun v y => by cases y⟩
    · rw [q]; exact ⟨o1, e1, fun v y => by rw [d1] at y; cases y⟩
    · rw [q]; exact ⟨o2, e2, fun v y => by rw [d2] at y; cases y⟩
  keep := fun i h h' st k => by
    obtain ⟨hz, hTI, ⟨a1, a2, hTO⟩, ⟨o1, e1, r1⟩, h2⟩ := st
    exact ⟨k z (by simp) _ hz, k TI (by simp) _ hTI, ⟨a1, a2, k TO (by simp) _ hTO⟩, ⟨o1, k i1 (by simp) _ e1, r1⟩, h2.at fun o q => k i2 (by simp) o q⟩
  item := by
    intro X hP hw hK hc i pins s σ H E I hf st hg
    subst hP hw hK
    have hh : X.A.in1.handled = none := I.ok.hd hc
    obtain ⟨hxi, ys, y, hqy, hy⟩ := hg
    obtain ⟨its, rv, p0, _⟩ := I.list hqy
    have p := p0.isList
    obtain ⟨u, hu, ru⟩ := rv.get hy
    have G := GoesN.zip2 (elts := elts) (x1 := kk) (pos := tpos) S (Draws.text (prog := X.prog) (w := X.w) (A := X.A.in1) hh i1 x t) (Draws.list (prog := X.prog) (w := X.w) (A := X.A.in1) hh i2 a hne its.toArray)
    have alive : ∀ b ∈ [z, TI, TO, i1, i2], b < s.heap.objs.size := fun b hb => by
      obtain ⟨hz, hTI, ⟨a1, a2, hTO⟩, ⟨o1, e1, _, d1⟩, ⟨o2, e2, _, d2⟩⟩ := st
      rcases (show b = z ∨ b = TI ∨ b = TO ∨ b = i1 ∨ b = i2 by simpa using hb) with q | q | q | q | q
      · rw [q]; exact Heap.lt_size hz
      · rw [q]; exact Heap.lt_size hTI
      · rw [q]; exact Heap.lt_size hTO
      · rw [q]; exact Heap.lt_size e1
      · rw [q]; exact Heap.lt_size e2
    have hil : i < its.length := (List.getElem?_eq_some_iff.mp hu).1
    obtain ⟨s1, s2, s3, s4, s5⟩ := st
    have st' : IsZip s.heap z TI TO .none ∧ IsTupOf2 s.heap TI (.ref i1) (.ref i2) ∧ (∃ a1 a2, IsTupOf2 s.heap TO a1 a2) ∧ s.heap.IsStrIter i1 (strIterType x) x t i ∧ (s.heap.IsListIter i2 a i ∧ s.heap.IsList a its.toArray) := ⟨s1, s2, s3, s4, s5, p⟩
    refine wpAny_mono (G.goes i s (fun v s2 => ∃ w H', Inv X pins σ H' s2 ∧ RelV w v ∧ (ItzSL X.K x a).yld i H w H' ∧ (IsZip s2.heap z TI TO .none ∧ IsTupOf2 s2.heap TI (.ref i1) (.ref i2) ∧ (∃ a1 a2, IsTupOf2 s2.heap TO a1 a2) ∧ s2.heap.IsStrIter i1 (strIterType x) x t (i + 1) ∧ s2.heap.IsListIter i2 a (i + 1)) ∧ ∀ b ∈ [z, TI, TO, i1, i2], H' b = none) E (by simp; omega) st' fun v h' tk hY hst hk _ => ?_)
      (fun r s1 h1 => h1) fun _ _ q => q
    obtain ⟨T, v1, v2, rfl, hT, ⟨c, t1, hc1, rfl⟩, hv2, hTup⟩ := hY
    have ev : v2 = u := by
      have hv' : its[i]? = some v2 := by simpa using hv2
      rw [hu] at hv'
      exact (Option.some.inj hv').symm
    subst ev
    have new : ObjOk X.prog X.w (upd H T (.tup [.str ⟨#[c]⟩, y])) h' T (.tup [.str ⟨#[c]⟩, y]) :=
      ⟨by show 2 ≤ sizeLine; decide, [.str ⟨#[c]⟩ t1, v2], .cons ⟨t1, rfl⟩ (.cons ru .nil), hTup⟩
    have J := I.turnedNew (t' := tk) (ch := [z, TI, TO, i1, i2]) (fun b o hb q => hk b o (fun m => hb (by
      rcases (show b = z ∨ b = TO ∨ b = i1 ∨ b = i2 by simpa using m) with y | y | y | y <;> simp [y])) q) hf hT new
    refine ⟨.ref T, _, J, rfl, ⟨T, c, y, rfl, I.hok.fresh hT, rfl, hc1, fun zs hzs => by rw [I.list_inj hzs hqy]; exact hy⟩, ⟨hst.1, hst.2.1, hst.2.2.1, hst.2.2.2.1, hst.2.2.2.2.1⟩, fun b hb => ?_⟩
    rw [upd_ne (Nat.ne_of_lt (Nat.lt_of_lt_of_le (alive b hb) hT))]
    exact (hf b hb).1
  done := by
    intro X hP hw hK hc i pins s σ H E I hf st hg
    subst hP hw hK
    have hh : X.A.in1.handled = none := I.ok.hd hc
    obtain ⟨ys, hqy, hi⟩ := hg
    obtain ⟨its, rv, p0, _⟩ := I.list hqy
    have p := p0.isList
    have G := GoesN.zip2 (elts := elts) (x1 := kk) (pos := tpos) S (Draws.text (prog := X.prog) (w := X.w) (A := X.A.in1) hh i1 x t) (Draws.list (prog := X.prog) (w := X.w) (A := X.A.in1) hh i2 a hne its.toArray)
    have hi : i = min x.cps.size its.toArray.size := by
      have hl := rv.length
      have h2 : its.toArray.size = its.length := by simp
      rw [h2, ← hl]
      exact hi
    subst hi
    obtain ⟨s1, s2, s3, s4, s5⟩ := st
    exact G.stops s (fun s1 => Inv X pins σ H s1) E ⟨s1, s2, s3, s4, s5, p⟩ fun h' tk hk _ => I.turnedL (t' := tk) (ch := [z, TI, TO, i1, i2]) (fun b o hb q => hk b o (fun m => hb (by
      rcases (show b = z ∨ b = TO ∨ b = i1 ∨ b = i2 by simpa using m) with y | y | y | y <;> simp [y])) q) hf
  self := fun A i s Q E st h => wpAny_pyIter_zip st.1 h
def iZipSX (K : PySem.W.Frag) (ta : TA) : TI := fun σ H R => ta σ H fun vs H1 => ∃ x a ys, vs = [.str x, .ref a] ∧ ((SqT K H1 a ys ∧ R (ItzST K x a) H1) ∨ (SqL K H1 a ys ∧ R (ItzSL K x a) H1))
theorem pi_zipSX {X : Cx} {e e2 : Expr} {ta : TA} {p pos tpos : Pos} {elts : List Expr} {kk : Nat} (hg : Gl X "zip") (hm : X.mg "zip" = none) (ha : PA X [e, e2] ta)
    (hs : starEach [e, e2] X.env = (false, eval e X.env) :: starEach [e2] X.env := by rfl) (hpl : (backTo pos (starEach [e2] X.env)).any (·.1) = false := by rfl) :
    PI X (.Tuple elts kk tpos) (.Call (.Name "zip" p) [e, e2] [] pos) (iZipSX X.K ta) := ⟨fun pins s σ H R I h => by
  refine Call_ (ld_blt I hg hm PyProof.Rows.boot_zip (PyProof.Rows.callWith_type1 (thn (ha.run pos pins s σ H _ I h) fun us s1 w => ?_) hs hpl))
  obtain ⟨vs, H1, J, r, x, a, ys, rfl, q⟩ := w
  cases r with
  | cons r rr =>
    cases rr with
    | cons r' rr =>
      cases rr
      obtain ⟨t, rfl⟩ := r
      cases r'
      have fresh5 : ∀ b, b ∈ [s1.heap.objs.size + 4, s1.heap.objs.size + 2, s1.heap.objs.size + 3, s1.heap.objs.size, s1.heap.objs.size + 1] → FpOk X pins H1 b := fun b hb => by
        have le : s1.heap.objs.size ≤ b := by
          rcases (show b = s1.heap.objs.size + 4 ∨ b = s1.heap.objs.size + 2 ∨ b = s1.heap.objs.size + 3 ∨ b = s1.heap.objs.size ∨ b = s1.heap.objs.size + 1 by simpa using hb) with w | w | w | w | w
          · rw [w]; exact Nat.le_add_right _ _
          · rw [w]; exact Nat.le_add_right _ _
          · rw [w]; exact Nat.le_add_right _ _
          · rw [w]; exact Nat.le_refl _
          · rw [w]; exact Nat.le_add_right _ _
        exact J.fpOk le (J.hok.fresh le)
      rcases q with ⟨hq, q⟩ | ⟨hq, q⟩
      · obtain ⟨its, rv, p, _⟩ := J.tuple hq
        have hal : a < s1.heap.objs.size := by obtain ⟨o, e, _⟩ := p; exact Heap.lt_size e
        refine zip_begins2 (begins_text x t) (begins_tuple a its.toArray) trivial p fun h' hz hTI hTO h1 h2 hsz hk => wpAny_pyIter_zip hz ?_
        exact ⟨s1.heap.objs.size + 4, [s1.heap.objs.size + 4, s1.heap.objs.size + 2, s1.heap.objs.size + 3, s1.heap.objs.size, s1.heap.objs.size + 1], _, _, H1, rfl, J.kept (t' := s1.toks) hk,
          turn_zipST (x := x) (t := t) (zip_sep2 (fp1 := []) (fp2 := [a]) (by simp) (by simpa using hal)) (Nat.ne_of_lt (Nat.lt_succ_of_lt hal)), ⟨hz, hTI, ⟨_, _, hTO⟩, ⟨_, h1, rfl, rfl⟩, ⟨_, h2, rfl, rfl⟩⟩, fresh5, q⟩
      · obtain ⟨its, rv, p0, _⟩ := J.list hq
        have p := p0.isList
        have hal : a < s1.heap.objs.size := by obtain ⟨o, e, _⟩ := p; exact Heap.lt_size e
        refine zip_begins2 (begins_text x t) (begins_list a its.toArray) trivial p fun h' hz hTI hTO h1 h2 hsz hk => wpAny_pyIter_zip hz ?_
        exact ⟨s1.heap.objs.size + 4, [s1.heap.objs.size + 4, s1.heap.objs.size + 2, s1.heap.objs.size + 3, s1.heap.objs.size, s1.heap.objs.size + 1], _, _, H1, rfl, J.kept (t' := s1.toks) hk,
          turn_zipSL (x := x) (t := t) (zip_sep2 (fp1 := []) (fp2 := [a]) (by simp) (by simpa using hal)) (Nat.ne_of_lt (Nat.lt_succ_of_lt hal)), ⟨hz, hTI, ⟨_, _, hTO⟩, ⟨_, h1, rfl, rfl⟩, ⟨_, h2, rfl, rfl⟩⟩, fresh5, q⟩⟩
end DL

set_option maxHeartbeats 1000000
namespace DL
open PySem PySem.Spec PyProof.Rows L2
variable [TB : TabSet]
section
variable {X : Cx} {C : Cq} {W : WX} {o e a b c : Expr} {es : List Expr} {pos pos' apos cpos p : Pos} {F Fa Fb Fk Fv : EF} {G : AF} {st : Stmt}
def aZipX (G : AF) : AF := fun ρ b => (G ρ b).bind fun ds b' => match ds with
  | [.str x, .tup ys] => .ok (zipOf (signsOf x) ys) b'
  | [.str x, .lst ys] => .ok (zipOf (signsOf x) ys) b'
  | _ => .stuck
theorem zip_get {x : Str} {ds : List D} {i : Nat} {c : Nat} {e : D} (hc : x.cps[i]? = some c) (he : ds[i]? = some e) : (zipOf (signsOf x) ds)[i]? = some (.tup [.str ⟨#[c]⟩, e]) := by
  unfold zipOf signsOf
  rw [List.getElem?_zipWith, List.getElem?_map, Array.getElem?_toList, hc, he]
  rfl
theorem zip_lenX {x : Str} {ds : List D} : (zipOf (signsOf x) ds).length = min x.cps.size ds.length := by simp [zipOf, signsOf]
theorem itST {K : PySem.W.Frag} {ba : Option Addr} {S : Hp} {x : Str} {l : Addr} {ys : List V} {ds : List D} (h : S l = some (.tup ys)) (r : DRs K ba S ys ds) : ItD K ba (ItzST K x l) (zipOf (signsOf x) ds) S := fun C hC i S' ρ b σ H e ok => by
  subst hC
  have hS : SqT K H l ys := seqT (e.trans ok.core.sub) h
  refine ⟨fun d hd => ?_, fun hl => ⟨ys, hS, by rw [r.length, ← zip_lenX]; exact hl.symm⟩⟩
  have hi : i < min x.cps.size ds.length := by rw [← zip_lenX]; exact (List.getElem?_eq_some_iff.mp hd).1
  have hds : ds[i]? = some ds[i] := List.getElem?_eq_getElem (by omega)
  obtain ⟨v, hv, rv⟩ := r.get hds
  refine ⟨⟨by omega, ys, v, hS, hv⟩, fun w H' wy => ?_⟩
  obtain ⟨T, k, y, rfl, hT, rfl, hk, hy⟩ := wy
  have hy := hy ys hS
  rw [hv] at hy
  cases hy
  rw [zip_get hk hds] at hd
  cases hd
  obtain ⟨p1, p2, p3⟩ := pair_of ok hT (.str ⟨#[k]⟩) (rv.up e)
  exact ⟨_, p1, p2, p3, keep_upd hT⟩
theorem itSL {K : PySem.W.Frag} {ba : Option Addr} {S : Hp} {x : Str} {l : Addr} {ys : List V} {ds : List D} (h : SqL K S l ys) (r : DRs K ba S ys ds) : ItD K ba (ItzSL K x l) (zipOf (signsOf x) ds) S := fun C hC i S' ρ b σ H e ok => by
  subst hC
  have hS : SqL K H l ys := (e.trans ok.core.sub).seq h
  refine ⟨fun d hd => ?_, fun hl => ⟨ys, hS, by rw [r.length, ← zip_lenX]; exact hl.symm⟩⟩
  have hi : i < min x.cps.size ds.length := by rw [← zip_lenX]; exact (List.getElem?_eq_some_iff.mp hd).1
  have hds : ds[i]? = some ds[i] := List.getElem?_eq_getElem (by omega)
  obtain ⟨v, hv, rv⟩ := r.get hds
  refine ⟨⟨by omega, ys, v, hS, hv⟩, fun w H' wy => ?_⟩
  obtain ⟨T, k, y, rfl, hT, rfl, hk, hy⟩ := wy
  have hy := hy ys hS
  rw [hv] at hy
  cases hy
  rw [zip_get hk hds] at hd
  cases hd
  obtain ⟨p1, p2, p3⟩ := pair_of ok hT (.str ⟨#[k]⟩) (rv.up e)
  exact ⟨_, p1, p2, p3, keep_upd hT⟩
theorem d_izipX {elts : List Expr} {kk : Nat} {p tpos : Pos} (hg : Gl X "zip") (hm : X.mg "zip" = none) (ha : PA X [a, b] (tDA X.K C W G)) (hs : starEach [a, b] X.env = (false, eval a X.env) :: starEach [b] X.env := by rfl) (hpl : (backTo pos (starEach [b] X.env)).any (·.1) = false := by rfl) :
    PI X (.Tuple elts kk tpos) (.Call (.Name "zip" p) [a, b] [] pos) (tDI X.K C W (aZipX G)) := pi_imp (pi_zipSX hg hm ha hs hpl) fun σ H R ⟨S, ρ, b, ok, q⟩ => by
  refine ⟨S, ρ, b, ok, q.bind.imp fun ds b1 S1 H1 s1 ok1 q1 vs r => ?_⟩
  split at q1
  · cases r with
    | cons r1 r2 =>
      cases r2 with
      | cons r2 r3 =>
        cases r3; cases r1
        cases r2 with
        | tup h1 h2 => exact ⟨_, _, _, rfl, .inl ⟨seqT ok1.core.sub h1, q1 S1 H1 (Same.refl _) ok1 _ (itST h1 h2)⟩⟩
  · cases r with
    | cons r1 r2 =>
      cases r2 with
      | cons r2 r3 =>
        cases r3; cases r1
        cases r2 with
        | lst h1 h2 => exact ⟨_, _, _, rfl, .inr ⟨SqL.of (ok1.core.sub _ _ h1), q1 S1 H1 (Same.refl _) ok1 _ (itSL (SqL.of h1) h2)⟩⟩
  · exact q1.elim
def eDone (Fk Fv : EF) : EF := fun ρ b => match Fk (unown ρ) b with
  | .ok k b1 => match Fv (unown ρ) b1 with
    | .ok v b2 => match keyD k with
      | some j => .ok (.dct [j] [v]) b2
      | none => .stuck
    | _ => .stuck
  | _ => .stuck
theorem d_done (hk : ∀ C, PE X a (tD X.K C W0 Fk)) (hv : ∀ C, PE X e (tD X.K C W0 Fv)) : PE X (.Dict [some a] [e] pos) (tDF X.K C W (eDone Fk Fv)) := pe_imp (pe_disp (pps_cons (d_in3 hk) (d_in3 hv) pps_nil) rfl rfl (by simp) (by show 1 ≤ 15; decide)) fun σ H Q ⟨S, ρ, b, ok, q⟩ => by
  intro p hp
  have of := ok.fresh (u := .dK []) hp
  unfold eDone at q
  cases hF : Fk (unown ρ) b with
  | stuck => rw [hF] at q; exact q.elim
  | ex c ns ds bx => rw [hF] at q; exact q.elim
  | ok k b1 =>
    rw [hF] at q
    dsimp only at q
    cases hV : Fv (unown ρ) b1 with
    | stuck => rw [hV] at q; exact q.elim
    | ex c ns ds bx => rw [hV] at q; exact q.elim
    | ok v b2 =>
      rw [hV] at q
      dsimp only at q
      cases hj : keyD k with
      | none => rw [hj] at q; exact q.elim
      | some j =>
        rw [hj] at q
        refine ⟨inner C S (upd H p (.dK [])), S, unown ρ, b, of.ok.inner, ?_⟩
        rw [hF]
        intro S2 H2 e2 ok2 y ry
        refine ⟨inner C S (upd H p (.dK [])), S2, unown ρ, b1, ok2, ?_⟩
        rw [hV]
        intro S3 H3 e3 ok3 w rw'
        have of3 := of.frame ok3.core (e2.trans e3)
        have := key_dr ry hj
        subst this
        refine ⟨of3.at_, [(j, w)], rfl, by show 1 ≤ 15; decide, ?_⟩
        have em : mergeK [] [(j, w)] = [(j, w)] := rfl
        rw [em]
        exact q S3 _ p _ (e2.trans e3) (of3.setU (u' := .dK [(j, w)])) (.dct rfl (.cons rw' .nil))
@[simp] def eInDOw (neg : Bool) (i : Nat) (F : EF) : EF := fun ρ b => match ρ[i]? with
  | some (some (.ow (.dct ks ds))) => (F ρ b).bind fun k b1 => match keyD k with
    | some j => .ok (.bl (if neg then !(ks.any fun k => decide (k = j)) else ks.any fun k => decide (k = j))) b1
    | none => .stuck
  | _ => .stuck
theorem inDOw_of {K : PySem.W.Frag} {neg : Bool} {i : Nat} {σ : L2.St} {H : Hp} {Q : VK} (h : tD K C W (eInDOw neg i F) σ H Q) : (tD K C W F) σ H fun y H1 => (tVar i) σ H1 fun x H2 => ∃ a o, x = .ref a ∧ DGet H2 a y o ∧ Q (.bl (if neg then !o.isSome else o.isSome)) H2 := by
  obtain ⟨S, ρ, b0, ok, q⟩ := h
  unfold eInDOw at q
  split at q
  · rename_i ks ds hr
    refine ⟨S, ρ, b0, ok, q.bind.imp fun d b1 S1 H1 s1 ok1 q1 v rv => ?_⟩
    split at q1
    · rename_i j hj
      obtain ⟨pp', u', e1', hp', r', _⟩ := ok1.getOw hr
      cases r' with
      | @dct kvs _ _ g1 g2 =>
        subst g1
        refine ⟨_, e1', pp', valV kvs j, rfl, ?_, ?_⟩
        · rw [key_dr rv hj]
          exact DGet.k hp'
        · rw [look_none g2]
          exact q1 S1 H1 (Same.refl _) ok1 _ (.bl _)
    · exact q1.elim
  · exact q.elim
theorem t_ninDOw {i : Nat} {x : Str} {px : Pos} (hu : X.A.units + 1 < cLine) (ha : PE X a (tD X.K C W F)) (hx : PE X (.Name x px) (tVar i)) : PT X (.Compare a [.NotIn] [.Name x px] pos) (tDt X.K C W (bB (eInDOw true i F))) :=
  pt_imp (pt_cmp (pc_dnotin hu ha hx)) fun _ _ _ h => inDOw_of (neg := true) (tTest_of h)
@[simp] def sAug (i : Nat) (F : EF) : SF := fun ρ b => match ρ[i]? with
  | some (some (.sh (.int k))) => (F ρ b).st ρ fun d b1 => match d with
    | .int j => .nx (ρ.set i (some (.sh (.int (k + j))))) b1
    | _ => .stuck
  | _ => .stuck
theorem d_aug {i : Nat} (h : PS X st (tAug i (tD X.K C W F) (ipI fun i j => i + j))) : PS X st (tDS X.K C W (sAug i F)) := ps_imp h fun E σ H ⟨S, ρ, b, ok, q⟩ => by
  unfold sAug at q
  split at q
  · rename_i k hr
    obtain ⟨v, hv, rv⟩ := ok.get hr
    cases rv
    refine ⟨_, hv, S, ρ, b, ok, q.st.imp fun d b1 S1 H1 s1 ok1 q1 w rw' => ?_⟩
    split at q1
    · cases rw'
      exact ⟨_, _, rfl, rfl, q1 S1 _ H1 (Same.refl _) (ok1.setSh (.int _))⟩
    · exact q1.elim
  · exact q.elim
@[simp] def eLstD (F : EF) : EF := fun ρ b => (F ρ b).bind fun d b1 => match d with
  | .dct ks _ => .ok (.lst (ks.map fun k => match k with | .inl i => .int i | .inr x => .str x)) b1
  | _ => .stuck
theorem keys_dr {K : PySem.W.Frag} {ba : Option Addr} {S : Hp} : ∀ (kvs : List (Key × V)), DRs K ba S (kvs.map fun kv => kV kv.1) ((kvs.map (·.1)).map fun k => match k with | .inl i => .int i | .inr x => .str x)
  | [] => .nil
  | (k, v) :: kvs => by
    cases k with
    | inl i => exact .cons (.int i) (keys_dr kvs)
    | inr x => exact .cons (.str x) (keys_dr kvs)
theorem d_lstD (hc : X.calm = true) (hg : Gl X "list") (hm : X.mg "list" = none) (ha : PE X a (tD X.K C W F)) (he : starEach [a] X.env = (false, eval a X.env) :: starEach [] X.env := by rfl) (hpl : (backTo pos (starEach [] X.env)).any (·.1) = false := by rfl) :
    PE X (.Call (.Name "list" p) [a] [] pos) (tDF X.K C W (eLstD F)) := pe_imp (pe_callTy (call_listD hc) hg hm (by decide +kernel) (pa_cons ha pa_nil he) (by decide) (by decide) he hpl) fun σ H Q ⟨S, ρ, b, ok, q⟩ => by
  refine ⟨S, ρ, b, ok, ?_⟩
  unfold eLstD at q
  cases hF : F ρ b with
  | stuck => rw [hF] at q; exact q.elim
  | ex c ns ds bx => rw [hF] at q; exact q
  | ok d b1 =>
    rw [hF] at q
    intro S1 H1 e1 ok1 v r
    cases d with
    | dct ks ds =>
      have q : ∀ S' H' p u, Same S S' → OkF X.K C S' ρ b1 σ H' p u → ODR X.K C.ba S' u (.lst (ks.map fun k => match k with | .inl i => .int i | .inr x => .str x)) → Q (.ref p) H' := q
      cases r with
      | @dct l od kvs _ _ h1 g1 g2 =>
        subst g1
        exact ⟨_, kvs, rfl, .inr ⟨od, ok1.core.sub _ _ h1⟩, fun p hp => q S1 _ p _ e1 (ok1.fresh hp) (.lst (keys_dr kvs))⟩
    | _ => exact q.elim
end
end DL

set_option maxHeartbeats 1000000
namespace DL
open PySem PySem.Spec PyProof.Rows L2
variable [TB : TabSet]
theorem isN2_op {K : PySem.W.Frag} {C : Cq} : Op2 K C (fun x y H Q => y = .non ∧ Q (.bl (decide (x = .non))) H) isN2 := by
  intro S ρ b σ H v w d e z Q ok r1 r2 hz q
  unfold isN2 at hz
  split at hz
  · have := isN_dr r1 hz
    subst this
    cases r2
    exact ⟨rfl, q _ S H (Same.refl _) ok (.bl _)⟩
  · cases hz
@[simp] def ninF : D → D → Option D
  | .str x, .str z => match x.cps.toList with
    | [c] => some (.bl (!decide (c ∈ z.cps.toList)))
    | _ => none
  | _, _ => none
section
variable {X : Cx} {C : Cq} {W : WX} {a b : Expr} {pos : Pos} {Fa Fb : EF}
theorem d_isn (ha : PE X a (tD X.K C W Fa)) (hb : PE X b (tD X.K C W Fb)) : PE X (.Compare a [.Is] [b] pos) (tD X.K C W (e2 isN2 Fa Fb)) := d_cmp op_isN isN2_op ha hb (nomark _)
theorem t_isn (ha : PE X a (tD X.K C W Fa)) (hb : PE X b (tD X.K C W Fb)) : PT X (.Compare a [.Is] [b] pos) (tDt X.K C W (bB (e2 isN2 Fa Fb))) := d_tcmp op_isN isN2_op ha hb (nomark _)
end
def reprN : List D → Option D
  | [.non] => some (.str "None")
  | [.bl b] => some (.str (if b then "True" else "False"))
  | ds => reprF ds
def rReprN (K : PySem.W.Frag) : List V → Hp → VK → Prop := fun vs H Q => rRepr K vs H Q ∨ (vs = [.non] ∧ Q (.str "None") H) ∨ ∃ b : Bool, vs = [.bl b] ∧ Q (.str (if b then "True" else "False")) H
theorem cr_reprN {X : Cx} (hg : X.A.guards = some []) (hu : X.A.units + 64 < cLine) : CallR X (.builtin "repr") (rReprN X.K) := by
  intro pins s σ H xs us Q I r h
  rcases h with h | ⟨rfl, q⟩ | ⟨k, rfl, q⟩
  · exact cr_repr hg hu pins s σ H xs us Q I r h
  · cases r with
    | cons r1 r2 =>
      cases r2
      have e := r1
      cases e
      exact PySem.P.repr_of_none ⟨.str _, H, I.tok _, ⟨_, rfl⟩, q⟩
  · cases r with
    | cons r1 r2 =>
      cases r2
      have e := r1
      cases e
      exact PySem.P.repr_of_bool ⟨.str _, H, I.tok _, ⟨_, by cases k <;> rfl⟩, q⟩
theorem c_reprN {K : PySem.W.Frag} {C : Cq} : CallD K C (rReprN K) reprN := by
  intro S ρ b σ H vs ds z Q ok rs hz q
  unfold reprN at hz
  split at hz
  · cases hz
    cases rs with
    | cons r1 r2 => cases r2; cases r1; exact .inr (.inl ⟨rfl, q _ S H (Same.refl _) ok (.str _)⟩)
  · cases hz
    cases rs with
    | cons r1 r2 => cases r2; cases r1; exact .inr (.inr ⟨_, rfl, q _ S H (Same.refl _) ok (.str _)⟩)
  · exact .inl (c_repr S ρ b σ H vs ds z Q ok rs hz q)
end DL

set_option maxHeartbeats 1000000
namespace DL
open PySem PySem.Spec PyProof.Rows L2
variable [TB : TabSet]
@[simp] def putP : D → D → Option D
  | .dct ks ds, .tup [k, e] => match keyD k with
    | some j => some (putD ks ds j e)
    | none => none
  | _, _ => none
@[simp] def dictP : D → List D → Option D
  | acc, [] => some acc
  | acc, d :: ds => match putP acc d with
    | some a => dictP a ds
    | none => none
@[simp] def eDictP (F : EF) : EF := fun ρ b => (F ρ b).bind fun d b1 => match d with
  | .lst ds => (match dictP (.dct [] []) ds with
    | some z => .ok z b1
    | none => .stuck)
  | _ => .stuck
section
variable {X : Cx} {C : Cq} {W : WX} {a : Expr} {pos p : Pos} {F : EF}
/-- two lists one behind the other, as a fresh list -/
@[simp] def eCat (Fa Fb : EF) : EF := fun ρ b => (Fa ρ b).bind fun x b1 => (Fb ρ b1).bind fun y b2 => match x, y with
  | .lst xs, .lst ys => if xs.length + ys.length ≤ 100000 then .ok (.lst (xs ++ ys)) b2 else .stuck
  | _, _ => .stuck
@[simp] def listOf : D → Option (List D)
  | .str x => if x.length ≤ 100000 then some (signsOf x) else none
  | d => seqD d
@[simp] def eListS (F : EF) : EF := fun ρ b => (F ρ b).bind fun d b1 => match listOf d with
  | some ds => .ok (.lst ds) b1
  | none => .stuck
end
end DL

set_option maxHeartbeats 1000000
namespace DL
open PySem PySem.Spec PyProof.Rows L2 RZ
variable [TB : TabSet]
@[simp] def inA (d e : D) : Option D := match e with
  | .str z => inF d (.str z)
  | e => inQ d e
@[simp] def ninA (d e : D) : Option D := match e with
  | .str z => ninF d (.str z)
  | e => ninQ d e
section
variable {X : Cx} {C : Cq} {W : WX} {a b c e o : Expr} {pos p apos cpos : Pos} {Fa Fb Fc F Fo Fk Fd : EF} {G : AF} {st : Stmt}
def eNever : EF := fun _ _ => .stuck
theorem d_enever : PE X e (tD X.K C W eNever) := ⟨fun pins s σ H Q I ⟨S, ρ, b, ok, q⟩ => q.elim⟩
theorem look_no {K : PySem.W.Frag} {ba : Option Addr} {S : Hp} : ∀ {kvs : List (Key × V)} {ds : List D} {j : Key}, DRs K ba S (kvs.map (·.2)) ds → lookK (kvs.map (·.1)) ds j = none → valV kvs j = none
  | [], _, _, _, _ => by simp [valV]
  | p :: kvs, [], _, r, _ => by cases r
  | p :: kvs, e :: ds, j, r, h => by
    cases r with
    | cons r1 r2 =>
      unfold lookK at h
      rw [List.map_cons] at h
      by_cases hk : p.1 = j
      · simp only [hk, if_true, reduceCtorEq] at h
      · simp only [hk, if_false] at h
        rw [valV_neg hk]
        exact look_no r2 h
@[simp] def eGet (Fo Fk Fd : EF) : EF := fun ρ b => (Fo ρ b).bind fun d b1 => match d with
  | .dct ks ds => (Fk ρ b1).bind fun k b2 => (Fd ρ b2).bind fun z b3 => match keyD k with
    | some j => .ok ((lookK ks ds j).getD z) b3
    | none => .stuck
  | _ => .stuck
theorem d_get2 (hu : X.A.units + 1 < cLine) (ho : PE X o (tD X.K C W Fo)) (ha : PE X a (tD X.K C W Fk)) (hb : PE X b (tD X.K C W Fd)) (m : M2 X o "get" apos a b cpos) : PE X (.Call (.Attribute o "get" apos) [a, b] [] cpos) (tD X.K C W (eGet Fo Fk Fd)) := pe_imp (pe_dget2 hu ho ha hb m) fun σ H Q ⟨S, ρ, b0, ok, q⟩ => by
  refine ⟨S, ρ, b0, ok, q.bind.imp fun d b1 S1 H1 s1 ok1 q1 v rv => ?_⟩
  split at q1
  · rename_i ks ds
    cases rv with
    | @dct l od kvs _ _ h1 g1 g2 =>
      subst g1
      refine ⟨_, rfl, .inl ⟨kvs, .inr ⟨od, ok1.core.sub _ _ h1⟩⟩, S1, ρ, b1, ok1, q1.bind.imp fun k b2 S2 H2 s2 ok2 q2 w rw' => ⟨S2, ρ, b2, ok2, q2.bind.imp fun z b3 S3 H3 s3 ok3 q3 y ry => ?_⟩⟩
      split at q3
      · rename_i j hj
        refine ⟨valV kvs j, .inl ⟨kvs, j, .inr ⟨od, ok3.core.sub _ _ (s3 _ _ (s2 _ _ h1))⟩, key_dr rw' hj, rfl⟩, ?_⟩
        cases hl : lookK (kvs.map (·.1)) ds j with
        | none =>
          rw [look_no g2 hl]
          rw [hl] at q3
          exact q3 S3 H3 (Same.refl _) ok3 y ry
        | some e =>
          obtain ⟨u, hv, ru⟩ := look_dr g2 hl
          rw [hv]
          rw [hl] at q3
          exact q3 S3 H3 (Same.refl _) ok3 u ((ru.up s2).up s3)
      · exact q3.elim
  · exact q1.elim
def unK : Key → D
  | .inl i => .int i
  | .inr x => .str x
end
end DL

set_option maxHeartbeats 1000000

set_option maxHeartbeats 1000000

set_option maxHeartbeats 1000000
namespace DL
open PySem PySem.Spec PyProof.Rows L2
variable [TB : TabSet]
section
variable {X : Cx} {C : Cq} {W : WX} {a b c e o : Expr} {es : List Expr} {pos p apos cpos pos' p2 : Pos} {Fa Fb Fc F Fo Fk Fv : EF} {G : AF} {st : Stmt}
@[simp] def e1o (f : D → Option D) (F : EF) : EF := fun ρ b => (F ρ b).bind fun d b' => Out.pureO (f d) b'
@[simp] def eTupRg (F : EF) : EF := fun ρ b => (F ρ b).bind fun d b1 => match d with
  | .int n => if 0 ≤ n ∧ n ≤ 100000 then .ok (.tup (rangeOf n)) b1 else .stuck
  | _ => .stuck
def rangeOf2 (i j : Int) : List D := (List.range (j - i).toNat).map fun (k : Nat) => D.int (i + (k : Int))
end
end DL

set_option maxHeartbeats 1000000

set_option maxHeartbeats 1000000
namespace DL
open PySem PySem.Spec PyProof.Rows L2
variable [TB : TabSet]
section
variable {X : Cx} {C : Cq} {W : WX} {a : Expr} {pos : Pos} {G : AF}
theorem hu65 {k : Nat} {A : Around} (r : Room k A) : A.units + 65 < cLine := by have := r.un; omega
/-- the first place of an item of data -/
def ldxF (xs : List D) : List D → Option D
  | [d] => match pds xs, d.pd with
    | some ps, some p => if SeqAt.shaped (.list ps) = true ∧ SeqAt.shaped p = true then (ps.findIdx? (fun z => PyData.eqv z p)).map fun j => .int (j : Nat) else none
    | _, _ => none
  | _ => none
theorem m_ldx {K : PySem.W.Frag} : MtDL K C (rIndexD K) ldxF := by
  intro S ρ b σ H a ys vs ds es z Q ok h1 h2 h3 hz q
  unfold ldxF at hz
  split at hz
  · split at hz
    · rename_i ps p hps hp
      split at hz
      · rename_i hsh
        simp only [Option.map_eq_some_iff] at hz
        obtain ⟨j, hj, rfl⟩ := hz
        cases h3 with
        | cons r1 r2 =>
          cases r2
          rw [List.findIdx?_eq_some_iff_getElem] at hj
          obtain ⟨hl, hj1, hj2⟩ := hj
          refine ⟨a, _, p, ps, j, ps[j], rfl, rfl, .lst h1 (DRs.dp ok.core.sub ds ys ps h2 hps), DR.dp ok.core.sub _ _ p r1 hp, hsh.1, hsh.2, List.getElem?_eq_getElem hl, hj1, fun m z' hm hz' => ?_, q _ S H (Same.refl _) ok (.int _)⟩
          obtain ⟨hl2, rfl⟩ := List.getElem?_eq_some_iff.mp hz'
          simpa using hj2 m hm
      · cases hz
    · cases hz
  · cases hz
/-- enumerate of a list -/
def aEnumL (G : AF) : AF := fun ρ b => (G ρ b).bind fun ds b' => match ds with
  | [.lst ds] => .ok (enumOf ds) b'
  | _ => .stuck
theorem itEL {K : PySem.W.Frag} {ba : Option Addr} {S : Hp} {a : Addr} {xs : List V} {ds : List D} (h : SqL K S a xs) (r : DRs K ba S xs ds) : ItD K ba (Ite K a) (enumOf ds) S := fun C hC i S' ρ b σ H e ok => by
  subst hC
  have hS : SqL K H a xs := (e.trans ok.core.sub).seq h
  have hl : (enumOf ds).length = ds.length := by simp [enumOf]
  refine ⟨fun d hd => ?_, fun hl' => ⟨xs, hS, by rw [r.length, ← hl]; omega⟩⟩
  have hi : i < ds.length := by rw [← hl]; exact (List.getElem?_eq_some_iff.mp hd).1
  have hdi : ds[i]? = some ds[i] := List.getElem?_eq_getElem hi
  obtain ⟨v, hv, rv⟩ := r.get hdi
  refine ⟨⟨xs, v, hS, hv⟩, fun x H' y => ?_⟩
  obtain ⟨T, x0, rfl, hT, rfl, y⟩ := y
  have hx := y xs hS
  rw [hv] at hx
  cases hx
  have hd' : (enumOf ds)[i]? = some (.tup [.int (i : Nat), ds[i]]) := by
    unfold enumOf
    rw [List.getElem?_zipWith, hdi, List.getElem?_range hi]
  rw [hd] at hd'
  cases hd'
  obtain ⟨p1, p2, p3⟩ := pair_of ok hT (.int (i : Nat)) (rv.up e)
  exact ⟨_, p1, p2, p3, keep_upd hT⟩
theorem d_ienumL {elts : List Expr} {kk : Nat} {p tpos : Pos} (hg : Gl X "enumerate") (hm : X.mg "enumerate" = none) (ha : PA X [a] (tDA X.K C W G)) (hs : starEach [a] X.env = [(false, eval a X.env)] := by rfl) :
    PI X (.Tuple elts kk tpos) (.Call (.Name "enumerate" p) [a] [] pos) (tDI X.K C W (aEnumL G)) := pi_imp (pi_enum hg hm ha hs) fun σ H R ⟨S, ρ, b, ok, q⟩ => by
  refine ⟨S, ρ, b, ok, q.bind.imp fun ds b1 S1 H1 s1 ok1 q1 vs r => ?_⟩
  split at q1
  · cases r with
    | cons r1 r2 =>
      cases r2
      cases r1 with
      | lst h1 h2 => exact ⟨_, _, rfl, SqL.of (ok1.core.sub _ _ h1), q1 S1 H1 (Same.refl _) ok1 _ (itEL (SqL.of h1) h2)⟩
  · exact q1.elim
end
end DL

set_option maxHeartbeats 1000000
namespace DL
open PySem PySem.Spec PyProof.Rows L2
variable [TB : TabSet]
section
variable {X : Cx} {C : Cq} {W : WX} {k : Nat} {A f : Addr} {fd : FuncData} {ps : List Str} {a b : Expr} {pos p : Pos} {Fa Fb : EF} {Fn : DFn}
@[simp] def eEqO (A : Addr) (Fn : DFn) (Fa Fb : EF) : EF := fun ρ b => (Fa ρ b).bind fun x b1 => (Fb ρ b1).bind fun y b2 => match x, y with
  | .ins A1 ns es, .ins A2 ns2 es2 => if A1 = A ∧ A2 = A then (match Fn [.ins A1 ns es, .ins A2 ns2 es2] b2 with
    | .ok (.bl t) b3 => .ok (.bl t) b3
    | _ => .stuck) else .stuck
  | _, _ => .stuck
end
end DL

set_option maxHeartbeats 4000000

set_option maxHeartbeats 1000000
namespace DL
open PySem PySem.Spec PyProof.Rows L2
variable [TB : TabSet]
open SrtO (lexT Swo Stb Srtd)
def insT (p : Str × Int) : List (Str × Int) → List (Str × Int)
  | [] => [p]
  | q :: l => if lexT q p = true then q :: insT p l else p :: q :: l
def srtT : List (Str × Int) → List (Str × Int)
  | [] => []
  | p :: l => insT p (srtT l)
def tupT (p : Str × Int) : D := .tup [.str p.1, .int p.2]
def keysT : List D → Option (List (Str × Int))
  | [] => some []
  | .tup [.str x, .int i] :: ds => (keysT ds).map ((x, i) :: ·)
  | _ => none
@[simp] theorem keysT_map : ∀ l : List (Str × Int), keysT (l.map tupT) = some l
  | [] => rfl
  | p :: l => by
    rw [List.map_cons]
    unfold tupT
    rw [keysT]
    have := keysT_map l
    unfold tupT at this
    rw [this]
    rfl
/-- sorted(xs) -/
@[simp] def eSrt (F : EF) : EF := fun ρ b => (F ρ b).bind fun d b1 => match d with
  | .lst ds => (match keysT ds with
    | some l => .ok (.lst ((srtT l).map tupT)) b1
    | none => .stuck)
  | _ => .stuck
end DL

set_option maxHeartbeats 1000000
namespace DL
open PySem PySem.Spec PyProof.Rows L2
variable [TB : TabSet]
section
variable {X : Cx} {C : Cq} {W : WX} {pos : Pos}
/-- a, b, .. = a tuple or a list -/
@[simp] def gTL (n : Nat) (gs : GsF) : GF := fun d ρ b => match d with
  | .tup ds => if ds.length = n then gs ds ρ b else none
  | .lst ds => if ds.length = n then gs ds ρ b else none
  | _ => none
end
end DL

set_option maxHeartbeats 2000000
namespace DL
open PySem PySem.Spec PyProof.Rows L2
variable [TB : TabSet]
section
variable {X : Cx} {C : Cq} {W : WX} {e a : Expr} {pos apos cpos p : Pos} {F : EF} {te : TE}
def tListVals (te : TE) : TE := fun σ H Q => te σ H fun x H1 => ∃ (d : Addr) (od : Obj) (kvs : List (Key × V)), x = .ref d ∧ H1 d = some (.frz od (.dK kvs)) ∧ ∀ q, H1 q = none → Q (.ref q) (upd H1 q (.lst (kvs.map (·.2))))
theorem pe_listVals (hc : X.calm = true) (he : PE X e te) (hg : Gl X "list") (hm : X.mg "list" = none) (hv : bootBuiltins "list" = some (.type "list")) (hbase : attributeBase e "values" X.env (eval e X.env) = eval e X.env := by rfl) (hline : (apos.endLine == cpos.line) = true := by rfl)
    (hs : starEach [.Call (.Attribute e "values" apos) [] [] cpos] X.env = (false, eval (.Call (.Attribute e "values" apos) [] [] cpos) X.env) :: starEach [] X.env := by rfl) :
    PE X (.Call (.Name "list" p) [.Call (.Attribute e "values" apos) [] [] cpos] [] pos) (tListVals te) := by
  refine ⟨fun pins s σ H Q I hq => ?_⟩
  refine wpAny_Call_Name_kw (ld_blt I hg hm hv ?_)
  refine PyProof.Rows.callWith_type1 ?_ hs rfl
  rw [hs]
  show wpAny _ _ (spliced ((false, eval (.Call (.Attribute e "values" apos) [] [] cpos) X.env) :: backTo pos (starEach [] X.env))) _ _ s
  refine Calls.spliced_cons ?_
  refine wpAny_Call_method (T := "dict") (id := "dict.values") hbase rfl hline F.plainAttrs_dict F.slot_dict_values F.type_dict_values (thn (he.run pins s σ H _ I hq) fun u s1 ⟨x, H1, I1, rx, d, od, kvs, ex, hd, q⟩ => ?_)
  subst ex
  obtain rfl : u = Value.ref d := rx
  obtain ⟨hs0, hgd, hx, es, ep, vs, hdt, hsz, kv, hat⟩ := I1.frzK hd
  have lk : kvs.length = vs.length := Paired.length kv
  have hz : kvs.length ≤ sizeLine := by
    obtain ⟨_, z, _⟩ := I1.hok d _ hd
    exact z
  have I2 : Inv X pins σ H1 { s1 with heap := s1.heap.push { cls := .type "dict_values", data := .fields #[.ref d] } } := I1.kept (t' := s1.toks) fun b ob q => Heap.get?_push_of_some _ q
  refine ⟨hat.dictOf.typeIs, hat.dictOf.mapOf.noDict, ?_⟩
  show wpAny _ _ (callWith cpos (.builtin "dict.values") [.ref d] [] []) _ X.xe s1
  refine method_meetsIn F.slot_dict_values F.entry_dict_values rfl (PySem.evalArgs_none ⟨rfl, hat.dictOf.typeIs, F.args_dict_values_1 _, _, meets_dict_values (mixKind X.prog X.w) d hs0, ⟨vs, hat.dictOf⟩, ?_⟩)
  refine Calls.spliced_nil ?_
  refine PySem.W.kdl_call (PySem.W.kdl_values (knd := mixKind X.prog X.w) (kvs := vs) (ep := ep)) (I1.ok.hd hc) ⟨⟨_, Heap.get?_push_size _ rfl, rfl, rfl⟩, hat.push _⟩ (by omega) fun h' tk acc c hk hS hacc => ?_
  refine ⟨.ref _, upd H1 _ (.lst (kvs.map (·.2))), I2.laid hk (Nat.le_refl _) (show ObjOk X.prog X.w _ _ _ (.lst (kvs.map (·.2))) from ⟨?_, acc.toList, c, ?_, ?_⟩), rfl, q _ (I2.hok.fresh (Nat.le_refl _))⟩
  · rw [List.length_map]; exact hz
  · have el : acc.toList.length = acc.size := by simp
    refine vals_of_at (by rw [List.length_map, el, hacc.1, lk]) fun j x w h1 h2 => ?_
    obtain ⟨k, hky⟩ := hacc.2 j w (by rw [← Array.getElem?_toList]; exact h2)
    rw [List.getElem?_map, Option.map_eq_some_iff] at h1
    obtain ⟨pq, h3, rfl⟩ := h1
    obtain ⟨y, h4, h5, h6⟩ := LiI.paired_get kv h3
    rw [hky] at h4
    cases h4
    exact h6
  · rw [Array.toArray_toList]; exact hS
def eVals (F : EF) : EF := fun ρ b => (F ρ b).bind fun d b1 => match d with
  | .dct _ ds => .ok (.lst ds) b1
  | _ => .stuck
theorem d_listV (hc : X.calm = true) (he : PE X e (tD X.K C W F)) (hg : Gl X "list") (hm : X.mg "list" = none) (hbase : attributeBase e "values" X.env (eval e X.env) = eval e X.env := by rfl) (hline : (apos.endLine == cpos.line) = true := by rfl)
    (hs : starEach [.Call (.Attribute e "values" apos) [] [] cpos] X.env = (false, eval (.Call (.Attribute e "values" apos) [] [] cpos) X.env) :: starEach [] X.env := by rfl) :
    PE X (.Call (.Name "list" p) [.Call (.Attribute e "values" apos) [] [] cpos] [] pos) (tDF X.K C W (eVals F)) := pe_imp (pe_listVals hc he hg hm (by decide +kernel) hbase hline hs) fun σ H Q ⟨S, ρ, b, ok, q⟩ => by
  refine ⟨S, ρ, b, ok, ?_⟩
  unfold eVals at q
  cases hF : F ρ b with
  | stuck => rw [hF] at q; exact q.elim
  | ex c ns ds bx => rw [hF] at q; exact q
  | ok d b1 =>
    rw [hF] at q
    intro S1 H1 e1 ok1 v r
    cases d with
    | dct ks ds =>
      have q : ∀ S' H' p u, Same S S' → OkF X.K C S' ρ b1 σ H' p u → ODR X.K C.ba S' u (.lst ds) → Q (.ref p) H' := q
      cases r with
      | @dct l od kvs _ _ h1 g1 g2 =>
        exact ⟨_, od, kvs, rfl, ok1.core.sub _ _ h1, fun p hp => q S1 _ p _ e1 (ok1.fresh hp) (.lst g2)⟩
    | _ => exact q.elim
end
def dcD (g : GF) (T : BF) (Fk Fv : EF) : List D → Env → D → Bag → Out D
  | [], _, acc, b => .ok acc b
  | d :: ds, ρ, acc, b => match g d ρ b with
    | none => .stuck
    | some z => ((T z.1 z.2).noex).bind fun k b1 => if k = true then ((Fk z.1 b1).noex).bind fun y b2 => ((Fv z.1 b2).noex).bind fun w b3 => match acc, keyD y with
      | .dct ks vs, some j => dcD g T Fk Fv ds ρ (putD ks vs j w) b3
      | _, _ => .stuck
      else dcD g T Fk Fv ds ρ acc b1
@[simp] def eDc (Fi : AF) (vs : List Nat) (g : GF) (T : BF) (Fk Fv : EF) : EF := fun ρ b => (Fi ρ b).bind fun ds b1 => if ds.length ≤ 100000 then dcD g T Fk Fv ds (wipeE (unown ρ) vs) (.dct [] []) b1 else .stuck
section
variable {X : Cx} {C : Cq} {W : WX} {e : Expr} {Fi : AF} {vs : List Nat} {g : TG} {f : GF} {T : BF} {Fk Fv : EF}
theorem dcD_noex : ∀ {ds : List D} {ρ : Env} {acc : D} {b : Bag} {c : Str} {ns : List Str} {es : List D} {bx : Bag}, dcD f T Fk Fv ds ρ acc b ≠ .ex c ns es bx
  | [], _, _, _, _, _, _, _, h => by cases h
  | d :: ds, ρ, acc, b, c, ns, es, bx, h => by
    unfold dcD at h
    split at h
    · cases h
    · rename_i z _
      cases hT : T z.1 z.2 with
      | ex _ _ _ => rw [hT] at h; cases h
      | stuck => rw [hT] at h; cases h
      | ok k b1 =>
        rw [hT] at h
        have h : (if k = true then ((Fk z.1 b1).noex).bind fun y b2 => ((Fv z.1 b2).noex).bind fun w b3 => (match acc, keyD y with
          | .dct ks vs, some j => dcD f T Fk Fv ds ρ (putD ks vs j w) b3
          | _, _ => .stuck) else dcD f T Fk Fv ds ρ acc b1) = Out.ex c ns es bx := h
        cases k with
        | false => rw [if_neg Bool.false_ne_true] at h; exact dcD_noex h
        | true =>
          rw [if_pos rfl] at h
          cases hF : Fk z.1 b1 with
          | ex _ _ _ => rw [hF] at h; cases h
          | stuck => rw [hF] at h; cases h
          | ok y b2 =>
            rw [hF] at h
            have h : (((Fv z.1 b2).noex).bind fun w b3 => (match acc, keyD y with
              | .dct ks vs, some j => dcD f T Fk Fv ds ρ (putD ks vs j w) b3
              | _, _ => .stuck)) = Out.ex c ns es bx := h
            cases hV : Fv z.1 b2 with
            | ex _ _ _ => rw [hV] at h; cases h
            | stuck => rw [hV] at h; cases h
            | ok w b3 =>
              rw [hV] at h
              have h : (match acc, keyD y with
                | .dct ks vs, some j => dcD f T Fk Fv ds ρ (putD ks vs j w) b3
                | _, _ => .stuck) = Out.ex c ns es bx := h
              split at h
              · exact dcD_noex h
              · cases h
theorem dc_of (hT : CTg X.K g f vs) {σ : L2.St} {H : Hp} {Q : VK} (hh : tDF X.K C W (eDc Fi vs f T Fk Fv) σ H Q) : tDc (tDI X.K C W Fi) g (tDtany X.K T) (tDany X.K Fk) (tDany X.K Fv) vs σ H Q := by
  obtain ⟨S, ρ, b, ok, q⟩ := hh
  refine ⟨S, ρ, b, ok, ?_⟩
  unfold eDc at q
  cases hF : Fi ρ b with
  | stuck => rw [hF] at q; exact q.elim
  | ex c ns ds bx => rw [hF] at q; exact q
  | ok ds b1 =>
    rw [hF] at q
    have q : OutF X.K C W S ρ σ Q (if ds.length ≤ 100000 then dcD f T Fk Fv ds (wipeE (unown ρ) vs) (.dct [] []) b1 else .stuck) := q
    by_cases hl : ds.length ≤ 100000
    · rw [if_pos hl] at q
      intro S1 H1 e1 ok1 J hJ Dd hD
      cases hL : dcD f T Fk Fv ds (wipeE (unown ρ) vs) (.dct [] []) b1 with
      | stuck => rw [hL] at q; exact q.elim
      | ex c ns es bx => exact absurd hL dcD_noex
      | ok fin b2 =>
        rw [hL] at q
        have q : ∀ S' H' p u, Same S S' → OkF X.K C S' ρ b2 σ H' p u → ODR X.K C.ba S' u fin → Q (.ref p) H' := q
        refine ⟨fun i m H => m = ds.length - i ∧ i ≤ ds.length ∧ ∃ S' b kvs acc, Same S1 S' ∧ OkF X.K C S' ρ b σ H Dd (.dK kvs) ∧ ODR X.K C.ba S' (.dK kvs) acc ∧ kvs.length ≤ i ∧ dcD f T Fk Fv (ds.drop i) (wipeE (unown ρ) vs) acc b = .ok fin b2,
          ⟨ds.length, by simp, Nat.zero_le _, S1, b1, [], .dct [] [], Same.refl _, ok1.fresh hD, .dct rfl .nil, Nat.zero_le _, by simpa using hL⟩, ?_⟩
        rintro i m H ⟨rfl, hi, S', b', kvs, acc, e', of, rx, hxl, hr⟩
        by_cases hlt : i < ds.length
        · have hd : ds[i]? = some ds[i] := List.getElem?_eq_getElem hlt
          have oks := of.ok
          obtain ⟨go, yl⟩ := (hJ C rfl i S' ρ b' σ H e' oks).1 _ hd
          rw [List.drop_eq_getElem_cons hlt] at hr
          unfold dcD at hr
          refine .inr ⟨go, fun H => i + 1 ≤ ds.length ∧ ∃ S' b kvs acc, Same S1 S' ∧ OkF X.K C S' ρ b σ H Dd (.dK kvs) ∧ ODR X.K C.ba S' (.dK kvs) acc ∧ kvs.length ≤ i + 1 ∧ dcD f T Fk Fv (ds.drop (i + 1)) (wipeE (unown ρ) vs) acc b = .ok fin b2,
            fun H' n => ⟨ds.length - (i + 1), by omega, rfl, n.1, n.2⟩, fun x H' y => ?_⟩
          have oki := (oks.inner).wipe vs
          have okw : OkS X.K (inner C S' H) S' (wipeE (unown ρ) vs) b' (wipe σ vs) H := oki
          obtain ⟨_, yl2⟩ := (hJ (inner C S' H) rfl i S' _ b' _ H e' okw).1 _ hd
          obtain ⟨S2, e2, ok2, r2, k2⟩ := yl2 x H' y
          split at hr
          · cases hr
          · rename_i z hg
            refine hT (inner C S' H) S2 _ b' _ H' x _ z.1 z.2 _ ok2 r2 hg fun σ2 hw ok3 => ⟨by rw [hw]; exact wipe_idem, ?_⟩
            obtain ⟨k, b3, hk, hr⟩ := bind_ok hr
            refine ⟨inner C S' H, S2, z.1, z.2, ok3, noex_out hk fun S4 H4 e4 ok4 => ?_⟩
            cases k with
            | false =>
              rw [if_neg Bool.false_ne_true] at hr ⊢
              have o3 := of.frame ok4.core (e2.trans e4)
              exact ⟨hlt, S4, b3, kvs, acc, (e'.trans e2).trans e4, o3, rx.up (e2.trans e4), by omega, hr⟩
            | true =>
              rw [if_pos rfl] at hr ⊢
              obtain ⟨y0, b5, hy, hrA⟩ := bind_ok hr
              clear hr
              obtain ⟨w0, b6, hw0, hr⟩ := bind_ok hrA
              clear hrA
              refine ⟨inner C S' H, S4, z.1, b3, ok4, noex_out hy fun S5 H5 e5 ok5 v5 r5 => ?_⟩
              refine ⟨inner C S' H, S5, z.1, b5, ok5, noex_out hw0 fun S6 H6 e6 ok6 v6 r6 => ?_⟩
              have e26 : Same S' S6 := ((e2.trans e4).trans e5).trans e6
              have o6 := of.frame ok6.core e26
              cases rx with
              | @dct _ ks vs2 g1 g2 =>
                cases hj : keyD y0 with
                | none =>
                  have hr : (match D.dct ks vs2, keyD y0 with
                    | .dct ks vs3, some j => dcD f T Fk Fv (ds.drop (i + 1)) (wipeE (unown ρ) vs) (putD ks vs3 j w0) b6
                    | _, _ => .stuck) = Out.ok fin b2 := hr
                  rw [hj] at hr
                  cases hr
                | some j =>
                  simp only [hj] at hr
                  subst g1
                  have ey := key_dr r5 hj
                  refine ⟨kvs, j, ey, o6.at_, small_lt (by omega), hlt, S6, b6, putK kvs j v6, _, e'.trans e26, o6.setU, put_dr (g2.up e26) r6, ?_, hr⟩
                  have := length_putK kvs j v6
                  omega
        · have e : i = ds.length := by omega
          subst e
          rw [List.drop_length] at hr
          cases hr
          exact .inl ⟨(hJ C rfl _ S' ρ _ σ H e' of.ok).2 rfl, q S' H Dd _ (e1.trans e') of rx⟩
    · rw [if_neg hl] at q
      exact q.elim
/-- name = {..} on one line, the name a local -/
theorem ps_setDc {i : Nat} {y : Str} {py : Pos} {kx vx tg iter : Expr} {ifs : List Expr} {scope : Scope} {own : List (Str × Nat)} {pos spos : Pos} {wi : TI} {g : TG} {tt : TT} {tk tv : TE} (hc : X.calm = true) (hN : X.N.Nodup) (hy : X.N[i]? = some y) (hyl : X.env.scope.names.lookup y = some .local)
    (hsw : swapsWith (.DictComp kx vx [⟨tg, iter, ifs, 0⟩] scope pos) (some (.Name y py)) spos.line X.env = pure true) (hi : PI X tg iter wi) (ok : BlkOk X.N X.env.scope scope own)
    (hg : ∀ (s : Shared) (H : Hp) (C : Addr) (cl : List (Str × Addr)) (fp : List Addr), PG (X.blk s H scope (compEnvC scope cl C X.env) fp) tg g) (ht : ∀ (s : Shared) (H : Hp) (C : Addr) (cl : List (Str × Addr)) (fp : List Addr), PTs (X.blk s H scope (compEnvC scope cl C X.env) fp) ifs tt)
    (hk : ∀ (s : Shared) (H : Hp) (C : Addr) (cl : List (Str × Addr)) (fp : List Addr), PE (X.blk s H scope (compEnvC scope cl C X.env) fp) kx tk)
    (he : ∀ (s : Shared) (H : Hp) (C : Addr) (cl : List (Str × Addr)) (fp : List Addr), PE (X.blk s H scope (compEnvC scope cl C X.env) fp) vx tv) (hs : ∀ x, foldedSetIterable iter X.env x = pure x := by intro _; rfl) :
    PS X (.Assign [.Name y py] (.DictComp kx vx [⟨tg, iter, ifs, 0⟩] scope pos) spos) (tAsg (tDc wi g tt tk tv (own.map (·.2))) (gName i)) := by
  refine ⟨fun pins s σ H D I h => ?_⟩
  rw [exec_Assign_Name_used _ _ _ _ hsw]
  refine wpAny_bind (wpAny_standAt (wpAny_bind ?_))
  show wpAny _ X.A (do let _ ← comprehension (.DictComp kx vx [⟨tg, iter, ifs, 0⟩] scope pos) scope X.env (firstIterPos [⟨tg, iter, ifs, 0⟩] pos) newDict false (eval iter X.env) (some (assign (.Name y py) X.env))) _ _ s
  have h : tDc wi g tt tk tv (own.map (·.2)) σ H (fun x H1 => gName i x σ H1 D.nx) := h
  refine wpAny_bind (thn (dc_core (Qf := fun _ s' => SP X pins D .next s') hc hN I hi ok hg ht hk he hs h fun L C s' m H' I' q hn f => ?_) fun _ s' hq => wpAny_pure (wpAny_pure hq))
  show wpAny _ _ (assign (.Name y py) X.env (.ref L)) _ _ _
  refine wpAny_assign_Name (store_ok2 (v := V.ref L) I' hN hy (.inl hyl) rfl (fun s2 I2 ⟨a, sb, ha⟩ => ?_) (.inr hyl))
  obtain ⟨f0, f1, f2, f3, f4, f5⟩ := f
  have haC : C ≠ a := by
    rcases ha with z | z
    · rw [z]; exact f1
    · exact fun e => f4 y a z e.symm
  refine ⟨m, hn.sameBut sb haC, fun h3 sb3 => ?_⟩
  exact ⟨_, H', I2.turned (t' := s2.toks) (fun b o hb e => (sb3.2 b hb).trans e) f0 f1 f3 f4 f5, q⟩
theorem sw_trueD {kx vx : Expr} {gs : List Comprehension} {scope : Scope} {pos py : Pos} {y : Str} {l : Nat} {env : PySem.Env} (hk : env.scope.kind = .function) (hy : env.scope.names.lookup y = some .local) (hl : (py.line == pos.line) = true)
    (ha : (scope.names.any fun (n, k) => n == y && (k == .local || k == .cell)) = false) : swapsWith (.DictComp kx vx gs scope pos) (some (.Name y py)) l env = pure true := by
  have ky : env.kindOf y = some .local := hy
  have hb : env.blockKind = .function := by unfold Env.blockKind; rw [hk]; rfl
  unfold swapsWith
  simp only [hb, ky, ha, Expr.pos, hl]
  rfl
theorem d_setdc {st : Stmt} {i : Nat} (hT : CTg X.K g f vs) (h : PS X st (tAsg (tDc (tDI X.K C W Fi) g (tDtany X.K T) (tDany X.K Fk) (tDany X.K Fv) vs) (gName i))) : PS X st (tAsg (tDF X.K C W (eDc Fi vs f T Fk Fv)) (gName i)) := ps_imp h fun _ _ _ hh => dc_of hT hh
end
/-- a def that is stuck is promised anything -/
theorem fng_stuck {P : Program} {w : World} {K : PySem.W.Frag} {mg : Str → Option Value} {base : Heap} {Gd : Around → Prop} {k : Nat} {f : Addr} {fd : FuncData} {ps : List Str} : FnG P w K mg base Gd k f fd ps (spD K fun _ _ => .stuck) := by
  refine ⟨fun vs H Q E h => ?_, fun A fr s H ar us vs Q E _ _ _ _ _ h => ?_⟩
  · obtain ⟨S, ba, b, ds, c, r, o⟩ := h
    exact o.elim
  · obtain ⟨S, ba, b, ds, c, r, o⟩ := h
    exact o.elim
end DL

set_option maxHeartbeats 1000000
namespace DL
open PySem PySem.Spec PyProof.Rows L2
variable [TB : TabSet]
section
variable {X : Cx} {C : Cq} {W : WX} {k : Nat} {A f : Addr} {fd : FuncData} {ps : List Str} {a b : Expr} {pos p : Pos} {Fa Fb : EF} {Fn : DFn}
@[simp] def eNeO (A : Addr) (Fn : DFn) (Fa Fb : EF) : EF := fun ρ b => (Fa ρ b).bind fun x b1 => (Fb ρ b1).bind fun y b2 => match x, y with
  | .ins A1 ns es, .ins A2 ns2 es2 => if A1 = A ∧ A2 = A then (match Fn [.ins A1 ns es, .ins A2 ns2 es2] b2 with
    | .ok (.bl t) b3 => .ok (.bl (!t)) b3
    | _ => .stuck) else .stuck
  | _, _ => .stuck
end
end DL

set_option maxHeartbeats 1000000
namespace DL
open PySem PySem.Spec PyProof.Rows L2
variable [TB : TabSet]
section
variable {X : Cx} {C : Cq} {W : WX} {pos : Pos}
/-- a, b, .. = a text -/
@[simp] def gTX (n : Nat) (gs : GsF) : GF := fun d ρ b => match d with
  | .str x => if x.length = n then gs (signsOf x) ρ b else none
  | _ => none
end
end DL

set_option maxHeartbeats 1000000
namespace DL
open PySem PySem.Spec PyProof.Rows L2
variable [TB : TabSet]
def keysD : List D → Option (List Key)
  | [] => some []
  | d :: ds => match keyD d, keysD ds with
    | some k, some ks => some (k :: ks)
    | _, _ => none
def keyT : D → Option (List Key)
  | .tup ds => keysD ds
  | _ => none
def lookT : List (List Key) → List D → List Key → Option D
  | k :: ks, d :: ds, j => if k = j then some d else lookT ks ds j
  | _, _, _ => none
def setT : List (List Key) → List D → List Key → D → List D
  | k :: ks, d :: ds, j, e => (if k = j then e else d) :: setT ks ds j e
  | _, ds, _, _ => ds
def putT (ks : List (List Key)) (ds : List D) (j : List Key) (e : D) : D := if ks.any (fun k => decide (k = j)) then .dtp ks (setT ks ds j e) else .dtp (ks ++ [j]) (ds ++ [e])
def unKs (k : List Key) : D := .tup (k.map unK)
section
variable {X : Cx} {C : Cq} {W : WX} {o e a b : Expr} {es : List Expr} {pos pos' apos cpos p : Pos} {F Fa Fb Fk Fv : EF} {G : AF} {st : Stmt}
/-- {} -/
@[simp] def eDnewT : EF := fun _ b => .ok (.dtp [] []) b
/-- x[k] = v, x owned -/
@[simp] def sDputT (i : Nat) (Fk Fv : EF) : SF := fun ρ b => match ρ[i]? with
  | some (some (.ow (.dtp ks ds))) => (Fv ρ b).st ρ fun d b1 => (Fk ρ b1).st ρ fun k b2 => match keyT k with
    | some j => if ks.length ≤ 100000 then .nx (ρ.set i (some (.ow (putT ks ds j d)))) b2 else .stuck
    | none => .stuck
  | _ => .stuck
/-- x[k], x owned -/
@[simp] def eDgTOw (i : Nat) (F : EF) : EF := fun ρ b => match ρ[i]? with
  | some (some (.ow (.dtp ks ds))) => (F ρ b).bind fun k b1 => match keyT k with
    | some j => Out.pureO (lookT ks ds j) b1
    | none => .stuck
  | _ => .stuck
/-- d[k] -/
@[simp] def eDgT (Fo F : EF) : EF := fun ρ b => (Fo ρ b).bind fun d b1 => match d with
  | .dtp ks ds => (F ρ b1).bind fun k b2 => match keyT k with
    | some j => Out.pureO (lookT ks ds j) b2
    | none => .stuck
  | _ => .stuck
end
section
variable {X : Cx} {C : Cq} {W : WX} {o e a b : Expr} {pos p : Pos} {F : EF}
@[simp] def eLstT (F : EF) : EF := fun ρ b => (F ρ b).bind fun d b1 => match d with
  | .dtp ks _ => .ok (.lst (ks.map unKs)) b1
  | _ => .stuck
/-- x owned -/
@[simp] def eLstTOw (i : Nat) : EF := fun ρ b => match ρ[i]? with
  | some (some (.ow (.dtp ks _))) => .ok (.lst (ks.map unKs)) b
  | _ => .stuck
end
end DL

set_option maxHeartbeats 1000000
namespace DL
open PySem PySem.Spec PyProof.Rows L2
variable [TB : TabSet]
section
variable {X : Cx} {CX : CXT} {k : Nat} {A f : Addr} {fd : FuncData} {ps : List Str} {sp : Sp}
theorem meetsIn_str_new {prog : Program} {w : World} (v : Value) : MeetsIn prog w (Builtin.«str.__new__» ⟨[.type "str", v], []⟩) (fun A R s => wpAny (model prog w) A.in1 (Builtin.Str.strOf v) (fun r s' => R (.ok (.ret r)) s') (fun e s' => R (.error e) s') s) := by
  refine MeetsIn.of_wp fun A R s h => ?_
  rw [str_new_tree v]
  refine wpAny_bind (wpAny_pure ?_)
  refine wpAny_bind (wpAny_of_eq isSubtype_str_str ?_)
  exact wpAny_bind (wpAny_mono h (fun r s' h' => wpAny_pure ⟨_, rfl, h'⟩) fun _ _ e => e)
def rStrO (A : Addr) (sp : Sp) : List V → Hp → VK → Prop := fun xs H Q => ∃ a dx fs, xs = [.ref a] ∧ H a = some (.ins A dx fs) ∧ sp [.ref a] H (fun v H' => ∃ x : Str, v = .str x ∧ Q (.str x) H') E0
theorem call_strO (hs : PySem.W.findIn X.K (.ref A) "__str__" = some (some (.ref f))) (hf : PySem.W.isFn X.K (.ref f) = true) (F : FnOk X.prog X.w X.K X.mg X.base CX k f fd ps sp) (hr : Room (k + 2) X.A) (hb : Binds X.K fd ps []) (hx : Passes CX X E0) : CallR X (.type "str") (rStrO A sp) := by
  intro pins s σ H xs us Q I r h
  obtain ⟨a, dx, fs, rfl, ea, q⟩ := h
  have hu : us = [Value.ref a] := by
    cases r with
    | cons r1 r2 => cases r2; cases r1; rfl
  subst hu
  obtain ⟨mA, O, _⟩ := ins_get I.hok ea
  obtain ⟨od, J, _⟩ := O.look
  have hl : ([Value.ref a] ++ []).length = ps.length := by rw [← F.len _ _ _ _ q]; rfl
  have hr2 : Room k X.A.in1.in1 := (show Room (k + 1) X.A.in1 from Room.in1 hr).in1
  refine callType_newIn PySem.F.called_str (by decide) (PySem.F.typeCall_str_1 _) (PySem.F.newCall_str_1 _) (fun obj => PySem.F.args_object_init_2 obj _) PySem.F.entry_str_new (meetsIn_str_new (.ref a)) ?_
  show wpAny _ X.A.in1.in1 (Builtin.Str.strOf (.ref a)) _ _ s
  unfold Builtin.Str.strOf
  refine wpAny_ite_false rfl ?_
  refine wpAny_bind (wpAny_cRoomFor hr2.units0 ?_)
  refine wpAny_bind (m := callSpecial? (.ref a) (Str.ofString "__str__")) (PySem.W.special_fn I.kIn J hs (beq_iff_eq.mp hf) (wpAny_call (codeAny_mono (F.run X.A.in1.in1 X.stack s H ⟨[.ref a], []⟩ ([Value.ref a] ++ []) [.ref a] _ E0 hr2 I.env0.in1.in1 (hb s [.ref a] I.kIn hl) (.cons rfl .nil) q) fun r s' hq => ?_)))
  cases r with
  | error er => exact hx pins σ H s er s' I hq
  | ok fl =>
    cases fl with
    | ret u =>
      obtain ⟨v, H', I3, rv, x, e, q3⟩ := I.after hq
      subst e
      obtain ⟨t, rfl⟩ := rv
      refine wpAny_bind (wpAny_pure ?_)
      refine wpAny_ite_false rfl ?_
      exact wpAny_pure ⟨typeIs_str _ _ _, .str x, H', I3, ⟨t, rfl⟩, q3⟩
    | next => exact False.elim hq
    | brk => exact False.elim hq
    | cont => exact False.elim hq
end
section
variable {X : Cx} {C : Cq} {W : WX} {k : Nat} {A f : Addr} {fd : FuncData} {ps : List Str} {a e : Expr} {es : List Expr} {pos p apos : Pos} {F Fa Fb : EF} {G : AF} {Fn : DFn}
/-- str(e), e an object of the class A whose __str__ is Fn -/
@[simp] def eStrO (A : Addr) (Fn : DFn) (G : AF) : EF := fun ρ b => (G ρ b).bind fun ds b1 => match ds with
  | [.ins A' ns es] => if A' = A then (match Fn [.ins A' ns es] b1 with
    | .ok (.str x) b2 => .ok (.str x) b2
    | _ => .stuck) else .stuck
  | _ => .stuck
theorem d_strO (hs : PySem.W.findIn X.K (.ref A) "__str__" = some (some (.ref f))) (hf : PySem.W.isFn X.K (.ref f) = true) (F : FnOk X.prog X.w X.K X.mg X.base (L2.CX X.prog X.w) k f fd ps (spD X.K Fn)) (hr : Room (k + 2) X.A) (hb : Binds X.K fd ps [])
    (hg : Gl X "str") (hm : X.mg "str" = none) (ha : PA X [a] (tDA X.K C W G)) (he : starEach [a] X.env = (false, eval a X.env) :: starEach [] X.env := by rfl) (hpl : (backTo pos (starEach [] X.env)).any (·.1) = false := by rfl) :
    PE X (.Call (.Name "str" p) [a] [] pos) (tD X.K C W (eStrO A Fn G)) := pe_imp (pe_callTy (call_strO hs hf F hr hb passL) hg hm (by decide +kernel) ha (by decide) (by decide) he hpl) fun σ H Q ⟨S, ρ, b, ok, q⟩ => by
  refine ⟨S, ρ, b, ok, q.bind.imp fun ds b1 S1 H1 s1 ok1 q1 vs r => ?_⟩
  split at q1
  · rename_i A' ns es
    split at q1
    · rename_i hA
      subst hA
      split at q1
      · rename_i x b2 hF
        cases r with
        | cons r1 r2 =>
          cases r2
          cases r1 with
          | ins h1 h2 h3 =>
            refine ⟨_, _, _, rfl, ok1.core.sub _ _ h1, spD_of (W := W0) ok1 (.cons (.ins h1 h2 h3) .nil) ?_⟩
            rw [hF]
            intro S3 H3 e3 ok3 v r
            cases r
            exact ⟨x, rfl, q1 S3 H3 e3 ok3 _ (.str x)⟩
      · exact q1.elim
    · exact q1.elim
  · exact q1.elim
/-- str(e), e an int or a text -/
@[simp] def strF : List D → Option D
  | [.int i] => if i.natAbs.log2 < 1920 then some (.str (toString i)) else none
  | [.str x] => some (.str x)
  | _ => none
theorem d_str1 (hg : Gl X "str") (hm : X.mg "str" = none) (ha : PA X [a] (tDA X.K C W G)) (he : starEach [a] X.env = (false, eval a X.env) :: starEach [] X.env := by rfl) (hpl : (backTo pos (starEach [] X.env)).any (·.1) = false := by rfl) :
    PE X (.Call (.Name "str" p) [a] [] pos) (tD X.K C W (eB strF G)) := pe_imp (pe_callTy (call_str_int.or SkE.call_str_str) hg hm (by decide +kernel) ha (by decide) (by decide) he hpl) fun σ H Q ⟨S, ρ, b, ok, q⟩ => by
  refine ⟨S, ρ, b, ok, q.bind.imp fun ds b1 S1 H1 s1 ok1 q1 vs r => ?_⟩
  obtain ⟨z, hz, q2⟩ := q1.pureO
  unfold strF at hz
  split at hz
  · rename_i i
    split at hz
    · rename_i hl
      cases hz
      cases r with
      | cons r1 r2 =>
        cases r2; cases r1
        exact .inl ⟨i, rfl, hl, q2 S1 H1 (Same.refl _) ok1 _ (.str _)⟩
    · cases hz
  · rename_i x
    cases hz
    cases r with
    | cons r1 r2 =>
      cases r2; cases r1
      exact .inr ⟨x, rfl, q2 S1 H1 (Same.refl _) ok1 _ (.str _)⟩
  · cases hz
/-- int(e), e a text -/
@[simp] def intTF : List D → Option D
  | [.str x] => if x.length ≤ 640 then (PySem.intText? x).map D.int else none
  | _ => none
/-- x.split(y) -/
@[simp] def splitF : Str → List D → Option D
  | x, [.str y] => if (y.length == 0) = false ∧ x.length ≤ 100000 then some (.lst ((Txt.split x y).map D.str)) else none
  | _, _ => none
/-- f"{..}{..}" of two texts or ints -/
@[simp] def fmtD : D → Option Str
  | .str x => if x.length ≤ 100000 then some x else none
  | .int i => if i.natAbs.log2 < 1920 then some (toString i) else none
  | _ => none
def eJ2 (Fa Fb : EF) : EF := fun ρ b => (Fa ρ b).bind fun d b1 => match d with
  | .str x => if x.length ≤ 100000 then (Fb ρ b1).bind fun z b2 => (match fmtD z with
    | some y => if (x ++ y).length ≤ 200000 then .ok (.str (x ++ y)) b2 else .stuck
    | none => .stuck) else .stuck
  | _ => .stuck
theorem empty_app (x : Str) : (Str.empty ++ x) = x := by
  show (⟨#[] ++ x.cps⟩ : Str) = x
  rw [Array.empty_append]
theorem d_j2 {c : Expr} {vpos : Pos} (ha : PE X a (tD X.K C W Fa)) (hb : PE X c (tD X.K C W Fb)) : PE X (.JoinedStr [a, .FormattedValue c (-1) none vpos] pos) (tD X.K C W (eJ2 Fa Fb)) := pe_imp (pe_joined (.cons ha (.cons (pe_fmt hb) .nil))) fun σ H Q ⟨S, ρ, b, ok, q⟩ => by
  refine ⟨S, ρ, b, ok, q.bind.imp fun d b1 S1 H1 s1 ok1 q1 v r => ?_⟩
  split at q1
  · rename_i x
    cases r
    split at q1
    · rename_i hx
      refine ⟨x, rfl, by rw [empty_app, sizeLine_eq]; omega, S1, ρ, b1, ok1, q1.bind.imp fun z b2 S2 H2 s2 ok2 q2 w rw' => ?_⟩
      split at q2
      · rename_i y hz
        split at q2
        · rename_i hl
          have fin : ∃ y', V.str y = V.str y' ∧ ((Str.empty ++ x) ++ y').length ≤ sizeLine ∧ tJs [] ((Str.empty ++ x) ++ y') σ H2 fun out H1 => Q (.str out) H1 := by
            refine ⟨y, rfl, by rw [empty_app, sizeLine_eq]; omega, ?_⟩
            show Q (.str ((Str.empty ++ x) ++ y)) H2
            rw [empty_app]
            exact q2 S2 H2 (Same.refl _) ok2 _ (.str _)
          unfold fmtD at hz
          split at hz
          · rename_i y0
            split at hz
            · rename_i hy
              cases hz
              cases rw'
              exact .inl ⟨_, rfl, by rw [sizeLine_eq]; omega, fin⟩
            · cases hz
          · rename_i i
            split at hz
            · rename_i hy
              cases hz
              cases rw'
              exact .inr ⟨_, rfl, hy, fin⟩
            · cases hz
          · cases hz
        · exact q2.elim
      · exact q2.elim
    · exact q1.elim
  · exact q1.elim
end
end DL

set_option maxHeartbeats 1000000
namespace DL
open PySem PySem.Spec PyProof.Rows L2
variable [TB : TabSet]
section
variable {X : Cx} {C : Cq} {W : WX} {k : Nat} {A f : Addr} {fd : FuncData} {ps : List Str} {a : Expr} {pos p : Pos} {G : AF} {Fn : DFn}
/-- bool(e), e an object of the class A whose __len__ is Fn -/
@[simp] def eBoolO (A : Addr) (Fn : DFn) (G : AF) : EF := fun ρ b => (G ρ b).bind fun ds b1 => match ds with
  | [.ins A' ns es] => if A' = A then (match Fn [.ins A' ns es] b1 with
    | .ok (.int n) b2 => if 0 ≤ n ∧ n < 2 ^ 63 then .ok (.bl (n != 0)) b2 else .stuck
    | _ => .stuck) else .stuck
  | _ => .stuck
end
end DL

set_option maxHeartbeats 2000000
namespace LzZ
open PySem PySem.Spec PyProof.Rows L2 PySem.W
def putP : Hp → List Addr → List (V × V) → Hp
  | H, a :: as, p :: ps => putP (upd H a (.tup [p.1, p.2])) as ps
  | H, _, _ => H
end LzZ
namespace DL
open PySem PySem.Spec PyProof.Rows L2
variable [TB : TabSet]
/-- list(zip(x, y)) of two tuples -/
@[simp] def zipTT : List D → Option (List D)
  | [.tup xs, .tup ys] => some (zipOf xs ys)
  | _ => none
@[simp] def eLstZ (G : AF) : EF := fun ρ b => (G ρ b).bind fun ds b1 => match zipTT ds with
  | some zs => .ok (.lst zs) b1
  | none => .stuck
end DL

set_option maxHeartbeats 2000000
namespace DL
open PySem PySem.Spec PyProof.Rows L2
variable [TB : TabSet]
@[simp] def putPT : D → D → Option D
  | .dtp ks ds, .tup [k, e] => match keyT k with
    | some j => some (putT ks ds j e)
    | none => none
  | _, _ => none
@[simp] def dictPT : D → List D → Option D
  | acc, [] => some acc
  | acc, d :: ds => match putPT acc d with
    | some a => dictPT a ds
    | none => none
@[simp] def lstPT : D → Option D
  | .lst ds => dictPT (.dtp [] []) ds
  | _ => none
end DL

set_option maxHeartbeats 2000000

set_option maxHeartbeats 1000000
namespace DL
open PySem PySem.Spec PyProof.Rows L2
variable [TB : TabSet]
def isFlat : D → Bool
  | .non => true
  | .bl _ => true
  | .int _ => true
  | .str _ => true
  | _ => false
@[simp] def eLend (i : Nat) (F : EF) : EF := fun ρ b => match ρ[i]? with
  | some (some (.ow (.lst xs))) => match F (unown (ρ.set i (some (.sh (.lst xs))))) b with
    | .ok d b' => if isFlat d then .ok d b' else .stuck
    | _ => .stuck
  | _ => .stuck
section
variable {X : Cx} {C : Cq} {W : WX} {e : Expr} {F : EF}
@[simp] def bLend (i : Nat) (T : BF) : BF := fun ρ b => match ρ[i]? with
  | some (some (.ow (.lst xs))) => match T (unown (ρ.set i (some (.sh (.lst xs))))) b with
    | .ok k b' => .ok k b'
    | _ => .stuck
  | _ => .stuck
@[simp] def rgD (b : Bag) : D → D → Out D
  | .int i, .int j => if 0 ≤ i ∧ i ≤ 100000 ∧ 0 ≤ j ∧ j ≤ 100000 then .ok (.lst (rangeOf2 i j)) b else .stuck
  | _, _ => .stuck
@[simp] def eLstRg2 (Fa Fb : EF) : EF := fun ρ b => (Fa ρ b).bind fun d b1 => (Fb ρ b1).bind fun d2 b2 => rgD b2 d d2
end
end DL

set_option maxHeartbeats 1000000
namespace DL
open PySem PySem.Spec PyProof.Rows L2
variable [TB : TabSet]
def strsV (ks : List Str) : List V := ks.map V.str
/-- the address holds a tuple of these texts, and keeps it -/
structure KTup (K : PySem.W.Frag) (a : Addr) (ks : List Str) : Prop where
  ex : ∃ o its n, K.lookup a = some o ∧ o.cls = .type "tuple" ∧ o.data = .seq its n ∧ its.size ≤ sizeLine ∧ Vals (strsV ks) its.toList
theorem KTup.sq {K : PySem.W.Frag} {a : Addr} {ks : List Str} (h : KTup K a ks) (H : Hp) : SqT K H a (strsV ks) := .inr h.ex
@[simp] def inKF (ks : List Str) : D → Option D
  | .str y => some (.bl (decide (y ∈ ks)))
  | _ => none
end DL

set_option maxHeartbeats 1000000
namespace DL
open PySem PySem.Spec PyProof.Rows L2
variable [TB : TabSet]
/-- xs.insert(i, e), xs an owned list in slot i; a place from 0 on -/
@[simp] def sIns (i : Nat) (G : AF) : SF := fun ρ b => match ρ[i]? with
  | some (some (.ow (.lst ds))) => (G ρ b).st ρ fun es b' => match es with
    | [.int k, d] => if ds.length ≤ 100000 ∧ 0 ≤ k ∧ k ≤ 100000 then .nx (ρ.set i (some (.ow (.lst (ds.take k.toNat ++ [d] ++ ds.drop k.toNat))))) b' else .stuck
    | _ => .stuck
  | _ => .stuck
end DL

set_option maxHeartbeats 1000000
namespace DL
open PySem PySem.Spec PyProof.Rows L2
variable [TB : TabSet]
@[simp] def isB2 : D → D → Option D
  | .bl a, .bl c => some (.bl (decide (a = c)))
  | _, _ => none
@[simp] def notB2 : D → D → Option D
  | .bl a, .bl c => some (.bl (!decide (a = c)))
  | _, _ => none
end DL

set_option maxHeartbeats 1000000
namespace DL
open PySem PySem.Spec PyProof.Rows L2
variable [TB : TabSet]
/-- the promise of an __init__ that stores its one argument -/
def spXi (A : Addr) (f : Str) : Sp := fun vs H Q _ => ∃ a v H1, vs = [.ref a, v] ∧ H1 a = none ∧ H = upd H1 a (exo a A none) ∧ ∀ d, H1 d = none → d ≠ a → Q .non (upd (upd H d (exd d [(f, v)])) a (exo a A (some d)))
/-- what the program's top says of the class -/
structure ExcF (K : PySem.W.Frag) (mg : Str → Option Value) (x f : Str) : Prop where
  gC : mg x = some (.ref (He.ga K x))
  T : OexC K (He.ga K x)
  iC : PySem.W.findIn K (.ref (He.ga K x)) "__init__" = some (some (.ref (He.ma K (He.ga K x) "__init__")))
  tI : PySem.W.typeIn K (.ref (He.ma K (He.ga K x) "__init__")) = some (.type "function")
  no : PySem.W.findIn K (.ref (He.ga K x)) f = some none
def HasX (P : Program) (w : World) (K : PySem.W.Frag) (mg : Str → Option Value) (base : Heap) (x f : Str) : Prop := ExcF K mg x f ∧ ∃ fd ps, FnOk P w K mg base (L2.CX P w) 1 (He.ma K (He.ga K x) "__init__") fd ps (spXi (He.ga K x) f) ∧ Binds K fd ps []
theorem fn_xi {P : Program} {w : World} {K : PySem.W.Frag} {mg : Str → Option Value} {base : Heap} {A fI : Addr} {nm qual g f : Str} {st : Stmt} {fd : FuncData} {p1 p2 p3 p4 : Pos} (Fu : Fun K nm qual st fI fd) (Sc : FnScope ["self", g] ["self", g] (defScope st)) (hb : defBody st = [.Assign [.Attribute (.Name "self" p1) f p2] (.Name g p3) p4]) (T : OexC K A) (no : PySem.W.findIn K (.ref A) f = some none)
    (hd : (g == ("__debug__" : Str)) = false) (hcd : (g == ("__classdict__" : Str)) = false) (hs : ∀ env : PySem.Env, swapsWith (.Name g p3) (some (.Attribute (.Name "self" p1) f p2)) p4.line env = pure false) : FnOk P w K mg base (L2.CX P w) 1 fI fd ["self", g] (spXi A f) := by
  obtain ⟨oc, od, kV, doc, pm, an, cdv, ct, osl, rfl, lk, hcd'⟩ := Fu.ex
  refine fn_of lk hcd' Sc (fun vs H Q E h => ?_) (fun A' outer s H vs Q E hr h => ?_)
  · obtain ⟨a, v, H1, e, _⟩ := h
    rw [e]
    rfl
  · obtain ⟨a, v, H1, e, ha, eH, q⟩ := h
    subst e
    rw [hb]
    have vis : ∀ n ∈ (["self", g] : List Str), Vis (defScope st) n := fun n hn => (Sc.par n hn).elim (fun z => .inl z) (fun z => .inr (.inl z))
    refine ⟨_, pss_one (ps_ost (f := f) (pe_var (i := 0) rfl (vis "self" (by simp))) (pe_var (i := 1) rfl (vis g (by simp)) hd hcd) (hs _)), ?_⟩
    refine ⟨v, rfl, .ref a, rfl, a, A, rfl, T, no, .inl ⟨by rw [eH, upd_same], fun dx hdx hda => ?_⟩⟩
    have h1 : H1 dx = none := by
      rw [eH, upd_ne hda] at hdx
      exact hdx
    exact q dx h1 hda
def sRaise (x f : Str) (F : EF) : SF := fun ρ b => (F ρ b).st ρ fun d b' => .ex ρ x [f] [d] b'
theorem d_raise {X : Cx} {C : Cq} {W : WX} {x f : Str} {e : Expr} {Fe : EF} {p pos pos' : Pos} (Hx : HasX X.prog X.w X.K X.mg X.base x f) (hr : Room 2 X.A) (calm : X.calm = true) (tk : Takes X W) (hg : Gl X x) (he : PE X e (tD X.K C W Fe))
    (hdb : (x == ("__debug__" : Str)) = false := by decide) (hee : starEach [e] X.env = (false, eval e X.env) :: starEach [] X.env := by rfl) : PS X (.Raise (some (.Call (.Name x p) [e] [] pos)) none pos') (tDS X.K C W (sRaise x f Fe)) := by
  obtain ⟨T, fd, ps, F1, hb⟩ := Hx
  have hpass : Passes (L2.CX X.prog X.w) X (fun _ _ _ => False) := passes_call tk fun _ _ _ _ h => h.elim
  refine ps_imp (ps_raise calm tk (pmk_oex T.T T.iC T.tI F1 hr hb .nil hpass hg T.gC (d_acons he d_anil (hs := hee)) hdb hee rfl)) fun D σ H ⟨S, ρ, b, ok, q⟩ => ?_
  refine ⟨S, ρ, b, ok, ?_⟩
  unfold sRaise at q
  cases hF : Fe ρ b with
  | stuck => rw [hF] at q; exact q.elim
  | ex c ns ds bx =>
    rw [hF] at q
    have e2 : aCons Fe aNil ρ b = .ex c ns ds bx := by simp only [aCons, hF]; rfl
    rw [e2]
    exact fun dx S' H' b' sm ok' xr hbx => q dx S' σ H' b' sm ok' xr hbx
  | ok d b1 =>
    rw [hF] at q
    have e2 : aCons Fe aNil ρ b = .ok [d] b1 := by simp only [aCons, hF]; rfl
    rw [e2]
    intro S1 H1 sm1 ok1 vs rv
    cases rv with
    | @cons v vs d' ds' r rn =>
      cases rn
      refine ⟨by simp, fun a ha => ⟨a, v, H1, rfl, ha, rfl, fun dd hd hda => ⟨rfl, dd, [(f, v)], upd_same, ?_, hd, ?_⟩⟩⟩
      · rw [upd_ne hda, upd_same]
      · have eH : upd (del (upd (upd (upd H1 a (exo a (He.ga X.K x) none)) dd (exd dd [(f, v)])) a (exo a (He.ga X.K x) (some dd))) a) dd (.xd [(f, v)]) = upd H1 dd (.xd [(f, v)]) := by
          funext c
          by_cases hc : c = dd
          · subst hc
            rw [upd_same, upd_same]
          · rw [upd_ne hc, upd_ne hc]
            by_cases hca : c = a
            · subst hca
              rw [del_same, ha]
            · rw [del_ne hca, upd_ne hca, upd_ne hc, upd_ne hca]
        rw [eH]
        have ok2 := ok1.alloc (u := .xd [(f, v)]) hd
        have hS : S1 dd = none := ok1.core.sn hd
        exact q (some dd) _ σ _ b1 (fun y z hyz => (same_upd hS) y z (sm1 y z hyz)) ok2 ⟨dd, [(f, v)], rfl, upd_same, rfl, .cons (r.up (same_upd hS)) .nil⟩ rfl
def SO.noex : SO → Bool
  | .ex _ _ _ _ _ => false
  | _ => true
end DL

set_option maxHeartbeats 1000000
namespace DL
open PySem PySem.Spec PyProof.Rows L2
variable [TB : TabSet]
theorem excO_ok {K : PySem.W.Frag} {C : Addr} (q : excO K C = true) : ∃ nm q N bs bm sn sub ab col dd k0 k1 k2 k3 k5, K.lookup C = some (excClassObj nm q C N bs bm true sn sub ab col dd k0 k1 k2 k3 k5 "ValueError.__new__") ∧ PySem.HandSPX.refsVE bm = true := by
  unfold excO at q
  split at q
  · rename_i dd cd sl ho
    split at q
    · rename_i C' bm k0 k1 k2 k3 n k5 hm hs
      simp only [Bool.and_eq_true, beq_iff_eq, Bool.not_eq_true'] at q
      obtain ⟨rfl, rfl, hdel, hdict, ht⟩ := q
      obtain ⟨nm, bs, mro, ns, qn, hd, sn, sub, ab, col, del⟩ := cd
      dsimp only at hm hdel hdict
      subst hm hdel hdict
      have hsl : sl = #[k0, k1, k2, k3, some (.builtin "ValueError.__new__"), k5] := by
        obtain ⟨l⟩ := sl
        simp only at hs
        rw [hs]
      subst hsl
      exact ⟨nm, qn, ns, bs, bm, sn, sub, ab, col, dd, k0, k1, k2, k3, k5, ho, ht⟩
    · cases q
  · cases q
theorem excB_ok {K : PySem.W.Frag} {mg : Str → Option Value} {x f : Str} (h : excB K x f = true) (hg : mg x = some (.ref (He.ga K x))) : ExcF K mg x f := by
  unfold excB at h
  simp only [Bool.and_eq_true, decide_eq_true_eq] at h
  obtain ⟨h1, h2, h3, h4, h5, h6, h7, h8⟩ := h
  exact ⟨hg, ⟨excO_ok h1, He.eqO_ok h2, h3, h4, h5⟩, He.eqO_ok h6, h7, He.eqO_ok h8⟩
end DL

set_option maxHeartbeats 1000000

set_option maxHeartbeats 2000000
namespace DL
open PySem PySem.Spec PyProof.Rows L2
def G_is_letters (M : Addr) : SF := (sSeq (sIf (bOr (bNot (bB (eB (isiF (.ty "str") (fun n => kitB n "str") (ownB M)) (aCons (eV 0) (aCons (eC (.obj (.ty "str"))) aNil))))) (bNot (bB (e3 leF leF (eC (.int 1)) (eB lenF (aCons (eV 0) aNil)) (eC (.int 3)))))) (sRet (eC (.bl false))) sNil) (sSeq (sAsg (eB allF (aCons (eLc (aAny (eV 0)) [2] (gN 2) bYes (e2 inF (eV 2) (eC (.str "abcdefghijklmnopqrstuvwxyz")))) aNil)) (gN 1)) (sRet (eAnd (eV 1) (eB allF (aCons (eLc (aZipS (aCons (eV 0) (aCons (eSl (eV 0) (oSome (eC (.int 1))) oNo) aNil))) [3, 4] (gT 2 (gsC (gN 3) (gsC (gN 4) gsN))) bYes (e2 ltF (eV 3) (eV 4))) aNil))))))
def F_is_letters (M : Addr) : DFn := runD 5 1 (G_is_letters M)
def G_is_number (M : Addr) : SF := (sRet (eAnd (eB (isiF (.ty "int") (fun n => kitB n "int") (ownB M)) (aCons (eV 0) (aCons (eC (.obj (.ty "int"))) aNil))) (eAnd (eNot (eB (isiF (.ty "bool") (fun n => kitB n "bool") (ownB M)) (aCons (eV 0) (aCons (eC (.obj (.ty "bool"))) aNil)))) (e3 leF leF (eC (.int 0)) (eV 0) (eV 1)))))
def F_is_number (M : Addr) : DFn := runD 2 2 (G_is_number M)
def G_is_state (M : Addr) : SF := (sSeq (sIf (bOr (bNot (bB (eB (isiF (.ty "tuple") (fun n => kitB n "tuple") (ownB M)) (aCons (eV 0) (aCons (eC (.obj (.ty "tuple"))) aNil))))) (bB (e2 neF (eB lenF (aCons (eV 0) aNil)) (eC (.int 2))))) (sRet (eC (.bl false))) sNil) (sSeq (sAsg (eV 0) (gT 2 (gsC (gN 3) (gsC (gN 4) gsN)))) (sSeq (sIf (bOr (bNot (bB (eCall (F_is_number M) (aCons (eV 3) (aCons (eC (.int 6)) aNil))))) (bOr (bNot (bB (eB (isiF (.ty "tuple") (fun n => kitB n "tuple") (ownB M)) (aCons (eV 4) (aCons (eC (.obj (.ty "tuple"))) aNil))))) (bB (e2 neF (eB lenF (aCons (eV 4) aNil)) (eV 1))))) (sRet (eC (.bl false))) sNil) (sRet (eB allF (aCons (eLc (aAny (eV 4)) [5] (gN 5) bYes (eCall (F_is_number M) (aCons (eV 5) (aCons (e2 subF (eV 2) (eC (.int 1))) aNil)))) aNil))))))
def F_is_state (M : Addr) : DFn := runD 6 3 (G_is_state M)
def G_first_wrong_state (M : Addr) : SF := (sSeq (sFor (aEnumT (aCons (eV 1) aNil)) (gT 2 (gsC (gN 2) (gsC (gN 3) gsN))) (sIf (bOr (bB (e2 eqF (eV 2) (eC (.int 6)))) (bNot (bB (eCall (F_is_state M) (aCons (eV 3) (aCons (eB lenF (aCons (eV 0) aNil)) (aCons (eB lenF (aCons (eV 1) aNil)) aNil))))))) (sRet (eV 2)) sNil)) (sRet (e1 negF (eC (.int 1)))))
def F_first_wrong_state (M : Addr) : DFn := runD 4 2 (G_first_wrong_state M)
def G_Machine_init (M y : Addr) : IF := (iSeq y (sIf (bNot (bB (eCall (F_is_letters M) (aCons (eV 1) aNil)))) (sRaise "InvalidLetters" "given" (eV 1)) sNil) (iSeq y (sIf (bOr (bNot (bB (eB (isiF (.ty "tuple") (fun n => kitB n "tuple") (ownB M)) (aCons (eV 2) (aCons (eC (.obj (.ty "tuple"))) aNil))))) (bB (e2 eqF (eB lenF (aCons (eV 2) aNil)) (eC (.int 0))))) (sRaise "InvalidStates" "index" (eC .non)) sNil) (iSeq y (sAsg (eCall (F_first_wrong_state M) (aCons (eV 1) (aCons (eV 2) aNil))) (gN 3)) (iSeq y (sIf (bB (e2 geF (eV 3) (eC (.int 0)))) (sRaise "InvalidStates" "index" (eV 3)) sNil) (iSt "_letters" (eV 1) (iSt "_states" (eV 2) iNil))))))
def Fx_Machine (M : Addr) : Addr → List D → Bag → IO := initF 4 3 (G_Machine_init M)
/-- what is made, for right letters and states -/
def Fm_Machine (M : Addr) : List D → Bag → IO := fun ds b => match ds with
  | [l, .tup ss] => (match F_is_letters M [l] b with
    | .ok (.bl true) b1 => if ss.length = 0 then .stuck else (match F_first_wrong_state M [l, .tup ss] b1 with
      | .ok (.int i) b2 => if 0 ≤ i then .stuck else .ok (["_letters", "_states"], [l, .tup ss]) b2
      | _ => .stuck)
    | _ => .stuck)
  | _ => .stuck
theorem isi_tup (M : Addr) (ds : List D) : isiF (.ty "tuple") (fun n => kitB n "tuple") (ownB M) [.tup ds, .obj (.ty "tuple")] = some (.bl true) := by kernel_rfl
theorem fm_ok (M y : Addr) (ds : List D) (b : Bag) : Fm_Machine M ds b = .stuck ∨ Fx_Machine M y ds b = Fm_Machine M ds b := by
  unfold Fm_Machine
  split
  · rename_i l ss
    split
    · rename_i b1 h1
      by_cases hs : ss.length = 0
      · left; rw [if_pos hs]
      · rw [if_neg hs]
        split
        · rename_i i b2 h2
          by_cases hi : 0 ≤ i
          · left; rw [if_pos hi]
          · right
            have e0 : isMe y [some (.sh (.obj (.ref y))), some (.sh l), some (.sh (.tup ss)), none] = true := by simp [isMe]
            have e1 : isMe y [some (.sh (.obj (.ref y))), some (.sh l), some (.sh (.tup ss)), some (.sh (.int i))] = true := by simp [isMe]
            rw [if_neg hi]
            unfold Fx_Machine initF G_Machine_init
            have h0 : ¬ ((ss.length : Int) = 0) := by omega
            have hn : ¬ ("_states" : Str) = "_letters" := by decide
            simp [iSeq, iSt, iNil, h1, isi_tup, h2, hi, e0, e1, hs, h0, hn]
        · left; rfl
    · left; rfl
  · left; rfl
def G_check_machine (M : Addr) : SF := (sIf (bNot (bB (eB (isiF (.ref M) kitM (ownM M)) (aCons (eV 0) (aCons (eC (.obj (.ref M))) aNil))))) (sRaise "NotAMachine" "given" (eV 0)) sNil)
def F_check_machine (M : Addr) : DFn := runD 1 1 (G_check_machine M)
def G_Machine_len_ (M : Addr) : SF := (sRet (eB lenF (aCons (e1 (fldF M "_states") (eV 0)) aNil)))
def F_Machine_len_ (M : Addr) : DFn := runD 1 1 (G_Machine_len_ M)
end DL

set_option maxHeartbeats 2000000

set_option maxHeartbeats 2000000
namespace DL
open PySem PySem.Spec PyProof.Rows L2
def G_arrows_of (M : Addr) : SF := (sRet (eLc (aAny (e1 (fldF M "_states") (eV 0))) [1] (gN 1) bYes (eIx (eV 1) (eC (.int 1)))))
def F_arrows_of (M : Addr) : DFn := runD 2 1 (G_arrows_of M)
def G_colours_of (M : Addr) : SF := (sRet (eLc (aAny (e1 (fldF M "_states") (eV 0))) [1] (gN 1) bYes (eIx (eV 1) (eC (.int 0)))))
def F_colours_of (M : Addr) : DFn := runD 2 1 (G_colours_of M)
def G_bits_ahead : SF := (sSeq (sOwn eDnew 2) (sSeq (sFor (aAny (eV 1)) (gN 3) (sDput 2 (eV 3) (eB sumF (aCons (eLc (aAny (eV 1)) [5] (gN 5) (bB (e2 inQ (eV 5) (eIx (eV 0) (eV 3)))) (e2 shlF (eC (.int 1)) (eV 5))) aNil)))) (sSeq (sFor (aAny (eV 1)) (gN 4) (sFor (aAny (eV 1)) (gN 3) (sIf (bT (e2 bandF (e2 shrF (eDgOw 2 (eV 3)) (eV 4)) (eC (.int 1)))) (sDput 2 (eV 3) (e2 borF (eDgOw 2 (eV 3)) (eDgOw 2 (eV 4)))) sNil))) (sFreeze 2 (sRet (eV 2))))))
def F_bits_ahead : DFn := runD 6 2 (G_bits_ahead)
def G_greatest_loops : SF := (sSeq (sAsg (eCall (F_bits_ahead) (aCons (eV 0) (aCons (eV 1) aNil))) (gN 2)) (sSeq (sOwn (eLst aNil) 3) (sSeq (sFor (aAny (eV 1)) (gN 4) (sSeq (sAsg (eLc (aAny (eV 1)) [6] (gN 6) (bT (e2 bandF (e2 bandF (e2 shrF (eDg (eV 2) (eV 4)) (eV 6)) (e2 shrF (eDg (eV 2) (eV 6)) (eV 4))) (eC (.int 1)))) (eV 6)) (gN 5)) (sIf (bAnd (bT (eV 5)) (bB (e2 eqF (eIx (eV 5) (eC (.int 0))) (eV 4)))) (sPush 3 (eV 5)) sNil))) (sFreeze 3 (sRet (eV 3))))))
def F_greatest_loops : DFn := runD 7 2 (G_greatest_loops)
def G_without_wrong_top : SF := (sSeq (sFor (aAny (eV 1)) (gT 2 (gsC (gN 2) (gsC (gN 3) gsN))) (sSeq (sAsg (eB maxLF (aCons (eLc (aAny (eV 0)) [5] (gN 5) bYes (eIx (eV 2) (eV 5))) aNil)) (gN 4)) (sIf (bB (e2 neF (e2 modF (eV 4) (eC (.int 2))) (eV 3))) (sRet (eLc (aAny (eV 0)) [5] (gN 5) (bB (e2 ltF (eIx (eV 2) (eV 5)) (eV 4))) (eV 5))) sNil))) (sRet (eV 0)))
def F_without_wrong_top : DFn := runD 6 2 (G_without_wrong_top)
def G_loops_as_asked : SF := (sSeq (sOwn (eLst aNil) 3) (sSeq (sOwn (eLst (aCons (eV 1) aNil)) 4) (sSeq (sWhile 100000 (bOw 4) (sSeq (sPop 4 5) (sFor (aAny (eCall (F_greatest_loops) (aCons (eV 0) (aCons (eV 5) aNil)))) (gN 6) (sSeq (sAsg (eCall (F_without_wrong_top) (aCons (eV 6) (aCons (eV 2) aNil))) (gN 7)) (sIf (bB (e2 eqF (eB lenF (aCons (eV 7) aNil)) (eB lenF (aCons (eV 6) aNil)))) (sPush 3 (eV 6)) (sPush 4 (eV 7))))))) (sFreeze 3 (sRet (eV 3))))))
def F_loops_as_asked : DFn := runD 8 3 (G_loops_as_asked)
def G_leading_to : SF := (sSeq (sAsg (eLc (aRng (aCons (eB lenF (aCons (eV 0) aNil)) aNil)) [4] (gN 4) bYes (e2 inQ (eV 4) (eV 1))) (gN 2)) (sSeq (sFor (aAny (eV 0)) (gN 3) (sAsg (eLc (aRng (aCons (eB lenF (aCons (eV 0) aNil)) aNil)) [4] (gN 4) bYes (eOr (eIx (eV 2) (eV 4)) (eB anyF (aCons (eLc (aAny (eIx (eV 0) (eV 4))) [5] (gN 5) bYes (eIx (eV 2) (eV 5))) aNil)))) (gN 2))) (sRet (eLc (aRng (aCons (eB lenF (aCons (eV 0) aNil)) aNil)) [4] (gN 4) (bB (eIx (eV 2) (eV 4))) (eV 4)))))
def F_leading_to : DFn := runD 6 2 (G_leading_to)
def G_leading_to_loops (M : Addr) : SF := (sSeq (sAsg (eCall (F_arrows_of M) (aCons (eV 0) aNil)) (gN 2)) (sSeq (sAsg (eCall (F_loops_as_asked) (aCons (eV 2) (aCons (eLstRg (eLenO M (F_Machine_len_ M) (aCons (eV 0) aNil))) (aCons (eLst (aCons (eTup (aCons (eCall (F_colours_of M) (aCons (eV 0) aNil)) (aCons (eV 1) aNil))) aNil)) aNil)))) (gN 3)) (sRet (eCall (F_leading_to) (aCons (eV 2) (aCons (eLc2 (aAny (eV 3)) [4, 5] (gN 4) (aAny (eV 4)) [5] (gN 5) (eV 5)) aNil))))))
def F_leading_to_loops (M : Addr) : DFn := runD 6 2 (G_leading_to_loops M)
def G_live (M : Addr) : SF := (sSeq (sDrop (eCall (F_check_machine M) (aCons (eV 0) aNil))) (sRet (eB tupleF (aCons (eCall (F_leading_to_loops M) (aCons (eV 0) (aCons (eC (.int 0)) aNil))) aNil))))
def F_live (M : Addr) : DFn := runD 1 1 (G_live M)
end DL

set_option maxHeartbeats 2000000
namespace DL
open PySem PySem.Spec PyProof.Rows L2
def G_sure (M : Addr) : SF := (sSeq (sDrop (eCall (F_check_machine M) (aCons (eV 0) aNil))) (sSeq (sAsg (eCall (F_leading_to_loops M) (aCons (eV 0) (aCons (eC (.int 1)) aNil))) (gN 1)) (sRet (eB tupleF (aCons (eLc (aRng (aCons (eLenO M (F_Machine_len_ M) (aCons (eV 0) aNil)) aNil)) [2] (gN 2) (bB (e2 ninQ (eV 2) (eV 1))) (eV 2)) aNil)))))
def F_sure (M : Addr) : DFn := runD 3 1 (G_sure M)
end DL

set_option maxHeartbeats 2000000
namespace DL
open PySem PySem.Spec PyProof.Rows L2
def G_dead (M : Addr) : SF := (sSeq (sAsg (eCall (F_live M) (aCons (eV 0) aNil)) (gN 1)) (sRet (eLc (aRng (aCons (eLenO M (F_Machine_len_ M) (aCons (eV 0) aNil)) aNil)) [2] (gN 2) (bB (e2 ninQ (eV 2) (eV 1))) (eV 2))))
def F_dead (M : Addr) : DFn := runD 3 1 (G_dead M)
end DL

set_option maxHeartbeats 2000000
namespace DL
open PySem PySem.Spec PyProof.Rows L2
def G_words_from : SF := (sSeq (sOwn (eDone (eV 2) (eC (.str ""))) 4) (sSeq (sOwn (eLst (aCons (eV 2) aNil)) 5) (sSeq (sAsg (eC (.int 0)) (gN 6)) (sSeq (sWhile 100000 (bB (e2 ltF (eV 6) (eLenOw 5))) (sSeq (sAsg (eIxOw 5 (eV 6)) (gN 7)) (sSeq (sAsg (eIx (eV 1) (eV 7)) (gN 8)) (sSeq (sFor (aZipX (aCons (eV 0) (aCons (eV 8) aNil))) (gT 2 (gsC (gN 9) (gsC (gN 10) gsN))) (sIf (bAnd (bB (e2 inQ (eV 10) (eV 3))) (bB (eInDOw true 4 (eV 10)))) (sSeq (sDput 4 (eV 10) (e2 addF (eDgOw 4 (eV 7)) (eV 9))) (sPush 5 (eV 10))) sNil)) (sAug 6 (eC (.int 1))))))) (sFreeze 4 (sRet (eV 4)))))))
def F_words_from : DFn := runD 11 4 (G_words_from)
def G_first_words (M : Addr) : SF := (sRet (eCall (F_words_from) (aCons (e1 (fldF M "_letters") (eV 0)) (aCons (eCall (F_arrows_of M) (aCons (eV 0) aNil)) (aCons (eC (.int 0)) (aCons (eLstRg (eLenO M (F_Machine_len_ M) (aCons (eV 0) aNil))) aNil))))))
def F_first_words (M : Addr) : DFn := runD 1 1 (G_first_words M)
def G_reached (M : Addr) : SF := (sRet (eLstD (eCall (F_first_words M) (aCons (eV 0) aNil))))
def F_reached (M : Addr) : DFn := runD 1 1 (G_reached M)
end DL

set_option maxHeartbeats 2000000
namespace DL
open PySem PySem.Spec PyProof.Rows L2
def G__law_draw : SF := (sSeq (sPar2 2 3 (aCons (eIx (eV 0) (eC (.int 1))) (aCons (e2 addF (e2 modF (eB intF (aCons (eIx (eV 0) (eC (.int 1))) aNil)) (eC (.int 40009))) (eC (.int 20021))) aNil))) (sSeq (sAsg (e2 addF (eIx (eV 0) (eC (.int 2))) (eC (.int 1))) (gBag 0 2)) (sSeq (sAsg (e2 modF (eB intF (aCons (e2 addF (e2 addF (e2 mulF (eV 2) (eV 3)) (e2 mulF (eC (.int 60013)) (eIx (eV 0) (eC (.int 2))))) (eC (.int 11))) aNil)) (eC (.int 2147483629))) (gBag 0 1)) (sSeq (sIf (bB (e2 gtF (eIx (eV 0) (eC (.int 0))) (eC (.int 0)))) (sSeq (sAsg (eB divmodF (aCons (eIx (eV 0) (eC (.int 0))) (aCons (eV 1) aNil))) (gT 2 (gsC (gBag 0 0) (gsC (gN 4) gsN)))) (sRet (eV 4))) sNil) (sRet (e2 modF (eB intF (aCons (e2 fdivF (eIx (eV 0) (eC (.int 1))) (eC (.int 89))) aNil)) (eV 1)))))))
def F__law_draw : DFn := runD 5 2 (G__law_draw)
def G__law_pick : SF := (sRet (eIx (eV 1) (eCall (F__law_draw) (aCons (eV 0) (aCons (eB lenF (aCons (eV 1) aNil)) aNil)))))
def F__law_pick : DFn := runD 2 2 (G__law_pick)
def G__law_tool : SF := (sSeq (sAsg (e2 addF (eC (.int 1)) (eCall (F__law_draw) (aCons (eV 0) (aCons (eV 2) aNil)))) (gN 4)) (sSeq (sOwn (eLst aNil) 5) (sSeq (sFor (aRng (aCons (eV 4) aNil)) (gN 6) (sSeq (sAsg (eB tupleF (aCons (eLc (aAny (eV 1)) [8] (gN 8) bYes (eCall (F__law_draw) (aCons (eV 0) (aCons (eV 4) aNil)))) aNil)) (gN 7)) (sPush 5 (eTup (aCons (eCall (F__law_draw) (aCons (eV 0) (aCons (e2 addF (eV 3) (eC (.int 1))) aNil))) (aCons (eV 7) aNil)))))) (sFreeze 5 (sRet (eLst (aCons (eV 1) (aCons (eB tupleF (aCons (eV 5) aNil)) aNil))))))))
def F__law_tool : DFn := runD 9 4 (G__law_tool)
def G__law_made (M : Addr) : SF := (sRet (eMake M (Fm_Machine M) (aCons (eIx (eV 0) (eC (.int 0))) (aCons (eIx (eV 0) (eC (.int 1))) aNil))))
def F__law_made (M : Addr) : DFn := runD 1 1 (G__law_made M)
def G_nested_loops (M : Addr) : SF := (sSeq (sAsg (eCall (F_arrows_of M) (aCons (eV 0) aNil)) (gN 3)) (sSeq (sAsg (eCall (F_colours_of M) (aCons (eV 0) aNil)) (gN 4)) (sSeq (sFor (aAny (eCall (F_loops_as_asked) (aCons (eV 3) (aCons (eCall (F_reached M) (aCons (eV 0) aNil)) (aCons (eLst (aCons (eTup (aCons (eV 4) (aCons (eV 2) aNil))) aNil)) aNil))))) (gN 5) (sFor (aAny (eCall (F_loops_as_asked) (aCons (eV 3) (aCons (eV 5) (aCons (eLst (aCons (eTup (aCons (eV 4) (aCons (eV 1) aNil))) aNil)) aNil))))) (gN 6) (sRet (eTup (aCons (eV 6) (aCons (eV 5) aNil)))))) (sRet (eC .non)))))
def F_nested_loops (M : Addr) : DFn := runD 7 3 (G_nested_loops M)
def G_does_stay (M : Addr) : SF := (sSeq (sDrop (eCall (F_check_machine M) (aCons (eV 0) aNil))) (sRet (e2 isN2 (eCall (F_nested_loops M) (aCons (eV 0) (aCons (eC (.int 1)) (aCons (eC (.int 0)) aNil)))) (eC .non))))
def F_does_stay (M : Addr) : DFn := runD 1 1 (G_does_stay M)
def G_comes_again (M : Addr) : SF := (sSeq (sDrop (eCall (F_check_machine M) (aCons (eV 0) aNil))) (sRet (e2 isN2 (eCall (F_nested_loops M) (aCons (eV 0) (aCons (eC (.int 0)) (aCons (eC (.int 1)) aNil)))) (eC .non))))
def F_comes_again (M : Addr) : DFn := runD 1 1 (G_comes_again M)
def G_check_wanted (M : Addr) : SF := (sIf (bOr (bNot (bB (eB (isiF (.ty "str") (fun n => kitB n "str") (ownB M)) (aCons (eV 0) (aCons (eC (.obj (.ty "str"))) aNil))))) (bB (e2 ninQ (eV 0) (eV 1)))) (sRaise "InvalidVerdict" "given" (eV 0)) sNil)
def F_check_wanted (M : Addr) : DFn := runD 2 2 (G_check_wanted M)
def G_top_of : SF := (sSeq (sAsg (eB maxLF (aCons (eLc (aAny (eV 1)) [3] (gN 3) bYes (eIx (eV 0) (eV 3))) aNil)) (gN 2)) (sRet (eIx (eLc (aAny (eV 1)) [3] (gN 3) (bB (e2 eqF (eIx (eV 0) (eV 3)) (eV 2))) (eV 3)) (eC (.int 0)))))
def F_top_of : DFn := runD 4 2 (G_top_of)
def G_word_round : SF := (sSeq (sAsg (eIx (eLc (aZipX (aCons (eV 0) (aCons (eIx (eV 1) (eIx (eV 3) (eC (.int 0)))) aNil))) [7, 8] (gT 2 (gsC (gN 7) (gsC (gN 8) gsN))) (bB (e2 inQ (eV 8) (eV 2))) (eTup (aCons (eV 7) (aCons (eV 8) aNil)))) (eC (.int 0))) (gT 2 (gsC (gN 4) (gsC (gN 5) gsN)))) (sSeq (sFor (aAny (eTup (aStar (eSl (eV 3) (oSome (eC (.int 1))) oNo) (aCons (eIx (eV 3) (eC (.int 0))) aNil)))) (gN 6) (sSeq (sAsg (e2 addF (eV 4) (eDg (eCall (F_words_from) (aCons (eV 0) (aCons (eV 1) (aCons (eV 5) (aCons (eV 2) aNil))))) (eV 6))) (gN 4)) (sAsg (eV 6) (gN 5)))) (sRet (eV 4))))
def F_word_round : DFn := runD 9 4 (G_word_round)
def G_turning (M : Addr) : SF := (sSeq (sDrop (eCall (F_check_machine M) (aCons (eV 0) aNil))) (sSeq (sDrop (eCall (F_check_wanted M) (aCons (eV 1) (aCons (eTup (aCons (eC (.str "again")) (aCons (eC (.str "stays")) aNil))) aNil)))) (sSeq (sAsg (eIf (bB (e2 eqF (eV 1) (eC (.str "again")))) (eCall (F_nested_loops M) (aCons (eV 0) (aCons (eC (.int 0)) (aCons (eC (.int 1)) aNil)))) (eCall (F_nested_loops M) (aCons (eV 0) (aCons (eC (.int 1)) (aCons (eC (.int 0)) aNil))))) (gN 2)) (sSeq (sIf (bB (e2 isN2 (eV 2) (eC .non))) (sRet (eC .non)) sNil) (sSeq (sAsg (eCall (F_arrows_of M) (aCons (eV 0) aNil)) (gN 3)) (sSeq (sAsg (eCall (F_colours_of M) (aCons (eV 0) aNil)) (gN 4)) (sSeq (sAsg (eIx (eIx (eV 2) (eC (.int 0))) (eC (.int 0))) (gN 5)) (sSeq (sAsg (eLc (aAny (eV 2)) [7] (gN 7) bYes (eCall (F_word_round) (aCons (e1 (fldF M "_letters") (eV 0)) (aCons (eV 3) (aCons (eV 7) (aCons (eLst (aCons (eV 5) (aCons (eCall (F_top_of) (aCons (eV 4) (aCons (eV 7) aNil))) aNil))) aNil)))))) (gN 6)) (sRet (eTup (aCons (eDg (eCall (F_first_words M) (aCons (eV 0) aNil)) (eV 5)) (aCons (eIx (eV 6) (eC (.int 0))) (aCons (eIx (eV 6) (eC (.int 1))) aNil)))))))))))))
def F_turning (M : Addr) : DFn := runD 8 2 (G_turning M)
def G__law_purse : SF := (sSeq (sIf (bB (e2 ltF (eV 1) (eB lenF (aCons (eV 0) aNil)))) (sSeq (sAsg (eIx (eV 0) (eV 1)) (gN 2)) (sSeq (sAsg (eIf (bOr (bB (e2 ltF (eV 2) (eC (.int 0)))) (bB (e2 geF (eV 2) (e2 powF (eC (.int 10)) (eC (.int 18)))))) (eB absF (aCons (eV 2) aNil)) (eC (.int 0))) (gN 3)) (sRetO (eLst (aCons (eV 3) (aCons (e2 modF (eB intF (aCons (e2 addF (e2 addF (e2 mulF (eV 2) (eC (.int 39373))) (e2 mulF (eC (.int 104723)) (eV 1))) (eC (.int 17))) aNil)) (eC (.int 2147483629))) (aCons (eC (.int 0)) aNil))))))) sNil) (sSeq (sAsg (e2 addF (e2 mulF (eC (.int 86243)) (eV 1)) (eC (.int 131))) (gN 4)) (sSeq (sFor (aAny (eSl (eV 0) oNo (oSome (eC (.int 4))))) (gN 2) (sAsg (e2 modF (eB intF (aCons (e2 addF (e2 mulF (eV 4) (eC (.int 48271))) (eV 2)) aNil)) (eC (.int 2147483587))) (gN 4))) (sRetO (eLst (aCons (eC (.int 0)) (aCons (eV 4) (aCons (eC (.int 0)) aNil))))))))
def F__law_purse : DFn := runF 5 2 (G__law_purse)
end DL

set_option maxHeartbeats 2000000
namespace DL
open PySem PySem.Spec PyProof.Rows L2
def G_is_duty (M : Addr) : SF := (sRet (eAnd (eCall (F_comes_again M) (aCons (eV 0) aNil)) (eCall (F_does_stay M) (aCons (eV 0) aNil))))
def F_is_duty (M : Addr) : DFn := runD 1 1 (G_is_duty M)
def G_has_loop (M : Addr) : SF := (sRet (e2 gtF (eB lenF (aCons (eCall (F_loops_as_asked) (aCons (eCall (F_arrows_of M) (aCons (eV 0) aNil)) (aCons (eV 1) (aCons (eLst (aCons (eTup (aCons (eCall (F_colours_of M) (aCons (eV 0) aNil)) (aCons (eV 2) aNil))) aNil)) aNil)))) aNil)) (eC (.int 0))))
def F_has_loop (M : Addr) : DFn := runD 3 3 (G_has_loop M)
def G_is_promise (M : Addr) : SF := (sSeq (sDrop (eCall (F_check_machine M) (aCons (eV 0) aNil))) (sSeq (sAsg (eCall (F_sure M) (aCons (eV 0) aNil)) (gN 1)) (sRet (eNot (eCall (F_has_loop M) (aCons (eV 0) (aCons (eLc (aAny (eCall (F_reached M) (aCons (eV 0) aNil))) [2] (gN 2) (bB (e2 ninQ (eV 2) (eV 1))) (eV 2)) (aCons (eC (.int 0)) aNil))))))))
def F_is_promise (M : Addr) : DFn := runD 3 1 (G_is_promise M)
def G_is_hope (M : Addr) : SF := (sSeq (sDrop (eCall (F_check_machine M) (aCons (eV 0) aNil))) (sSeq (sAsg (eCall (F_live M) (aCons (eV 0) aNil)) (gN 1)) (sRet (eB allF (aCons (eLc (aAny (eCall (F_reached M) (aCons (eV 0) aNil))) [2] (gN 2) bYes (e2 inQ (eV 2) (eV 1))) aNil)))))
def F_is_hope (M : Addr) : DFn := runD 3 1 (G_is_hope M)
def G_is_guard (M : Addr) : SF := (sSeq (sDrop (eCall (F_check_machine M) (aCons (eV 0) aNil))) (sSeq (sAsg (eCall (F_live M) (aCons (eV 0) aNil)) (gN 1)) (sRet (eNot (eCall (F_has_loop M) (aCons (eV 0) (aCons (eLc (aAny (eCall (F_reached M) (aCons (eV 0) aNil))) [2] (gN 2) (bB (e2 inQ (eV 2) (eV 1))) (eV 2)) (aCons (eC (.int 1)) aNil))))))))
def F_is_guard (M : Addr) : DFn := runD 3 1 (G_is_guard M)
end DL

set_option maxHeartbeats 2000000

set_option maxHeartbeats 2000000

set_option maxHeartbeats 2000000
namespace DL
open PySem PySem.Spec PyProof.Rows L2
def G_groups_of : SF := (sSeq (sAsg (eV 1) (gN 2)) (sSeq (sFor (aAny (eV 0)) (gN 3) (sSeq (sAsg (eLc (aRng (aCons (eB lenF (aCons (eV 0) aNil)) aNil)) [5] (gN 5) bYes (eTup (aCons (eIx (eV 2) (eV 5)) (aCons (eLc (aAny (eIx (eV 0) (eV 5))) [6] (gN 6) bYes (eIx (eV 2) (eV 6))) aNil)))) (gN 4)) (sAsg (eLc (aAny (eV 4)) [7] (gN 7) bYes (eML ldxF (eV 4) (aCons (eV 7) aNil))) (gN 2)))) (sRet (eV 2))))
def F_groups_of : DFn := runD 8 2 (G_groups_of)
def G_guard (M : Addr) : SF := (sSeq (sDrop (eCall (F_check_machine M) (aCons (eV 0) aNil))) (sSeq (sAsg (eCall (F_dead M) (aCons (eV 0) aNil)) (gN 1)) (sSeq (sAsg (eLc (aRng (aCons (eLenO M (F_Machine_len_ M) (aCons (eV 0) aNil)) aNil)) [7] (gN 7) bYes (eIf (bB (e2 inQ (eV 7) (eV 1))) (eC (.int 1)) (eC (.int 0)))) (gN 2)) (sSeq (sAsg (eCall (F_groups_of) (aCons (eCall (F_arrows_of M) (aCons (eV 0) aNil)) (aCons (eV 2) aNil))) (gN 3)) (sSeq (sAsg (eLc (aAny (eCall (F_arrows_of M) (aCons (eV 0) aNil))) [8] (gN 8) bYes (eLc (aAny (eV 8)) [7] (gN 7) bYes (eIx (eV 3) (eV 7)))) (gN 4)) (sSeq (sAsg (eLstD (eCall (F_words_from) (aCons (e1 (fldF M "_letters") (eV 0)) (aCons (eV 4) (aCons (eIx (eV 3) (eC (.int 0))) (aCons (eV 3) aNil)))))) (gN 5)) (sSeq (sAsg (eLc (aAny (eV 5)) [7] (gN 7) bYes (eTup (aCons (eIx (eV 2) (eV 7)) (aCons (eB tupleF (aCons (eLc (aAny (eIx (eV 4) (eV 7))) [9] (gN 9) bYes (eML lidxF (eV 5) (aCons (eV 9) aNil))) aNil)) aNil)))) (gN 6)) (sRet (eMake M (Fm_Machine M) (aCons (e1 (fldF M "_letters") (eV 0)) (aCons (eB tupleF (aCons (eV 6) aNil)) aNil)))))))))))
def F_guard (M : Addr) : DFn := runD 10 1 (G_guard M)
def G_with_colours (M : Addr) : SF := (sRet (eMake M (Fm_Machine M) (aCons (e1 (fldF M "_letters") (eV 0)) (aCons (eB tupleF (aCons (eLc (aEnumT (aCons (e1 (fldF M "_states") (eV 0)) aNil)) [2, 3] (gT 2 (gsC (gN 2) (gsC (gN 3) gsN))) bYes (eTup (aCons (eIx (eV 1) (eV 2)) (aCons (eIx (eV 3) (eC (.int 1))) aNil)))) aNil)) aNil))))
def F_with_colours (M : Addr) : DFn := runD 4 2 (G_with_colours M)
def G_hope (M : Addr) : SF := (sSeq (sDrop (eCall (F_check_machine M) (aCons (eV 0) aNil))) (sSeq (sAsg (eCall (F_dead M) (aCons (eV 0) aNil)) (gN 1)) (sRet (eCall (F_with_colours M) (aCons (eV 0) (aCons (eLc (aEnumL (aCons (eCall (F_colours_of M) (aCons (eV 0) aNil)) aNil)) [2, 3] (gT 2 (gsC (gN 2) (gsC (gN 3) gsN))) bYes (eIf (bB (e2 inQ (eV 2) (eV 1))) (eC (.int 0)) (eV 3))) aNil))))))
def F_hope (M : Addr) : DFn := runD 4 1 (G_hope M)
end DL

set_option maxHeartbeats 2000000

set_option maxHeartbeats 2000000

set_option maxHeartbeats 2000000

set_option maxHeartbeats 2000000
namespace DL
open PySem PySem.Spec PyProof.Rows L2
def G_least_colours (F_least_colours : DFn) : SF := (sSeq (sOwn (eDc (aAny (eV 2)) [3] (gN 3) bYes (eV 3) (eC (.int 0))) 4) (sSeq (sFor (aAny (eCall (F_greatest_loops) (aCons (eV 0) (aCons (eV 2) aNil)))) (gN 5) (sSeq (sAsg (eB maxLF (aCons (eLc (aAny (eV 5)) [3] (gN 3) bYes (eIx (eV 1) (eV 3))) aNil)) (gN 6)) (sSeq (sAsg (eCall (F_least_colours) (aCons (eV 0) (aCons (eV 1) (aCons (eLc (aAny (eV 5)) [3] (gN 3) (bB (e2 ltF (eIx (eV 1) (eV 3)) (eV 6))) (eV 3)) aNil)))) (gN 7)) (sSeq (sAsg (eB maxLF (aCons (eLst (aCons (eC (.int 0)) (aStar (eVals (eV 7)) aNil))) aNil)) (gN 8)) (sSeq (sAsg (e2 addF (eV 8) (e2 modF (e2 addF (eV 8) (eV 6)) (eC (.int 2)))) (gN 9)) (sFor (aAny (eV 5)) (gN 3) (sDput 4 (eV 3) (eGet (eV 7) (eV 3) (eV 9))))))))) (sFreeze 4 (sRet (eV 4)))))
def F_least_colours_n : Nat → DFn
  | 0 => fun _ _ => .stuck
  | n + 1 => runD 10 3 (G_least_colours (F_least_colours_n n))
def F_least_colours : DFn := F_least_colours_n 8
def G_opposite (M : Addr) : SF := (sSeq (sDrop (eCall (F_check_machine M) (aCons (eV 0) aNil))) (sSeq (sAsg (eLc (aAny (eCall (F_colours_of M) (aCons (eV 0) aNil))) [3] (gN 3) bYes (e2 addF (eV 3) (eC (.int 1)))) (gN 1)) (sSeq (sAsg (eCall (F_least_colours) (aCons (eCall (F_arrows_of M) (aCons (eV 0) aNil)) (aCons (eV 1) (aCons (eLstRg (eLenO M (F_Machine_len_ M) (aCons (eV 0) aNil))) aNil)))) (gN 2)) (sRet (eCall (F_with_colours M) (aCons (eV 0) (aCons (eLc (aRng (aCons (eLenO M (F_Machine_len_ M) (aCons (eV 0) aNil)) aNil)) [4] (gN 4) bYes (eDg (eV 2) (eV 4))) aNil)))))))
def F_opposite (M : Addr) : DFn := runD 5 1 (G_opposite M)
end DL

set_option maxHeartbeats 2000000

set_option maxHeartbeats 2000000
namespace DL
open PySem PySem.Spec PyProof.Rows L2
def G_recoloured (M : Addr) : SF := (sSeq (sDrop (eCall (F_check_machine M) (aCons (eV 0) aNil))) (sSeq (sAsg (eCall (F_least_colours) (aCons (eCall (F_arrows_of M) (aCons (eV 0) aNil)) (aCons (eCall (F_colours_of M) (aCons (eV 0) aNil)) (aCons (eCall (F_reached M) (aCons (eV 0) aNil)) aNil)))) (gN 1)) (sRet (eCall (F_with_colours M) (aCons (eV 0) (aCons (eLc (aRng (aCons (eLenO M (F_Machine_len_ M) (aCons (eV 0) aNil)) aNil)) [2] (gN 2) bYes (eGet (eV 1) (eV 2) (eC (.int 0)))) aNil))))))
def F_recoloured (M : Addr) : DFn := runD 3 1 (G_recoloured M)
def G_depth (M : Addr) : SF := (sSeq (sDrop (eCall (F_check_machine M) (aCons (eV 0) aNil))) (sRet (eB maxLF (aCons (eCall (F_colours_of M) (aCons (eCall (F_recoloured M) (aCons (eV 0) aNil)) aNil)) aNil))))
def F_depth (M : Addr) : DFn := runD 1 1 (G_depth M)
end DL

set_option maxHeartbeats 2000000

set_option maxHeartbeats 2000000

set_option maxHeartbeats 2000000

set_option maxHeartbeats 2000000

set_option maxHeartbeats 2000000
namespace DL
open PySem PySem.Spec PyProof.Rows L2
def G_state_row : SF := (sRet (eM joinF (eC (.str " ")) (aCons (eLst (aCons (eC (.str "state")) (aCons (eB strF (aCons (eIx (eV 0) (eC (.int 0))) aNil)) (aStar (eLc (aAny (eIx (eV 0) (eC (.int 1)))) [1] (gN 1) bYes (eB strF (aCons (eV 1) aNil))) aNil)))) aNil)))
def F_state_row : DFn := runD 2 1 (G_state_row)
def G_Machine_str_ (M : Addr) : SF := (sRet (eM joinF (eC (.str "\n")) (aCons (eLst (aCons (eJ2 (eC (.str "machine ")) (e1 (fldF M "_letters") (eV 0))) (aStar (eLc (aAny (e1 (fldF M "_states") (eV 0))) [1] (gN 1) bYes (eCall (F_state_row) (aCons (eV 1) aNil))) aNil))) aNil)))
def F_Machine_str_ (M : Addr) : DFn := runD 2 1 (G_Machine_str_ M)
end DL

set_option maxHeartbeats 2000000

set_option maxHeartbeats 2000000

set_option maxHeartbeats 2000000

set_option maxHeartbeats 2000000

set_option maxHeartbeats 2000000

set_option maxHeartbeats 2000000

set_option maxHeartbeats 2000000

set_option maxHeartbeats 2000000

set_option maxHeartbeats 2000000

set_option maxHeartbeats 2000000

set_option maxHeartbeats 1000000

set_option maxHeartbeats 2000000

set_option maxHeartbeats 1000000
namespace DL
open PySem PySem.Spec PyProof.Rows L2
variable [TB : TabSet]
/-- a def that makes lambdas: its code object at c, its table at P, the names in the tables -/
structure LamT (base : Heap) (mg : Str → Option Value) (cdv : Value) (q : Str) : Prop where
  ex : ∃ c P, cdv = .ref c ∧ LamX.TabB base mg c P ∧ (P, q) ∈ TB.T ∧ ∀ p ∈ TB.T, p.1 = P → p.2 = q
section
variable {K : PySem.W.Frag} {C : Cq} {S S' H H' H1 : Hp} {σ σ' : L2.St} {ρ ρ' : Env} {b b' : Bag}
theorem OkS.lam (o : OkS K C S ρ b σ H) (e : LamX.ExtN H H1) (t : LamX.Tabs TB.T H1) : OkS K C S ρ b σ H1 := by
  obtain ⟨c, O, s, w⟩ := o
  exact ⟨⟨fun a o h => e _ _ (c.sub a o h) fun ps z => c.ns a ps (by rw [h, z]), fun a o h hb => e _ _ (c.fr a o h hb) fun ps z => c.nt a ps (by rw [h, z]), fun a h => ⟨e _ _ (c.bag a h).1 (fun _ z => by cases z), (c.bag a h).2⟩, c.new, c.nt, c.ns, t⟩, O,
    s.mono (Same.refl _) (fun p hp u h => e _ _ h fun ps z => by
      have y := slots_pl s hp h
      exact (noTb_of y).2 ps z), w⟩
end
/-- what x tells of an outcome of the body, as a function of data -/
def tellD (Kc : Out D → Option D) : Out D → Out D
  | .ok d b => Out.pureO (Kc (.ok d b)) b
  | .ex c ns ds bx => Out.pureO (Kc (.ex c ns ds bx)) bx
  | .stuck => .stuck
def eTold (Kc : Out D → Option D) (F : EF) : EF := fun ρ b => tellD Kc (F ρ b)
/-- the body's reading, in any frame -/
def tAct (K : PySem.W.Frag) (σ : L2.St) (F : EF) : XK → Hp → VK → Prop := fun E H Q => ∃ C : Cq, tD K C (fun cls d _ H' => E cls d H') F σ H Q
/-- x keeps its word: TT is what its def makes of the reading, Kc tells it as data -/
def Tells (K : PySem.W.Frag) (TT : (XK → Hp → VK → Prop) → Hp → VK → Prop) (Kc : Out D → Option D) : Prop :=
  ∀ (C : Cq) (S : Hp) (ρ : Env) (b : Bag) (σ : L2.St) (H : Hp) (F : EF) (Q : VK), OkS K C S ρ b σ H →
    OutG K C W0 S ρ σ (fun d _ S' H' => ∀ v, DR K C.ba S' v d → Q v H') (tellD Kc (F ρ b)) → TT (tAct K σ F) H Q
section
variable {X : Cx} {C : Cq} {W : WX} {F : EF} {Kc : Out D → Option D}
theorem pureO_w {K : PySem.W.Frag} {S : Hp} {ρ : Env} {σ : L2.St} {R : D → Bag → Hp → Hp → Prop} {o : Option D} {b : Bag} (h : OutG K C W S ρ σ R (Out.pureO o b)) : OutG K C W0 S ρ σ R (Out.pureO o b) := by
  cases o with
  | some a => exact h
  | none => exact h
theorem tellD_w {K : PySem.W.Frag} {S : Hp} {ρ : Env} {σ : L2.St} {R : D → Bag → Hp → Hp → Prop} {o : Out D} (h : OutG K C W S ρ σ R (tellD Kc o)) : OutG K C W0 S ρ σ R (tellD Kc o) := by
  cases o with
  | ok d b => exact pureO_w (W := W) (o := Kc (.ok d b)) h
  | ex c ns ds bx => exact pureO_w (W := W) (o := Kc (.ex c ns ds bx)) h
  | stuck => exact h
theorem d_lam {TT : (XK → Hp → VK → Prop) → Hp → VK → Prop} {x a : Str} {g : Addr} {k : Nat} {pg : Arguments} {bg : List Stmt} {sg : Scope} {dV kV doc pm cdv ct oc : Value} {an od : Option Addr} {osl : Array (Option Value)} {Ng : List Str}
    {params : Arguments} {body : Expr} {scope : Scope} {p lpos pos : Pos} (tells : Tells X.K TT Kc) (hg : Gl X x) (hm : X.mg x = some (.ref g)) (hk : PySem.W.keepIn X.K (.ref g) = true)
    (lk : X.K.lookup g = some ⟨oc, od, .func (PySem.W.fnOf x x pg bg sg dV kV doc pm an cdv ct), osl⟩) (hcg : PySem.W.codeIn X.K cdv x = true) (hb : L2.Binds X.K (PySem.W.fnOf x x pg bg sg dV kV doc pm an cdv ct) [a] []) (Sg : FnScope Ng [a] sg) (hNg : Ng[0]? = some a) (hva : Vis sg a)
    (hG : LamX.GivesTo X Ng x sg g cdv bg a (X.env.qual ++ "<lambda>") TT)
    (LT : LamT X.base X.mg X.env.code (X.env.qual ++ "<lambda>")) (hr : Room (k + 2) X.A) (L : LamX.LamS X.env.scope scope) (hdef : defaultsOf params X.env = ([], []))
    (hbind : ∀ (q : Str) (cl : List (Str × Addr)) (pm cv ctv : Value), bindArgs (PySem.W.kla_fn "<lambda>" q params body scope cl pm cv ctv) ⟨[], []⟩ = pure [])
    (hbody : ∀ (A : Around) (outer : List PySem.Env) (s : Shared) (H : Hp) (E : XK) (f c' : Addr) (C : Cq), Room k (A.deeper (LamX.lamEnv X scope s.heap.objs.size f c')) → PE (LamX.lamCx X A outer s H E scope f c') body (tD X.K C (fun cls d _ H' => E cls d H') F))
    (hdb : (x == ("__debug__" : Str)) = false := by decide) (hd : (a == ("__debug__" : Str)) = false := by decide) (hcd : (a == ("__classdict__" : Str)) = false := by decide) :
    PE X (.Call (.Name x p) [.Lambda params body scope lpos] [] pos) (tD X.K C W (eTold Kc F)) := by
  obtain ⟨c, P, hcode, tb, hmT, hu⟩ := LT.ex
  exact pe_imp (LamX.pe_lamcall (t := fun E σ H Q => tAct X.K σ F E H Q) (TT := TT) (T := TB.T) hg hm hk lk hcg hb Sg hNg hva hG tb hcode hmT hu hr L hdef hbind (fun A outer s H E f c' r => ⟨fun pins s1 σ H1 Q I ⟨C1, q⟩ => (hbody A outer s H E f c' C1 r).run pins s1 σ H1 Q I q⟩) hdb hd hcd) fun σ H Q ⟨S, ρ, b, ok, q⟩ =>
    ⟨ok.core.tb, fun H1 eN t1 => tells C S ρ b σ H1 F Q (ok.lam eN t1) (tellD_w q)⟩
end
end DL

set_option maxHeartbeats 2000000
namespace DL
open PySem PySem.Spec PyProof.Rows L2
variable [TB : TabSet]
/-- an exception in flight: other objects may be laid -/
theorem fly_keep {B h h' : Heap} {l : List PySem.Env} {e : Addr} {Z : Obj → Prop} (f : HandSPX.FlyingZ B l e Z h) (k : ∀ b o, h.get? b = some o → h'.get? b = some o) : HandSPX.FlyingZ B l e Z h' := by
  obtain ⟨f1, f2, f3, oe, vs, T, oT, ts, q1, q2, q3, q4, q5, q6, q7, q8, q9⟩ := f
  exact ⟨fun b o z => k _ _ (f1 b o z), f2, f3.of_keeps fun b o z _ => ⟨o, k _ _ z, rfl⟩, oe, vs, T, oT, ts, k _ _ q1, q2, q3, q4, q5, q6, k _ _ q7, q8, q9⟩
/-- what the clause wishes of the body's exception: slot i is the name's -/
def wAsT (K : PySem.W.Frag) (cs : List Value) (i : Nat) (ts : Addr → Value → Option Addr → TS) (Wout : WX) (D : Ends) : WX := fun cls d σ H =>
  ∃ b, PySem.W.exmAny K cls cs = some b ∧ (b = true → ∀ a, H a = none → ts a cls d { nx := fun σ' H' => D.nx (σ'.set i none) H', rt := D.rt, bk := fun σ' H' => D.bk (σ'.set i none) H', ct := fun σ' H' => D.ct (σ'.set i none) H' } (σ.set i (some (.ref a))) H) ∧ (b = false → Wout cls d σ H)
section
variable {X : Cx} {x1 x2 x3 n : Str} {c1 c2 c3 : Value} {i : Nat} {body suite : List Stmt} {b0 : Stmt} {p1 p2 p3 pt pos pos' : Pos} {kx} {tb : WX → TS} {ts : Addr → Value → Option Addr → TS} {Wout : WX}
theorem ps_try_as3 (hs : X.stack = X.env :: X.outer) (hf : X.env.frame = some X.env.locals) (hN : X.N.Nodup) (hi : X.N[i]? = some n) (hln : X.env.kindOf n = some .local) (hc1 : Names X x1 c1) (hc2 : Names X x2 c2) (hc3 : Names X x3 c3) (tk : Takes X Wout)
    (hb : ∀ (W : WX) (pn : List (Addr × Obj)) (xe : Value → Shared → Prop), Takes (X.tr pn xe) W → PassesOwn (model X.prog X.w) X.A X.env xe → PSs (X.tr pn xe) body (tb W))
    (hsu : ∀ (a : Addr) (oe : Obj) (cls : Value) (d : Option Addr) (pn : List (Addr × Obj)), Zc cls d oe → (∃ vs, oe.data = .fields vs) → PSs (X.suite a ((a, oe) :: pn)) (b0 :: suite) (ts a cls d)) :
    PS X (.Try body [.ExceptHandler (some (.Tuple [.Name x1 p1, .Name x2 p2, .Name x3 p3] kx pt)) (some n) (b0 :: suite) pos'] [] [] pos) (fun D σ H => tb (wAsT X.K [c1, c2, c3] i ts Wout D) D σ H) := by
  refine ⟨fun pins s σ H D I h => ?_⟩
  have ok := I.ok
  have hfr : X.A.frames = some (X.env :: X.outer) := by rw [ok.frames, hs]
  refine wpAny_Try_except ?_
  have run := (hb (wAsT X.K [c1, c2, c3] i ts Wout D) (X.pn ++ pins) (fun e s1 => wpAny (model X.prog X.w) X.A (noteFrame e X.env) (fun _ s2 => wpAny (model X.prog X.w) X.A (setFlight e none) (fun _ s3 =>
    wpAny (model X.prog X.w) X.A (handleBy e X.env [.ExceptHandler (some (.Tuple [.Name x1 p1, .Name x2 p2, .Name x3 p3] kx pt)) (some n) (b0 :: suite) pos']) (SP X pins D) X.xe s3) X.xe s2) X.xe s1) (fun u s' xx => ?_) PassesOwn.looking).run [] s σ H D (I.toTry _) h
  · refine wpAny_mono run (fun f s1 z => ?_) fun _ _ z => z
    cases f with
    | next =>
      obtain ⟨σ', H', J, q⟩ := z
      exact wpAny_execs_nil ⟨σ', H', J.ofTry ok, q⟩
    | brk =>
      obtain ⟨σ', H', J, q⟩ := z
      exact ⟨σ', H', J.ofTry ok, q⟩
    | cont =>
      obtain ⟨σ', H', J, q⟩ := z
      exact ⟨σ', H', J.ofTry ok, q⟩
    | ret u =>
      obtain ⟨v, σ', H', J, r, q⟩ := z
      exact ⟨v, σ', H', J.ofTry ok, r, q⟩
  obtain ⟨a, B, sI, pins', σ', H', cls, d, rfl, J', nb, up, sky, na, os, ag, b, hb1, hyes, hno⟩ := xx
  have J : Inv X pins σ' H' sI := J'.ofTry ok
  have sky' : Sky B (X.env :: X.outer) a (Zc cls d) X.env.locals s'.heap := by rw [← hs]; exact sky
  show wpAny (model X.prog X.w) X.A (noteFrame (.ref a) X.env) _ _ _
  refine Sky.land Zc.steady hfr hf sky' fun h3 fl3 up3 => ?_
  have J3 : Inv X pins σ' H' { s' with heap := h3 } := J.landed nb fl3.1 (up.trans up3) os ag
  obtain ⟨oe3, vs3, he3, hz3, hd3⟩ := fl3.there
  have nfr : a ∉ frs (X.env :: X.outer) := fun hm => by
    obtain ⟨_, o', e', hnf⟩ := fl3.2.2.1.mem hm
    rw [he3] at e'
    cases e'
    exact hnf _ hd3
  have nL : a ≠ X.env.locals := fun z => nfr (List.mem_filterMap.mpr ⟨X.env, List.mem_cons_self, by rw [hf, z]⟩)
  have nF : a ∉ X.fs := fun hm => by
    obtain ⟨e, he, q⟩ := List.mem_filterMap.mp hm
    exact nfr (List.mem_filterMap.mpr ⟨e, List.mem_cons_of_mem _ he, q⟩)
  have S3 := J3.suite he3 hd3 na nL nF
  have nm : ∀ {x : Str} {c : Value} {np : Pos}, Names X x c → ∀ {Q E : Value → Shared → Prop}, Q c { s' with heap := h3 } → wpAny (model X.prog X.w) (X.A.mark (some (.ref a))) (eval (.Name x np) X.env) Q E { s' with heap := h3 } := fun {x c np} hc {Q E} q => by
    obtain ⟨hg, hdbg, hm | ⟨hm, hv, hnn⟩⟩ := hc
    · exact ld_glob (X := X.suite a ((a, oe3) :: (X.pn ++ pins))) S3 hg hm q hdbg
    · exact ld_blt (X := X.suite a ((a, oe3) :: (X.pn ++ pins))) S3 hg hm hv q hnn hdbg
  -- the tuple of classes is laid
  let hp := h3.push { cls := .type "tuple", data := .seq [c1, c2, c3].toArray }
  have keep : ∀ b o, h3.get? b = some o → hp.get? b = some o := fun b o e => Heap.get?_push_of_some _ e
  have flp := fly_keep fl3 keep
  have upp : s'.heap.UpToSlots hp := up3.trans (.of_keeps keep)
  have Jp : Inv X pins σ' H' { s' with heap := hp } := J3.kept (t' := s'.toks) keep
  have hep := keep _ _ he3
  refine wpAny_handleBy_cons (codeAny_handlers_test ?_) (by intro q; cases q)
  have LT : PySem.W.Looks (model X.prog X.w) hp (typeOf (.ref a)) cls := fun A Q E s k q => wpAny_typeOf_ref (k _ _ hep) (by rw [hz3.1]; exact q)
  have LM := PySem.W.exm_tup3 (M := model X.prog X.w) (Jp.kIn) LT (Heap.get?_push_size _ rfl) hb1
  refine wpAny_Tuple_spliced ?_
  show wpAny _ _ (spliced ((false, eval (.Name x1 p1) X.env) :: backTo pt (starEach [.Name x2 p2, .Name x3 p3] X.env))) _ _ _
  refine Calls.spliced_cons (nm hc1 ?_)
  show wpAny _ _ (spliced ((false, eval (.Name x2 p2) X.env) :: backTo pt (starEach [.Name x3 p3] X.env))) _ _ _
  refine Calls.spliced_cons (nm hc2 ?_)
  show wpAny _ _ (spliced ((false, eval (.Name x3 p3) X.env) :: backTo pt (starEach [] X.env))) _ _ _
  refine Calls.spliced_cons (nm hc3 (Calls.spliced_nil ⟨by show 3 ≤ sizeLine; decide, LM.here ?_⟩))
  cases b with
  | true =>
    refine codeAny_handlers_suite_as ?_
    refine HandSPX.lands_againZ flp fun h4 fl4 up4 => ?_
    have J4 : Inv X pins σ' H' { s' with heap := h4 } := J.landed nb fl4.1 ((up.trans upp).trans up4) os ag
    obtain ⟨oe4, vs4, he4, hz4, hd4⟩ := fl4.there
    have S4 := J4.suite he4 hd4 na nL nF
    refine store_ok (X := X.suite a ((a, oe4) :: (X.pn ++ pins))) (v := .ref a) S4 hN hi (.inl hln) rfl (fun s5 S5 => ?_) (.inr hln)
    refine wpAny_mono ((hsu a oe4 cls d (X.pn ++ pins) hz4 ⟨_, hd4⟩).run [] s5 _ H' _ S5 (hyes rfl a na)) (fun f s6 z => ?_) (fun _ _ z => False.elim z)
    have fin : ∀ {σ6 : L2.St} {H6 : Hp} {Q : Shared → Prop}, Inv (X.suite a ((a, oe4) :: (X.pn ++ pins))) [] σ6 H6 s6 → (∀ s7, Inv X pins (σ6.set i none) H6 s7 → Q s7) →
        wpAny (model X.prog X.w) X.A (do bindName X.env n .none; unbindBehindTheSuite X.env n pos') (fun _ s7 => Q s7) X.xe s6 := fun {σ6 H6 Q} S6 hq => gone_ok (S6.unsuite ok) hN hi hln hq
    cases f with
    | next =>
      obtain ⟨σ6, H6, S6, q6⟩ := z
      exact fin S6 fun s7 J7 => ⟨_, _, J7, q6⟩
    | brk =>
      obtain ⟨σ6, H6, S6, q6⟩ := z
      exact fin S6 fun s7 J7 => ⟨_, _, J7, q6⟩
    | cont =>
      obtain ⟨σ6, H6, S6, q6⟩ := z
      exact fin S6 fun s7 J7 => ⟨_, _, J7, q6⟩
    | ret u =>
      obtain ⟨v6, σ6, H6, S6, r6, q6⟩ := z
      exact fin S6 fun s7 J7 => ⟨_, _, _, J7, r6, q6⟩
  | false =>
    show wpAny _ X.A (handleBy (.ref a) X.env []) _ _ _
    refine wpAny_handleBy_nil ?_
    obtain ⟨k1, k2, k3, oe, vs, T, oT, ts', he, hz, hd, h1, hr⟩ := id flp
    unfold PySem.passOn
    refine wpAny_bind (wpAny_field he hd h1 ?_)
    rw [if_neg (show ¬ ((Value.ref T == Value.none) = true) from by simp)]
    have fin : wpAny (model X.prog X.w) X.A (setFlight (.ref a) X.env.frame) (fun _ s4 => wpAny (model X.prog X.w) X.A (throw (.ref a) : Sem Flow) (SP X pins D) X.xe s4) X.xe { s' with heap := hp } := by
      rw [hf]
      refine HandSPX.setFlight_upZ flp fun h4 hh4 up4 => wpAny_throw (tk _ _ ?_)
      exact ⟨a, B, sI, pins, σ', H', cls, d, rfl, J, nb, (up.trans upp).trans up4, .inr (.inr (by rw [hs]; exact hh4)), na, os, ag, hno rfl⟩
    first
      | exact wpAny_bind (wpAny_pure (wpAny_bind fin))
      | exact wpAny_bind fin
end
end DL

set_option maxHeartbeats 2000000
namespace DL
open PySem PySem.Spec PyProof.Rows L2
variable [TB : TabSet]
section
variable {prog : Program} {w : World} {A : Around} {E : Value → Shared → Prop} {s : Shared} {K : PySem.W.Frag} {x D : Addr} {ox od : Obj}
/-- e.__class__ of such an exception: the class's own data descriptor goes before the dict -/
theorem class_exd {Q : Option Value → Shared → Prop} (c : L2.ExcC K D) (X : K.In s.heap) (I : PySem.W.InstAt s.heap x ox D (some od)) (h : Q (some (.ref D)) { s with toks := s.toks + 1 }) : wpAny (model prog w) A (getAttr? (.ref x) "__class__") Q E s := by
  have fo : PySem.W.findObj K D (some od) "__class__" = some (.bind (.builtin "getset_descriptor.__get__") (.builtin "object.__class__")) :=
    PySem.W.findObj_data (by obtain ⟨cd, hc, _⟩ := PySem.W.any_some c.hd; rw [hc]; rfl) c.ha c.hn c.ht
  obtain ⟨hp, g, d, t, os⟩ := s
  have T := I.type (M := model prog w)
  have Ga := PySem.W.looks_findIn (M := model prog w) X c.hg
  have Gt := PySem.W.looks_findIn (M := model prog w) X c.hk
  have Fi := PySem.W.looks_find (M := model prog w) X I fo
  have sub : PySem.W.Looks (model prog w) hp (isInstance (.ref x) (.type "BaseException")) true := T.andThen (PySem.W.looks_subIn X c.hs)
  have ne : (Value.builtin "BaseException.__getattribute__" == Value.builtin "object.__getattribute__") = false := by decide +kernel
  unfold getAttr? getAttrBy? getAttrBy
  refine wpAny_bind (wpAny_mkText (wpAny_bind (wpAny_attempt (wpAny_holding (wpAny_bind (T.at (wpAny_bind (Ga.at ?_))))))))
  show wpAny _ _ (if (onTheHeap (Value.ref D) && Value.builtin "BaseException.__getattribute__" == Value.builtin "object.__getattribute__") = true then _ else _) _ _ _
  rw [if_neg (by rw [ne]; exact Bool.false_ne_true)]
  unfold getAttrByItsOwn hookBefore
  refine wpAny_bind ?_
  rw [if_pos (show onTheHeap (Value.ref D) = true from rfl)]
  refine Gt.at (wpAny_bind (wpAny_attempt (wpAny_holding ?_)))
  unfold callGetattribute
  rw [if_neg (show ¬ ((false && onTheHeap (Value.builtin "BaseException.__getattribute__")) = true) from Bool.false_ne_true)]
  unfold boundAndCalled
  rw [PySem.F.excAttr_ValueError.ga.bind (.ref x)]
  refine wpAny_bind (wpAny_pure ?_)
  show wpAny _ _ (call (.builtin "BaseException.__getattribute__") [.ref x, .str "__class__" t]) _ _ _
  refine wpAny_call (codeAny_call_builtin PySem.F.excAttr_ValueError.ga.plain PySem.F.entry_bexc_ga ?_)
  refine @PySem.W.check_slot (model prog w) _ _ ⟨hp, g, d, t + 1, os⟩ "BaseException.__getattribute__" "BaseException" "__getattribute__" (.ref x) [.str "__class__" t] [] _ (by decide +kernel) (by decide +kernel) sub (PySem.F.args_bexc_ga (.ref x) (.str "__class__" t)) ?_
  unfold Builtin.«object.__getattribute__»
  refine wpAny_bind (wpAny_of_eq (a := ((Value.ref x : Value), [Value.str "__class__" t])) (by first | rfl | (simp only [slotArgs]; rfl)) ?_)
  refine wpAny_bind (wpAny_pure (wpAny_bind (T.at (wpAny_bind (Fi.at ?_)))))
  show wpAny _ _ (holding [Value.builtin "object.__class__"] (call (.builtin "getset_descriptor.__get__") [.builtin "object.__class__", .ref x, .ref D]) >>= ret) _ _ _
  refine wpAny_bind (wpAny_holding (wpAny_call (PySem.W.class_get (s := ⟨hp, g, d, t + 1, os⟩) (ox := ox) (od := some od) X I c.hm ?_)))
  refine wpAny_pure ?_
  show wpAny _ _ (handedOut (.ref D)) _ _ _
  rw [PySem.W.handedOut_of (v := .ref D) rfl]
  first
    | exact wpAny_pure (wpAny_pure h)
    | exact wpAny_pure h
    | exact wpAny_pure (wpAny_bind (wpAny_pure (wpAny_pure h)))
/-- .. as isinstance asks it -/
theorem kitx_exd (c : L2.ExcC K D) : PySem.W.KitX K (.ref x) (.ref D) (fun h => PySem.W.InstAt h x ox D (some od)) where
  ty := fun _ _ _ I => I.type
  it := fun M h X _ => by
    obtain ⟨cd, hc, _⟩ := PySem.W.any_some c.hd
    unfold PySem.W.clsIn at hc
    split at hc
    · rename_i h1 h2 h3 h4 ho
      intro A Q E s k q
      unfold isType loadHead
      exact wpAny_bind (wpAny_loadPart (k _ _ (X _ _ ho)) (wpAny_pure q))
    · cases hc
  ne := (PySem.W.handS_kitx_exc (x := x) (ox := ox) c.hg c.hk c.hs c.hd c.ha c.hn c.ht c.hm).ne
  ca := fun X I k => class_exd c X I k
end
/-- isinstance(e, c), e the exception that the clause holds, its dict at dd -/
def rIsEd (K : PySem.W.Frag) (D a dd : Addr) : List V → Hp → VK → Prop := fun xs H Q => (∃ fs, H dd = some (.xd fs)) ∧ ∃ (c : V) (cv : Value) (b : Bool), xs = [.ref a, c] ∧ (∀ u, RelV c u → u = cv) ∧ PySem.W.kitOne K (.ref D) cv = some b ∧ Q (.bl b) H
theorem call_isEd {X : Cx} {a D dd : Addr} {oe : Obj} {pn : List (Addr × Obj)} (c : L2.ExcC X.K D) (hz : Zc (.ref D) (some dd) oe) (hf : ∃ vs, oe.data = .fields vs) : CallR (X.suite a ((a, oe) :: pn)) (.builtin "isinstance") (rIsEd X.K D a dd) := by
  intro pins s σ H xs us Q I r h
  obtain ⟨⟨fs, ea⟩, z, cv, b, rfl, hcv, e, q⟩ := h
  cases r with
  | cons rx rr =>
    cases rr with
    | cons rt rr =>
      cases rr
      cases rx
      obtain rfl := hcv _ rt
      obtain ⟨ha, _⟩ := I.pin (a, oe) (List.mem_append.mpr (.inl List.mem_cons_self))
      obtain ⟨vs, hd⟩ := hf
      have hx : ObjOk X.prog X.w H s.heap dd (.xd fs) := I.hok dd _ ea
      obtain ⟨mA, hns, _⟩ := hx
      obtain ⟨od, ho, _⟩ := lookIn_ns hns
      have J : PySem.W.InstAt s.heap a oe D (some od) := ⟨ha, hz.1, by unfold PySem.W.notCls; rw [hd] <;> rfl, by rw [hz.2]; exact ho⟩
      exact PySem.W.kia_one (kitx_exd c) I.kIn J e (fun z => nomatch z) fun tk => ⟨.bl b, H, I.kept (t' := tk) fun _ _ z => z, rfl, q⟩
end DL

set_option maxHeartbeats 1000000
namespace DL
open PySem PySem.Spec PyProof.Rows L2
variable [TB : TabSet]
def isEF (a A : Addr) (v : Bool) : List D → Option D
  | [.obj (.ref a'), .obj (.ref A')] => if a' = a ∧ A' = A then some (.bl v) else none
  | _ => none
theorem c_isE {K : PySem.W.Frag} {C : Cq} {E a A dd : Addr} {v : Bool} (hd : ∃ fs, C.H0 dd = some (.xd fs)) (hba : C.ba ≠ some dd) (hk : PySem.W.kitOne K (.ref E) (.ref A) = some v) : CallD K C (rIsEd K E a dd) (isEF a A v) := by
  intro S ρ b σ H vs ds z Q ok rs hz q
  unfold isEF at hz
  split at hz
  · rename_i a' A'
    by_cases h : a' = a ∧ A' = A
    · rw [if_pos h] at hz
      cases hz
      obtain ⟨rfl, rfl⟩ := h
      cases rs with
      | cons r1 r2 =>
        cases r2 with
        | cons r3 r4 =>
          cases r4
          cases r1
          cases r3
          obtain ⟨fs, hd⟩ := hd
          exact ⟨⟨fs, ok.core.fr dd _ hd hba⟩, _, .ref A', v, rfl, fun u r => r, hk, q _ S H (Same.refl _) ok (.bl _)⟩
    · rw [if_neg h] at hz
      cases hz
  · cases hz
section
variable {X : Cx} {C : Cq} {W : WX} {E a A dd : Addr} {v : Bool} {oe : Obj} {pn : List (Addr × Obj)} {e1 e2 : Expr} {pos p : Pos} {G : AF}
theorem d_isE (c : L2.ExcC X.K E) (hz : Zc (.ref E) (some dd) oe) (hf : ∃ vs, oe.data = .fields vs) (hd : ∃ fs, C.H0 dd = some (.xd fs)) (hba : C.ba ≠ some dd) (hk : PySem.W.kitOne X.K (.ref E) (.ref A) = some v)
    (hg : Gl (X.suite a ((a, oe) :: pn)) "isinstance") (hm : X.mg "isinstance" = none) (ha : PA (X.suite a ((a, oe) :: pn)) [e1, e2] (tDA X.K C W G))
    (he : starEach [e1, e2] (X.suite a ((a, oe) :: pn)).env = (false, eval e1 (X.suite a ((a, oe) :: pn)).env) :: starEach [e2] (X.suite a ((a, oe) :: pn)).env := by rfl) (hpl : (backTo pos (starEach [e2] (X.suite a ((a, oe) :: pn)).env)).any (·.1) = false := by rfl) :
    PE (X.suite a ((a, oe) :: pn)) (.Call (.Name "isinstance" p) [e1, e2] [] pos) (tD X.K C W (eB (isEF a A v) G)) :=
  d_callB (X := X.suite a ((a, oe) :: pn)) (call_isEd c hz hf) (c_isE hd hba hk) hg hm PyProof.Rows.boot_isinstance ha (by decide) (by decide) he hpl
end
section
variable {K : PySem.W.Frag} {C : Cq} {S H : Hp} {ρ : Env} {b : Bag} {σ : L2.St}
/-- what was shared at the clause's start may be shared again -/
theorem OkS.join (ok : OkS K C S ρ b σ H) (hS : ∀ x o, C.S0 x = some o → C.H0 x = some o ∧ C.ba ≠ some x) : ∃ S', Same S S' ∧ Same C.S0 S' ∧ OkS K C S' ρ b σ H := by
  let S' : Hp := fun x => match S x with
    | some o => some o
    | none => C.S0 x
  have yes : ∀ {x o}, S x = some o → S' x = some o := fun {x o} h => by
    show (match S x with | some o => some o | none => C.S0 x) = _
    rw [h]
  have no : ∀ {x}, S x = none → S' x = C.S0 x := fun {x} h => by
    show (match S x with | some o => some o | none => C.S0 x) = _
    rw [h]
  have inH : ∀ x o, C.S0 x = some o → H x = some o := fun x o h => ok.core.fr x o (hS x o h).1 (hS x o h).2
  have e1 : Same S S' := fun x o h => yes h
  have e2 : Same C.S0 S' := fun x o h => by
    cases q : S x with
    | none => rw [no q]; exact h
    | some o' =>
      have z := ok.core.sub x o' q
      rw [inH x o h] at z
      rw [yes q, z]
  obtain ⟨c, O, s, w⟩ := ok
  refine ⟨S', e1, e2, ⟨fun x o h => ?_, c.fr, fun x hx => ⟨(c.bag x hx).1, ?_⟩, fun x o h => ?_, c.nt, fun x ps h => ?_, c.tb⟩, O, s.mono e1 (fun _ _ _ z => z), w.nd, fun p hp => ⟨?_, (w.al p hp).2⟩⟩
  · cases q : S x with
    | some o' => rw [yes q] at h; cases h; exact c.sub _ _ q
    | none => rw [no q] at h; exact inH x o h
  · rw [no (c.bag x hx).2]
    cases q : C.S0 x with
    | none => rfl
    | some o => exact absurd hx (hS x o q).2
  · cases q : S x with
    | some o' => rw [yes q] at h; cases h; exact c.new _ _ q
    | none => rw [no q] at h; exact .inl h
  · cases q : S x with
    | some o' => rw [yes q] at h; cases h; exact c.ns _ _ q
    | none => rw [no q] at h; exact c.nt x ps (hS x _ h).1
  · rw [no (w.al p hp).1]
    cases q : C.S0 p with
    | none => rfl
    | some o =>
      have z := (hS p o q).1
      rw [(w.al p hp).2.1] at z; cases z
end
def eGv (F : EF) (a : Addr) (d : D) : EF := fun ρ b => (F ρ b).bind fun x b' => match x with
  | .obj (.ref a') => if a' = a then .ok d b' else .stuck
  | _ => .stuck
section
variable {X : Cx} {C : Cq} {W : WX} {E a dd : Addr} {d : D} {oe : Obj} {pn : List (Addr × Obj)} {e : Expr} {pos : Pos} {F : EF} {n : Str} {fs : List (Str × V)} {v : V}
theorem d_gv (T : XfC X.K E) (hno : PySem.W.findIn X.K (.ref E) n = some none) (hz : Zc (.ref E) (some dd) oe) (hf : ∃ vs, oe.data = .fields vs) (hd : C.H0 dd = some (.xd fs)) (hba : C.ba ≠ some dd) (hl : fs.lookup n = some v)
    (hS : ∀ x o, C.S0 x = some o → C.H0 x = some o ∧ C.ba ≠ some x) (hr : DR X.K C.ba C.S0 v d) (he : PE (X.suite a ((a, oe) :: pn)) e (tD X.K C W F)) (hb : attributeBase e n X.env (eval e X.env) = eval e X.env := by rfl) :
    PE (X.suite a ((a, oe) :: pn)) (.Attribute e n pos) (tD X.K C W (eGv F a d)) :=
  pe_imp (pe_xf T hno hz hf he hb) fun σ H Q ⟨S, ρ, b, ok, q⟩ => ⟨S, ρ, b, ok, q.bind.imp fun x b1 S1 H1 s1 ok1 q1 y r => by
    split at q1
    · rename_i a'
      by_cases h : a' = a
      · rw [if_pos h] at q1
        subst h
        cases r
        obtain ⟨S2, e1, e2, ok2⟩ := ok1.join hS
        exact ⟨rfl, rfl, dd, fs, v, rfl, ok1.core.fr dd _ hd hba, hl, q1 S2 H1 e1 ok2 v (hr.up e2)⟩
      · rw [if_neg h] at q1
        exact q1.elim
    · exact q1.elim⟩
end
end DL

set_option maxHeartbeats 1000000
namespace DL
open PySem PySem.Spec PyProof.Rows L2
variable [TB : TabSet]
def rCountD (K : PySem.W.Frag) : V → List V → Hp → VK → Prop := fun x xs H Q => ∃ (a : Addr) (y : V) (d : PyData) (ds : List PyData), x = V.ref a ∧ xs = [y] ∧ Dp K H (V.ref a) (.list ds) ∧ Dp K H y d ∧ PyData.plainAll ds = true ∧ d.plain = true ∧ d.depth = 0 ∧ Q (.int ((ds.countP fun z => PyData.eqv z d : Nat) : Int)) H
theorem mt_countD {X : Cx} (hu : X.A.units + 65 < cLine) : MtR X "list.count" (rCountD X.K) := by
  intro pins s σ H x xs v us Q I rx rxs h
  obtain ⟨a, y, d, ds, rfl, rfl, hl, hy, p1, p2, p3, q⟩ := h
  cases rx
  cases rxs with
  | cons ry rt =>
    cases rt
    obtain ⟨bs, r1⟩ := Dp.reads I d y _ hy ry
    cases hl with
    | lst hs ha =>
      obtain ⟨its, rv, hL, hlen⟩ := I.list hs
      obtain ⟨as, h4⟩ := Dp.readsAll I ds _ its ha rv
      exact PySem.SeqAt.count_list_data hL.isList h4 r1 p1 p2 (by rw [p3]; omega) ⟨V.int ((ds.countP fun z => PyData.eqv z d : Nat) : Int), H, I.tok _, (show RelV (V.int _) (Value.int _ _) from ⟨_, rfl⟩), q⟩
/-- how many items of data are equal to one -/
def cntF (xs : List D) : List D → Option D
  | [d] => match pds xs, d.pd with
    | some ps, some p => if PyData.plainAll ps = true ∧ p.plain = true ∧ p.depth = 0 then some (.int ((ps.countP fun z => PyData.eqv z p : Nat) : Int)) else none
    | _, _ => none
  | _ => none
theorem m_cnt {K : PySem.W.Frag} {C : Cq} : MtDL K C (rCountD K) cntF := by
  intro S ρ b σ H a ys vs ds es z Q ok h1 h2 h3 hz q
  unfold cntF at hz
  split at hz
  · split at hz
    · rename_i ps p hps hp
      split at hz
      · rename_i hsh
        cases hz
        cases h3 with
        | cons r1 r2 =>
          cases r2
          exact ⟨a, _, p, ps, rfl, rfl, .lst h1 (DRs.dp ok.core.sub ds ys ps h2 hps), DR.dp ok.core.sub _ _ p r1 hp, hsh.1, hsh.2.1, hsh.2.2, q _ S H (Same.refl _) ok (.int _)⟩
      · cases hz
    · cases hz
  · cases hz
end DL

set_option maxHeartbeats 1000000

set_option maxHeartbeats 1000000

set_option maxHeartbeats 1000000
namespace DL
open PySem PySem.Spec PyProof.Rows L2
section
variable [TB : TabSet]
variable {P : Program} {w : World} {K : PySem.W.Frag} {mg : Str → Option Value} {base : Heap} {Gd : Around → Prop}
theorem FnG.bodyC {x qual : Str} {st : Stmt} {f : Addr} {fd : FuncData} {N ps : List Str} {k : Nat} {sp : Sp} (F : Fun K x qual st f fd) (Sc : FnScope N ps (defScope st)) (many : ∀ vs H Q E, sp vs H Q E → vs.length = ps.length)
    (hb : ∀ (cdv : Value) (A : Around) (fr : List PySem.Env) (s : Shared) (H : Hp) (vs : List V) (Q : VK) (E : XK), cdv = codeAt K f → Room k (A.deeper (envOfC qual (defScope st) s.heap.objs.size f cdv)) → Gd A → sp vs H Q E →
      ∃ t, PSs (cxOf (L2.CX P w) P w K mg base N qual (defScope st) f cdv A fr s H E) (defBody st) t ∧ t { nx := fun _ H' => Q .non H', rt := Q } (L2.start N vs) H) : FnG P w K mg base Gd (k + 1) f fd ps sp := by
  obtain ⟨oc, od, kV, doc, pm, an, cdv, ct, osl, rfl, lk, hc⟩ := F.ex
  have ec : cdv = codeAt K f := by unfold codeAt; rw [lk]
  refine ⟨many, fun A fr s H ar us vs Q E room hg e bt rv hs => ?_⟩
  have old : ∀ b o, base.get? b = some o → s.heap.get? b = some o := fun b o q => (e.bs b o q).1
  have kin := e.mod.kin.keeps old
  refine codeAny_call_function room.depth (kin f _ lk) rfl Sc.co Sc.gen rfl (PySem.W.codeRec_of kin hc) (bt _ _ _ _ (wpAny_newFunctionEnv_cells Sc.kind (fun y hy => ?_) fun env he s1 x => ?_))
  · have hm := (List.of_mem_zip (show (y.1, y.2) ∈ ps.zip us from hy)).1
    rcases Sc.par y.1 hm with q | q
    · exact Or.inl q
    · exact Or.inr ⟨q, PySem.W.cellsFrom_some _ _ _ (Or.inl q)⟩
  · subst he
    obtain ⟨t, ht, hq⟩ := hb cdv A fr s H vs Q E ec (room.deeper _) hg hs
    have start := inv_start (CX := L2.CX P w) (f := f) (qual := qual) (cd := cdv) (E := E) Sc room.hd e (many vs H Q E hs) rv x
    refine ⟨(e.mod.nolimit.keeps old).keeps x.toInCall.keep, codeAny_func (wpAny_mono (ht.run [] s1 _ H _ start hq) (fun fl s' z => ?_) fun _ _ z => z)⟩
    cases fl with
    | brk => obtain ⟨_, _, _, z⟩ := z; exact z.elim
    | cont => obtain ⟨_, _, _, z⟩ := z; exact z.elim
    | next => obtain ⟨_, H', J, z⟩ := z; exact ⟨V.non, H', J.os, J.bare, J.base, J.hok, rfl, z⟩
    | ret u => obtain ⟨v, _, H', J, r, z⟩ := z; exact ⟨v, H', J.os, J.bare, J.base, J.hok, r, z⟩
/-- a def that makes lambdas: what is known of its tables -/
abbrev LamF (K : PySem.W.Frag) (base : Heap) (mg : Str → Option Value) (f : Addr) (q : Str) : Prop := LamT base mg (codeAt K f) ((q ++ ".<locals>.") ++ "<lambda>")
theorem d_defC {x qual : Str} {st : Stmt} {f : Addr} {fd : FuncData} {N ps : List Str} {k : Nat} {G : SF} (F : Fun K x qual st f fd) (Sc : FnScope N ps (defScope st)) (LF : LamF K base mg f qual)
    (body : ∀ (cdv : Value) (A : Around) (outer : List PySem.Env) (s : Shared) (H : Hp) (E : XK) (C : Cq), LamT base mg cdv ((qual ++ ".<locals>.") ++ "<lambda>") → Room k (A.deeper (envOfC qual (defScope st) s.heap.objs.size f cdv)) → Gd A →
      PSs (cxOf (L2.CX P w) P w K mg base N qual (defScope st) f cdv A outer s H E) (defBody st) (tDS K C (WD E) G)) : FnG P w K mg base Gd (k + 1) f fd ps (spD K (runD N.length ps.length G)) := by
  refine FnG.bodyC F Sc (fun vs H Q E h => spD_len h) (fun cdv A outer s H vs Q E ec hr hg h => ?_)
  subst ec
  obtain ⟨S, ba, b, ds, c, r, o⟩ := h
  refine ⟨_, body _ A outer s H E ⟨noTb H, S, ba⟩ LF hr hg, S, startE N.length ds, b, okS_start c r, ?_⟩
  unfold runD at o
  by_cases hl : ds.length = ps.length
  · rw [if_pos hl] at o
    cases hG : G (startE N.length ds) b with
    | nx ρ b' => rw [hG] at o; exact fun S' σ H' e ok => o S' H' .non e ok.core .non
    | rt d b' => rw [hG] at o; exact fun S' H' v e ok r => o S' H' v e ok r
    | ro d b' => rw [hG] at o; exact o.elim
    | bk ρ b' => rw [hG] at o; exact o.elim
    | ct ρ b' => rw [hG] at o; exact o.elim
    | ex ρ c ns ds bx => rw [hG] at o; exact fun dx S' σ H' b e ok x => o dx S' H' b e ok.core x
    | stuck => rw [hG] at o; exact o
  · rw [if_neg hl] at o
    exact o.elim
end
theorem obT_eq {as : List Addr} {fn tf : List QD} {ex : PySem.W.Frag → Bool} {g : Addr → Option Obj} {s : Shared} (h : ∀ a, g a = s.heap.get? a) : obT as fn tf ex g = (hookT as fn tf ex).obs s := by
  have : g = s.heap.get? := funext h
  subst this
  rfl
/-- the law's tables -/
abbrev tabSet (tf : List QD) (K : PySem.W.Frag) : TabSet := ⟨tTs tf K⟩
theorem lamF_of {tf : List QD} {K : PySem.W.Frag} {h base : Heap} {mg : Str → Option Value} (t : TabsAre tf K h) (tb : ∀ p ∈ cTs tf K, LamX.TabB base mg p.1 p.2) (i : Nat) {d : QD} (hi : tf[i]? = some d) : @LamF (tabSet tf K) K base mg (d.at_ K) d.qual := by
  letI : TabSet := tabSet tf K
  have hd : d ∈ tf := List.mem_of_getElem? hi
  have hr := t.ref d hd
  refine ⟨refOf (codeAt K (d.at_ K)), He.tabOf K (refOf (codeAt K (d.at_ K))), ?_, tb (_, _) (List.mem_map.mpr ⟨d, hd, rfl⟩), List.mem_map.mpr ⟨d, hd, rfl⟩, fun p hp e => t.one p hp (_, _) (List.mem_map.mpr ⟨d, hd, rfl⟩) e⟩
  cases q : codeAt K (d.at_ K) with
  | ref c => rfl
  | _ => rw [q] at hr; cases hr
section
variable {P : Program} {w : World} {K : PySem.W.Frag} {mg mb : Str → Option Value} {k : Nat} {fa a : Addr} {fd : FuncData} {x : Str} {sp : Sp} {s₁ : Shared} {vs : List Value} {ns : List Int} {cs : List (Addr × Addr)}
abbrev isTb (cs : List (Addr × Addr)) (b : Addr) : Prop := ∃ p ∈ cs, p.2 = b
theorem call_tabs (T : Hp) (kin : K.In s₁.heap) (gl : s₁.heap.Ns mainGlobals mg) (bl : s₁.heap.Ns builtinsNs mb) (bb : ∀ x : Str, x ≠ "__name__" → mb x = bootBuiltins x) (nl : s₁.heap.NoLimit) (gn : s₁.gens = #[])
    (te : ∀ b, isTb cs b → s₁.heap.get? b = some { cls := .none, data := .fields #[] }) (tn : ∀ b, isTb cs b → K.lookup b = none) (cd : ∀ p ∈ cs, PySem.W.CodeHd s₁.heap p.1 p.2) (ck : ∀ p ∈ cs, PySem.W.codeHdIn K p.1 p.2 = true)
    (bm : ∃ (bm : Addr) (ob : Obj), mg "__builtins__" = some (.ref bm) ∧ bm ≠ builtinsNs ∧ s₁.heap.get? bm = some ob ∧ ob.cls = .type "module" ∧ ob.dict = some builtinsNs ∧ ob.data = .plain)
    (at_ : s₁.heap.get? a = some { cls := .type "list", data := .seq vs.toArray }) (room : Room k callerA) (F : ∀ base : Heap, K.In base → base.Ns mainGlobals mg → (∀ p ∈ cs, LamX.TabB base mg p.1 p.2) → FnG P w K mg base GK k fa fd [x] sp) (bt : ∀ (s : Shared) (u : Value), BindsTo s fd ⟨[u], []⟩ [(x, u)])
    (on : ∀ b, T b = none ∨ (isTb cs b ∧ T b = some (.tbl #[])) ∨ ∃ o xs, T b = some (.frz o (.lst xs))) (go : sp [.ref a] T (fun v _ => v = .bl true) fun _ _ _ => False) (fine : HOk P w T s₁.heap) (one : ∀ b, T b ≠ none → b = a ∨ isTb cs b) (out : T a ≠ none → K.lookup a = none) : codeAny (model P w) callerA (.call (.ref fa) ⟨[.ref a], []⟩) (Fine s₁) s₁ := by
  have keep : ∀ {b : Addr} {o : Obj}, s₁.heap.get? b = some o → T b = none → (hidT s₁.heap T).get? b = some o := fun g n => hidT_get g n
  have free : ∀ {b : Addr} {o : Obj}, s₁.heap.get? b = some o → (∀ vs n, o.data ≠ .seq vs n) → (∀ vs, o.data ≠ .fields vs) → T b = none := by
    intro b o g h1 h2
    by_cases hz : T b = none
    · exact hz
    · rcases one b hz with hb | hb
      · rw [hb, at_] at g
        injection g with g
        rw [← g] at h1
        exact absurd rfl (h1 _ _)
      · rw [te b hb] at g
        injection g with g
        rw [← g] at h2
        exact absurd rfl (h2 _)
  have spaces : ∀ {b : Addr} {m : Str → Option Value}, s₁.heap.Ns b m → (hidT s₁.heap T).Ns b m := by
    rintro b m ⟨o, es, n, g, dd, rest⟩
    exact ⟨o, es, n, keep g (free g (fun vs n z => by rw [dd] at z; cases z) (fun vs z => by rw [dd] at z; cases z)), dd, rest⟩
  have kin' : K.In (hidT s₁.heap T) := by
    intro b o g
    refine keep (kin b o g) ?_
    by_cases hz : T b = none
    · exact hz
    · rcases one b hz with hb | hb
      · rw [hb] at g hz
        rw [out hz] at g
        cases g
      · rw [tn b hb] at g
        cases g
  have gP : ∀ b, isTb cs b → mainGlobals ≠ b := fun b hb e => by
    obtain ⟨o, es, n, g, dd, rest⟩ := gl
    rw [e, te b hb] at g
    injection g with g
    rw [← g] at dd
    cases dd
  have tabs : ∀ p ∈ cs, LamX.TabB (hidT s₁.heap T) mg p.1 p.2 := fun p hp => by
    obtain ⟨m, ob, m1, m2, m3, m4, m5, m6⟩ := bm
    have nG : m ≠ mainGlobals := fun e => by
      obtain ⟨o, es, n, g, dd, rest⟩ := gl
      rw [← e, m3] at g
      injection g with g
      rw [← g, m6] at dd
      cases dd
    have nP : m ≠ p.2 := fun e => by
      have z := te p.2 ⟨p, hp, rfl⟩
      rw [← e, m3] at z
      injection z with z
      rw [z] at m6
      cases m6
    exact NdefX.tabB_of_K kin' (ck p hp) ⟨m, ob, m1, m2, nG, nP, keep m3 (free m3 (fun vs n z => by rw [m6] at z; cases z) (fun vs z => by rw [m6] at z; cases z)), m4, m5, m6⟩ (gP _ ⟨p, hp, rfl⟩)
  have md : Mod K mg (hidT s₁.heap T) := by
    refine ⟨kin', spaces gl, ⟨mb, spaces bl, bb⟩, ?_⟩
    obtain ⟨mc, g1, g2⟩ := nl
    exact ⟨mc, spaces g1, g2⟩
  have env : Env0 P w K mg (hidT s₁.heap T) callerA [] s₁ T := by
    refine ⟨rfl, md, fun b o g => of_hidT g, Nat.le_of_eq (hidT_size _ _), trivial, fun b hb => ?_, fine, .of_eq gn⟩
    cases hb
  refine codeAny_mono ((F _ kin' (spaces gl) tabs).go callerA [] s₁ T ⟨[.ref a], []⟩ [.ref a] [.ref a] _ _ room rfl env (bt s₁ (.ref a)) (.cons rfl .nil) go) fun r t h => ?_
  match r, h with
  | .error e, h =>
    obtain ⟨_, _, _, _, _, _, _, _, _, _, _, _, z⟩ := h
    exact z.elim
  | .ok (.ret u), h =>
    obtain ⟨v, T', h1, h2, un, fine', rv, hv⟩ := h
    have hv : v = .bl true := hv
    rw [hv] at rv
    have hu : u = Value.bool true := rv
    have stays : ∀ b o, T b ≠ some (.tbl #[]) → s₁.heap.get? b = some o → t.heap.get? b = some o := fun b o nt g => by
      by_cases hz : T b = none
      · exact un.keep b o g hz (fun z => by cases z) (by simp)
      · rcases on b with z | ⟨_, z⟩ | ⟨ob, xs, z⟩
        · exact absurd z hz
        · exact absurd z nt
        · have z' := un.frzs b ob _ z
          obtain ⟨g1, _⟩ := fine b _ z
          obtain ⟨g2, _⟩ := fine' b _ z'
          rw [g] at g1
          rw [Option.some.inj g1]
          exact g2
    have grown : ∀ b, T b = some (.tbl #[]) → ∃ more : Array Value, t.heap.get? b = some { cls := .none, data := .fields more } := fun b z => by
      obtain ⟨more, z'⟩ := un.tbls b #[] z
      exact ⟨_, fine' b _ z'⟩
    refine ⟨by rw [hu], ⟨fun b o g => ?_, fun b o g => ?_⟩, h1, h2⟩
    · by_cases nt : T b = some (.tbl #[])
      · obtain ⟨more, hm⟩ := grown b nt
        have tb : isTb cs b := by
          rcases on b with z | ⟨z, _⟩ | ⟨ob, xs, z⟩
          · rw [z] at nt; cases nt
          · exact z
          · rw [z] at nt; cases nt
        have ge := te b tb
        obtain ⟨p, hp, rfl⟩ := tb
        rw [ge] at g
        injection g with g
        rw [← g]
        exact .inr (.inl ⟨((cd p hp).tab ge).isCodeTable, rfl, #[], more, rfl, by simpa using hm⟩)
      · exact .inl (stays b o nt g)
    · by_cases nt : T b = some (.tbl #[])
      · obtain ⟨more, hm⟩ := grown b nt
        exact ⟨_, hm⟩
      · exact ⟨o, stays b o nt g⟩
  | .ok .next, h => exact False.elim h
  | .ok .brk, h => exact False.elim h
  | .ok .cont, h => exact False.elim h
end
/-- a law that makes lambdas, from its promise of data -/
theorem walkT {tf : List QD} {l : PySem.W.OpenLaw} {n k : Nat} {q : Program} {loose : List Str} {XP : (Str → Option Value) → Heap → Prop} {YP : World → Heap → Prop} {d : DefRec} {x : Str} (hn : l.most = some n) (hs : n ≤ sizeLine) (hd : d.params.defaults = []) (room : Room k callerA)
    (F : ∀ (w : World) (mg : Str → Option Value) (fa : Addr) (h : Heap), YP w h → h.Ns mainGlobals mg → mg d.name = some (.ref fa) → ∃ (K : PySem.W.Frag) (fd : FuncData) (Fn : DFn), K.In h ∧ TabsAre tf K h ∧ (∀ (s : Shared) (u : Value), BindsTo s fd ⟨[u], []⟩ [(x, u)]) ∧
      (∀ ns : List Int, ns.length ≤ n → ∃ b', Fn [.fl (ns.map D.int)] ⟨0, 0, 0⟩ = .ok (.bl true) b') ∧ ∀ base : Heap, K.In base → base.Ns mainGlobals mg → (∀ p ∈ cTs tf K, LamX.TabB base mg p.1 p.2) → FnG l.prog w K mg base GK k fa fd [x] (@spD (tabSet tf K) K Fn)) :
    PySem.W.WalkO q loose XP YP l.row.toRowW d [] (fun f vs => PySem.call f vs) := by
  refine Att.attach_call hn hd fun w s0 s1 mg mb fa o pm cd doc a vs ns G Y ho hdict hcode hname hobj iar len gens => ?_
  obtain ⟨K, fd, Fn, kin, ta, bt, val, go⟩ := F w mg fa _ Y G.T.g hname
  letI : TabSet := tabSet tf K
  have te : ∀ b, isTb (cTs tf K) b → s1.heap.get? b = some { cls := .none, data := .fields #[] } := fun b ⟨p, hp, e⟩ => by rw [← e]; exact ta.emp p hp
  have tn : ∀ b, isTb (cTs tf K) b → K.lookup b = none := fun b ⟨p, hp, e⟩ => by rw [← e]; exact ta.out p hp
  have aT : ¬ isTb (cTs tf K) a := fun z => by
    have g := te a z
    rw [hobj] at g
    injection g with g
    cases (congrArg Obj.data g)
  obtain ⟨b', hv⟩ := val ns len
  have rv := vals_ints iar
  have drs : ∀ (T : Hp) (ms : List Int), DRs K none T (ms.map V.int) (ms.map D.int) := fun T ms => by
    induction ms with
    | nil => exact .nil
    | cons m ms ih => exact .cons (.int m) ih
  have tbOf : ∀ p ∈ tTs tf K, isTb (cTs tf K) p.1 := fun p hp => by
    obtain ⟨d, hd, rfl⟩ := List.mem_map.mp hp
    exact ⟨_, List.mem_map.mpr ⟨d, hd, rfl⟩, rfl⟩
  -- an abstract heap that tells the tables and, where it isn't known, the script
  have run : ∀ T : Hp, (∀ b, T b = none ∨ (isTb (cTs tf K) b ∧ T b = some (.tbl #[])) ∨ ∃ o xs, T b = some (.frz o (.lst xs))) → (∀ b, isTb (cTs tf K) b → T b = some (.tbl #[])) → SqL K T a (ns.map V.int) → HOk l.prog w T s1.heap → (∀ b, T b ≠ none → b = a ∨ isTb (cTs tf K) b) → (T a ≠ none → K.lookup a = none) →
      codeAny (model l.prog w) callerA (.call (.ref fa) ⟨[.ref a], []⟩) (Fine s1) s1 := fun T on tT sq fine one out => by
    refine call_tabs T kin G.T.g G.T.b G.T.builtins G.T.nolimit gens te tn (fun p hp => PySem.W.codeHd_of_K kin (ta.hd p hp)) ta.hd G.T.bmain hobj room go bt on ?_ fine one out
    have sqS : SqL K (noTb T) a (ns.map V.int) := by
      rcases sq with (z | ⟨o, z⟩) | z
      · exact .inl (.inl (noTb_some z fun _ y => by cases y))
      · exact .inl (.inr ⟨o, noTb_some z fun _ y => by cases y⟩)
      · exact .inr z
    refine ⟨noTb T, none, ⟨0, 0, 0⟩, [.fl (ns.map D.int)], ⟨fun _ _ e => (noTb_of e).1, fun _ _ e _ => (noTb_of e).1, fun _ e => (by cases e), fun _ _ e => .inl e, noTbl_no, noTbl_no, fun p hp => ?_⟩, .cons (.fl sqS (drs _ ns)) .nil, ?_⟩
    · exact LamX.TabS.nil (tT _ (tbOf p hp))
    · rw [hv]
      intro S' H v _ _ r
      cases r
      rfl
  have sz : vs.toArray.size ≤ sizeLine := by rw [List.size_toArray, iar.length]; exact Nat.le_trans len hs
  classical
  by_cases hk : K.lookup a = none
  · refine run (fun b => if b = a then some (.frz { cls := .type "list", data := .seq vs.toArray } (.lst (ns.map V.int))) else if isTb (cTs tf K) b then some (.tbl #[]) else none) (fun b => ?_) (fun b hb => ?_) (.inl (.inr ⟨_, if_pos rfl⟩)) (fun b u z => ?_) (fun b z => ?_) fun _ => hk
    · by_cases hb : b = a
      · right; right; exact ⟨_, _, if_pos hb⟩
      · by_cases ht : isTb (cTs tf K) b
        · right; left; exact ⟨ht, (if_neg hb).trans (if_pos ht)⟩
        · left; exact (if_neg hb).trans (if_neg ht)
    · have hb' : b ≠ a := fun e => aT (by rw [← e]; exact hb)
      show (if b = a then _ else _) = _
      rw [if_neg hb', if_pos hb]
    · dsimp only at z
      by_cases hb : b = a
      · rw [if_pos hb] at z
        injection z with z
        rw [hb, ← z]
        exact ⟨hobj, by rw [List.length_map]; exact Nat.le_trans len hs, vs, _, rv, hobj⟩
      · rw [if_neg hb] at z
        by_cases ht : isTb (cTs tf K) b
        · rw [if_pos ht] at z
          injection z with z
          rw [← z]
          exact te b ht
        · rw [if_neg ht] at z; cases z
    · by_cases hb : b = a
      · exact .inl hb
      · by_cases ht : isTb (cTs tf K) b
        · exact .inr ht
        · exact absurd ((if_neg hb).trans (if_neg ht)) z
  · obtain ⟨o, ho⟩ := Option.ne_none_iff_exists'.mp hk
    have g := kin a o ho
    rw [hobj] at g
    injection g with g
    rw [← g] at ho
    refine run (fun b => if isTb (cTs tf K) b then some (.tbl #[]) else none) (fun b => ?_) (fun b hb => if_pos hb) (.inr ⟨_, vs.toArray, _, ho, rfl, rfl, rfl, sz, rv⟩) (fun b u z => ?_) (fun b z => ?_) fun z => absurd (if_neg aT) z
    · by_cases ht : isTb (cTs tf K) b
      · right; left; exact ⟨ht, if_pos ht⟩
      · left; exact if_neg ht
    · dsimp only at z
      by_cases ht : isTb (cTs tf K) b
      · rw [if_pos ht] at z
        injection z with z
        rw [← z]
        exact te b ht
      · rw [if_neg ht] at z; cases z
    · by_cases ht : isTb (cTs tf K) b
      · exact .inr ht
      · exact absurd (if_neg ht) z
end DL

set_option maxHeartbeats 1000000
namespace DL
open PySem PySem.Spec PyProof.Rows L2
variable [TB : TabSet]
@[simp] def gDput (i : Nat) (k : Str) : GF := fun d ρ b => match ρ[i]? with
  | some (some (.ow (.dct ks ds))) => if ks.length ≤ 100000 then some (ρ.set i (some (.ow (putD ks ds (.inr k) d))), b) else none
  | _ => none
end DL

set_option maxHeartbeats 1000000

set_option maxHeartbeats 2000000

set_option maxHeartbeats 2000000

set_option maxHeartbeats 2000000
namespace DL
open PySem PySem.Spec PyProof.Rows L2
variable [TB : TabSet]
/-- what is known of an exception class: the clause takes it, its flags -/
structure ErrK (K : PySem.W.Frag) (cs qs : List Value) (n : Str) (c : Str) (fl : List Bool) : Prop where
  ec : L2.ExcC K (He.ga K c)
  xf : XfC K (He.ga K c)
  no : PySem.W.findIn K (.ref (He.ga K c)) n = some none
  ex : PySem.W.exmAny K (.ref (He.ga K c)) cs = some true
  is : ∀ (i : Nat) (q : Value), qs[i]? = some q → PySem.W.kitOne K (.ref (He.ga K c)) q = some (fl.getD i false)
/-- the clause's suite, over data: e at a, what it keeps, its flags -/
def tSuite (K : PySem.W.Frag) (cs qs : List Value) (n : Str) (Gs : Addr → D → List Bool → SF) : Addr → Value → Option Addr → TS := fun a cls dx D σ H =>
  ∃ (c : Str) (dd : Addr) (g : DL.D) (fl : List Bool) (fs : List (Str × V)) (v : V) (C : Cq), cls = .ref (He.ga K c) ∧ dx = some dd ∧ ErrK K cs qs n c fl ∧ C.H0 dd = some (.xd fs) ∧ C.ba ≠ some dd ∧ fs.lookup n = some v ∧ DR K C.ba C.S0 v g ∧
    (∀ x o, C.S0 x = some o → C.H0 x = some o ∧ C.ba ≠ some x) ∧ tDS K C W0 (Gs a g fl) D σ H
def tRest (K : PySem.W.Frag) (G2 : SF) : TS := fun D σ H => ∃ C, tDS K C W0 G2 D σ H
abbrev endQ (Q : VK) : Ends := { nx := fun _ H' => Q .non H', rt := Q }
def echQ (K : PySem.W.Frag) (cs qs : List Value) (n : Str) (i N : Nat) (Gs : Addr → D → List Bool → SF) (G2 : SF) (Q : VK) : XK := fun cls d H' => ∀ σ' : L2.St, σ'.length = N → wAsT K cs i (tSuite K cs qs n Gs) (fun _ _ _ _ => False) { endQ Q with nx := fun σ H => tRest K G2 (endQ Q) σ H } cls d σ' H'
def nxQ (K : PySem.W.Frag) (N : Nat) (G2 : SF) (Q : VK) : VK := fun _ H' => ∀ σ' : L2.St, σ'.length = N → tRest K G2 (endQ Q) σ' H'
def TTc (K : PySem.W.Frag) (cs qs : List Value) (n : Str) (i N : Nat) (Gs : Addr → D → List Bool → SF) (G2 : SF) : (XK → Hp → VK → Prop) → Hp → VK → Prop := fun tl H Q => tl (echQ K cs qs n i N Gs G2 Q) H (nxQ K N G2 Q)
theorem slots_blank {K : PySem.W.Frag} {ba : Option Addr} {S H : Hp} : ∀ σ : L2.St, Slots K ba S H σ (List.replicate σ.length none) []
  | [] => .nil
  | x :: σ => .no (slots_blank σ)
theorem okS_none {K : PySem.W.Frag} {C : Cq} {S H : Hp} {b : Bag} (c : Core C S b H) (σ : L2.St) {N : Nat} (hl : σ.length = N) : OkS K C S (List.replicate N none) b σ H := by
  subst hl
  exact ⟨c, [], slots_blank σ, List.nodup_nil, fun _ h => by cases h⟩
theorem okS_set {K : PySem.W.Frag} {C : Cq} {S H : Hp} {b : Bag} (c : Core C S b H) (σ : L2.St) {N : Nat} (hl : σ.length = N) (i : Nat) (a : V) : OkS K C S ((List.replicate N none).set i (some (.sh (.obj a)))) b (σ.set i (some a)) H := by
  subst hl
  obtain ⟨O', h, l⟩ := Slots.setSh (i := i) (.obj a) (slots_blank (K := K) (ba := C.ba) (S := S) (H := H) σ)
  have e : O' = [] := List.sublist_nil.mp l
  subst e
  exact ⟨c, [], h, List.nodup_nil, fun _ h => by cases h⟩
/-- Kc tells, as data, what the def makes of an outcome -/
theorem tells_c {K : PySem.W.Frag} {cs qs : List Value} {n : Str} {i N : Nat} {Gs : Addr → D → List Bool → SF} {G2 : SF} {Kc : Out D → Option D}
    (h1 : ∀ d b1, Kc (.ok d b1) = none ∨ ∃ z, Kc (.ok d b1) = some z ∧ G2 (List.replicate N none) b1 = .rt z b1)
    (h2 : ∀ c ns ds bx, Kc (.ex c ns ds bx) = none ∨ ∃ z g fl, Kc (.ex c ns ds bx) = some z ∧ ns = [n] ∧ ds = [g] ∧ ErrK K cs qs n c fl ∧ ∀ a : Addr, Gs a g fl ((List.replicate N none).set i (some (.sh (.obj (.ref a))))) bx = .rt z bx) :
    Tells K (TTc K cs qs n i N Gs G2) Kc := by
  intro C S ρ b σ H F Q ok q
  refine ⟨C, S, ρ, b, ok, ?_⟩
  cases hF : F ρ b with
  | stuck => rw [hF] at q; exact q
  | ok d b1 =>
    rw [hF] at q
    intro S' H' e ok' v r σ' hl
    rcases h1 d b1 with h | ⟨z, h, hg⟩
    · dsimp only [tellD] at q
      rw [h] at q
      exact q.elim
    · dsimp only [tellD] at q
      rw [h] at q
      refine ⟨DL.inner C S' H', S', _, b1, okS_none ok'.core.inner σ' hl, ?_⟩
      rw [hg]
      intro S2 H2 v2 e2 c2 r2
      exact q S2 H2 (e.trans e2) (ok'.frame c2 e2) v2 r2
  | ex c ns ds bx =>
    rw [hF] at q
    intro dx S' H' b' e ok' xr hb
    subst hb
    rcases h2 c ns ds b' with h | ⟨z, g, fl, h, rfl, rfl, EK, hg⟩
    · dsimp only [tellD] at q
      rw [h] at q
      exact q.elim
    · dsimp only [tellD] at q
      rw [h] at q
      obtain ⟨dd, fs, rfl, hdd, hfs, hds⟩ := xr
      obtain ⟨v, rfl⟩ : ∃ v, fs = [(n, v)] := by
        cases fs with
        | nil => cases hfs
        | cons p fs =>
          cases fs with
          | nil => 
            obtain ⟨p1, p2⟩ := p
            have : p1 = n := by simpa using hfs
            subst this
            exact ⟨p2, rfl⟩
          | cons p' fs => simp at hfs
      have hv : DR K C.ba S' v g := by
        cases hds with
        | cons r _ => exact r
      have hS : ∀ x o, S' x = some o → noTb H' x = some o ∧ C.ba ≠ some x := fun x o hx => by
        refine ⟨noTb_some (ok'.core.sub x o hx) fun ps z => ok'.core.ns x ps (by rw [hx, z]), fun z => ?_⟩
        rw [(ok'.core.bag x z).2] at hx
        cases hx
      intro σ' hl
      refine ⟨true, EK.ex, fun _ a ha => ?_, fun z => by cases z⟩
      refine ⟨c, dd, g, fl, [(n, v)], v, DL.inner C S' H', rfl, rfl, EK, (hS dd _ hdd).1, (hS dd _ hdd).2, by simp, hv, hS, S', _, b', okS_set ok'.core.inner σ' hl i (.ref a), ?_⟩
      rw [hg a]
      intro S2 H2 v2 e2 c2 r2
      exact q S2 H2 (e.trans e2) (ok'.frame c2 e2) v2 r2
theorem pe_weak {X : Cx} {e : Expr} {te : TE} (h : PE X e te) : PE X e (fun σ H Q => ∃ Qn : VK, (∀ v H', Qn v H' → Q v H') ∧ te σ H Qn) := ⟨fun pins s σ H Q I ⟨Qn, hQ, h'⟩ => thn (h.run pins s σ H Qn I h') fun _ _ ⟨x, H1, I1, r1, q1⟩ => ⟨x, H1, I1, r1, hQ _ _ q1⟩⟩
section
variable {X : Cx} {Ng : List Str} {x a q x1 x2 x3 nm n : Str} {sg : Scope} {g : Addr} {cdg : Value} {c1 c2 c3 : Value} {qs : List Value} {i : Nat} {Gs : Addr → D → List Bool → SF} {G2 : SF} {b0 : Stmt} {suite rest : List Stmt} {pa p1 p2 p3 p4 p5 pt pos pos' : Pos} {kx}
abbrev cxG (X : Cx) (Ng : List Str) (x : Str) (sg : Scope) (g : Addr) (cdg : Value) (s : Shared) (H : Hp) : Cx := (cxOf C8.CX0 X.prog X.w X.K X.mg X.base Ng x sg g cdg X.A X.stack s H C8.E0).nox
theorem caught_gives (h0 : ∀ f : Addr, (L2.start Ng [V.ref f])[0]? = some (some (V.ref f))) (hl : ∀ f : Addr, (L2.start Ng [V.ref f]).length = Ng.length) (hN : Ng.Nodup) (hi : Ng[i]? = some nm)
    (hln : ∀ s H, (cxG X Ng x sg g cdg s H).env.kindOf nm = some .local) (hc1 : ∀ s H, Names (cxG X Ng x sg g cdg s H) x1 c1) (hc2 : ∀ s H, Names (cxG X Ng x sg g cdg s H) x2 c2) (hc3 : ∀ s H, Names (cxG X Ng x sg g cdg s H) x3 c3)
    (hswap : ∀ s H, swapsWith (.Call (.Name a p4) [] [] p5) none pa.line (cxG X Ng x sg g cdg s H).env = pure false)
    (hsu : ∀ (s : Shared) (H : Hp) (ad dd : Addr) (oe : Obj) (c : Str) (gv : D) (fl : List Bool) (fs : List (Str × V)) (v : V) (C : Cq) (pn : List (Addr × Obj)), Zc (.ref (He.ga X.K c)) (some dd) oe → (∃ vs, oe.data = .fields vs) → ErrK X.K [c1, c2, c3] qs n c fl → C.H0 dd = some (.xd fs) → C.ba ≠ some dd →
      fs.lookup n = some v → DR X.K C.ba C.S0 v gv → (∀ x o, C.S0 x = some o → C.H0 x = some o ∧ C.ba ≠ some x) → PSs ((cxG X Ng x sg g cdg s H).suite ad ((ad, oe) :: pn)) (b0 :: suite) (tDS X.K C W0 (Gs ad gv fl)))
    (hre : ∀ (s : Shared) (H : Hp) (C : Cq), PSs (cxG X Ng x sg g cdg s H) rest (tDS X.K C W0 G2)) :
    LamX.GivesTo X Ng x sg g cdg (.Try [.Expr (.Call (.Name a p4) [] [] p5) pa] [.ExceptHandler (some (.Tuple [.Name x1 p1, .Name x2 p2, .Name x3 p3] kx pt)) (some nm) (b0 :: suite) pos'] [] [] pos :: rest) a q (TTc X.K [c1, c2, c3] qs n i Ng.length Gs G2) := by
  intro f c' s H Q tl act hc h
  have hrest : PSs (cxG X Ng x sg g cdg s H) rest (tRest X.K G2) := ⟨fun pins s' σ H' D I ⟨C, z⟩ => (hre s H C).run pins s' σ H' D I z⟩
  have htry := ps_try_as3 (X := cxG X Ng x sg g cdg s H) (i := i) (c1 := c1) (c2 := c2) (c3 := c3) (body := [.Expr (.Call (.Name a p4) [] [] p5) pa]) (suite := suite) (b0 := b0) (p1 := p1) (p2 := p2) (p3 := p3) (pt := pt) (pos := pos) (pos' := pos') (kx := kx) (Wout := fun _ _ _ _ => False)
    (tb := fun W D σ H => ∃ (Ech : XK) (Qn : VK), (∀ cls d (σ' : L2.St) H', Ech cls d H' → σ'.length = Ng.length → W cls d σ' H') ∧ σ[0]? = some (some (.ref f)) ∧ H c' = some (LamX.CodeO c' q) ∧ tl Ech H Qn ∧ ∀ v H', Qn v H' → D.nx σ H')
    (ts := tSuite X.K [c1, c2, c3] qs n Gs) rfl rfl hN hi (hln s H) (hc1 s H) (hc2 s H) (hc3 s H) LamX.takes0
    (fun W pn xe tk _ => ⟨fun pins s' σ H' D I ⟨Ech, Qn, hW, e1, e2, e3, e4⟩ => by
      have tk2 : Takes ((cxG X Ng x sg g cdg s H).tr pn xe) (fun cls d σ' H' => σ'.length = Ng.length → W cls d σ' H') := fun u s' ⟨a, B, sI, pins, σ, H, cls, d, e, I, nb, up, sky, na, os, ag, w⟩ => tk u s' ⟨a, B, sI, pins, σ, H, cls, d, e, I, nb, up, sky, na, os, ag, w I.len⟩
      have hp := pe_weak (act (fun cls d σ' H' => σ'.length = Ng.length → W cls d σ' H') pn xe Ech p4 p5 tk2 (fun cls d σ' H' z hl => hW cls d σ' H' z hl))
      have hq := pss_one (ps_expr (pos := pa) hp (hswap s H))
      exact hq.run pins s' σ H' D I ⟨Qn, e4, e1, e2, e3⟩⟩)
    (fun ad oe cls dx pn hz hf => ⟨fun pins s' σ H' D I ⟨c, dd, gv, fl, fs, v, C, ec, ed, EK, y1, y2, y3, y4, y5, z⟩ => by
      subst ec
      subst ed
      exact (hsu s H ad dd oe c gv fl fs v C pn hz hf EK y1 y2 y3 y4 y5).run pins s' σ H' D I z⟩)
  refine ⟨_, pss_cons htry hrest, ?_⟩
  refine ⟨echQ X.K [c1, c2, c3] qs n i Ng.length Gs G2 Q, nxQ X.K Ng.length G2 Q, fun cls d σ' H' z hl => z σ' hl, h0 f, hc, h, fun v H' z => z _ (hl f)⟩
end
end DL

set_option maxHeartbeats 2000000
namespace DL
open PySem PySem.Spec PyProof.Rows L2
variable [TB : TabSet]
def rReprA (K : PySem.W.Frag) : List V → Hp → VK → Prop := fun vs H Q => rReprN K vs H Q ∨ (∃ x, vs = [.str x] ∧ (reprText x).length ≤ 1000000 ∧ Q (.str (reprText x)) H) ∨ ∃ a o, vs = [.ref a] ∧ H a = some (.frz o (.dK [])) ∧ Q (.str "{}") H
theorem cr_reprA {X : Cx} (hg : X.A.guards = some []) (hu : X.A.units + 64 < cLine) : CallR X (.builtin "repr") (rReprA X.K) := by
  intro pins s σ H xs us Q I r h
  rcases h with h | ⟨x, rfl, hl, q⟩ | ⟨a, o, rfl, ha, q⟩
  · exact cr_reprN hg hu pins s σ H xs us Q I r h
  · cases r with
    | cons r1 r2 =>
      cases r2
      obtain ⟨t, rfl⟩ := r1
      exact PySem.P.repr_of_str ⟨.str _, H, I.tok _, ⟨_, rfl⟩, q⟩ (by rw [sizeLine_eq]; omega)
  · cases r with
    | cons r1 r2 =>
      cases r2
      cases r1
      obtain ⟨_, _, hsm, vs, hk, ob, es, n, e1, e2, e3, e4⟩ := I.hok a _ ha
      have hv : vs = [] := by cases hk; rfl
      subst hv
      have e5 : es.toList = [] := by
        have z := e4.2.1
        cases hz : es.toList with
        | nil => rfl
        | cons p ps => rw [hz] at z; cases z
      have rd : Reads s.heap (.ref a) (.dict []) (a :: [] ++ []) := .dict e1 e2.1 e3 (by rw [e5]; exact .nil) (by rw [e5]; exact .nil)
      have q' : ∀ h' u tk, (∀ b o, s.heap.get? b = some o → h'.get? b = some o) → EP X pins σ Q (.str (PyData.dict []).shown u) { s with heap := h', toks := tk } := fun h' u tk hk => ⟨.str "{}", H, I.kept hk, ⟨u, rfl⟩, q⟩
      exact repr_of_reads' rd rfl (fun _ hm => by
        have : sysModules = a := by simpa using hm
        rw [← this] at hsm
        simp at hsm) hg (by show X.A.units + (1 + 1) < cLine; omega) (fun _ _ z => z) q' (by rw [sizeLine_eq]; decide)
def reprA : List D → Option D
  | [.str x] => if (reprText x).length ≤ 1000000 then some (.str (reprText x)) else none
  | [.dct [] []] => some (.str "{}")
  | ds => reprN ds
theorem c_reprA {K : PySem.W.Frag} {C : Cq} : CallD K C (rReprA K) reprA := by
  intro S ρ b σ H vs ds z Q ok rs hz q
  unfold reprA at hz
  split at hz
  · split at hz
    · rename_i hl
      cases hz
      cases rs with
      | cons r1 r2 => cases r2; cases r1; exact .inr (.inl ⟨_, rfl, hl, q _ S H (Same.refl _) ok (.str _)⟩)
    · cases hz
  · cases hz
    cases rs with
    | cons r1 r2 =>
      cases r2
      cases r1 with
      | dct h1 h2 h3 =>
        rename_i a o kvs
        have : kvs = [] := List.map_eq_nil_iff.mp h2
        subst this
        exact .inr (.inr ⟨a, o, rfl, ok.core.sub _ _ h1, q _ S H (Same.refl _) ok (.str _)⟩)
  · exact .inl (c_reprN S ρ b σ H vs ds z Q ok rs hz q)
section
variable {X : Cx} {C : Cq} {W : WX} {a : Expr} {pos : Pos} {G : AF}
theorem d_reprA {p : Pos} (hgd : X.A.guards = some []) (hu : X.A.units + 64 < cLine) (hg : Gl X "repr") (hm : X.mg "repr" = none) (ha : PA X [a] (tDA X.K C W G)) (he : starEach [a] X.env = (false, eval a X.env) :: starEach [] X.env := by rfl) (hpl : (backTo pos (starEach [] X.env)).any (·.1) = false := by rfl) :
    PE X (.Call (.Name "repr" p) [a] [] pos) (tD X.K C W (eB reprA G)) := d_callB (cr_reprA hgd hu) c_reprA hg hm (by decide +kernel) ha (by decide) (by decide) he hpl
end
end DL

set_option maxHeartbeats 2000000
namespace DL
open PySem PySem.Spec PyProof.Rows L2
variable [TB : TabSet]
def eIsE (i : Nat) (a : Addr) (v : Bool) : EF := fun ρ b => match ρ[i]? with
  | some (some (.sh (.obj (.ref a')))) => if a' = a then .ok (.bl v) b else .stuck
  | _ => .stuck
def isET (a : Addr) (t : String) (v : Bool) : List D → Option D
  | [.obj (.ref a'), .obj (.ty t')] => if a' = a ∧ t' = t then some (.bl v) else none
  | _ => none
theorem c_isET {K : PySem.W.Frag} {C : Cq} {E a dd : Addr} {t : String} {v : Bool} (hd : ∃ fs, C.H0 dd = some (.xd fs)) (hba : C.ba ≠ some dd) (hk : PySem.W.kitOne K (.ref E) (.type t) = some v) : CallD K C (rIsEd K E a dd) (isET a t v) := by
  intro S ρ b σ H vs ds z Q ok rs hz q
  unfold isET at hz
  split at hz
  · rename_i a' t'
    by_cases h : a' = a ∧ t' = t
    · rw [if_pos h] at hz
      cases hz
      obtain ⟨rfl, rfl⟩ := h
      cases rs with
      | cons r1 r2 =>
        cases r2 with
        | cons r3 r4 =>
          cases r4
          cases r1
          cases r3
          obtain ⟨fs, hd⟩ := hd
          exact ⟨⟨fs, ok.core.fr dd _ hd hba⟩, _, .type t', v, rfl, fun u r => r, hk, q _ S H (Same.refl _) ok (.bl _)⟩
    · rw [if_neg h] at hz
      cases hz
  · cases hz
section
variable {X : Cx} {C : Cq} {W : WX} {E a A dd : Addr} {t : String} {v : Bool} {oe : Obj} {pn : List (Addr × Obj)} {e1 e2 : Expr} {pos p : Pos} {i : Nat}
theorem d_isEX (c : L2.ExcC X.K E) (hz : Zc (.ref E) (some dd) oe) (hf : ∃ vs, oe.data = .fields vs) (hd : ∃ fs, C.H0 dd = some (.xd fs)) (hba : C.ba ≠ some dd) (hk : PySem.W.kitOne X.K (.ref E) (.ref A) = some v)
    (hg : Gl (X.suite a ((a, oe) :: pn)) "isinstance") (hm : X.mg "isinstance" = none) (h1 : PE (X.suite a ((a, oe) :: pn)) e1 (tD X.K C W (eV i))) (h2 : PE (X.suite a ((a, oe) :: pn)) e2 (tD X.K C W (eC (.obj (.ref A)))))
    (he : starEach [e1, e2] (X.suite a ((a, oe) :: pn)).env = (false, eval e1 (X.suite a ((a, oe) :: pn)).env) :: starEach [e2] (X.suite a ((a, oe) :: pn)).env := by rfl) (he2 : starEach [e2] (X.suite a ((a, oe) :: pn)).env = (false, eval e2 (X.suite a ((a, oe) :: pn)).env) :: starEach [] (X.suite a ((a, oe) :: pn)).env := by rfl) (hpl : (backTo pos (starEach [e2] (X.suite a ((a, oe) :: pn)).env)).any (·.1) = false := by rfl) :
    PE (X.suite a ((a, oe) :: pn)) (.Call (.Name "isinstance" p) [e1, e2] [] pos) (tD X.K C W (eIsE i a v)) :=
  pe_imp (d_isE (G := aCons (eV i) (aCons (eC (.obj (.ref A))) aNil)) c hz hf hd hba hk hg hm (d_acons h1 (d_acons h2 d_anil he2) he) he hpl) fun σ H Q ⟨S, ρ, b, ok, q⟩ => ⟨S, ρ, b, ok, by
    unfold eIsE at q
    split at q
    · rename_i a' hr
      split at q
      · rename_i ha
        subst ha
        have hv : eV i ρ b = .ok (.obj (.ref a')) b := by simp [hr]
        have e : eB (isEF a' A v) (aCons (eV i) (aCons (eC (.obj (.ref A))) aNil)) ρ b = .ok (.bl v) b := by
          simp only [eB, aCons, hv, bind_ok_, eC, aNil, isEF]
          simp
        rw [e]
        exact q
      · exact q.elim
    · exact q.elim⟩
theorem d_isEY (c : L2.ExcC X.K E) (hz : Zc (.ref E) (some dd) oe) (hf : ∃ vs, oe.data = .fields vs) (hd : ∃ fs, C.H0 dd = some (.xd fs)) (hba : C.ba ≠ some dd) (hk : PySem.W.kitOne X.K (.ref E) (.type t) = some v)
    (hg : Gl (X.suite a ((a, oe) :: pn)) "isinstance") (hm : X.mg "isinstance" = none) (h1 : PE (X.suite a ((a, oe) :: pn)) e1 (tD X.K C W (eV i))) (h2 : PE (X.suite a ((a, oe) :: pn)) e2 (tD X.K C W (eC (.obj (.ty t)))))
    (he : starEach [e1, e2] (X.suite a ((a, oe) :: pn)).env = (false, eval e1 (X.suite a ((a, oe) :: pn)).env) :: starEach [e2] (X.suite a ((a, oe) :: pn)).env := by rfl) (he2 : starEach [e2] (X.suite a ((a, oe) :: pn)).env = (false, eval e2 (X.suite a ((a, oe) :: pn)).env) :: starEach [] (X.suite a ((a, oe) :: pn)).env := by rfl) (hpl : (backTo pos (starEach [e2] (X.suite a ((a, oe) :: pn)).env)).any (·.1) = false := by rfl) :
    PE (X.suite a ((a, oe) :: pn)) (.Call (.Name "isinstance" p) [e1, e2] [] pos) (tD X.K C W (eIsE i a v)) :=
  pe_imp (d_callB (X := X.suite a ((a, oe) :: pn)) (G := aCons (eV i) (aCons (eC (.obj (.ty t))) aNil)) (call_isEd c hz hf) (c_isET hd hba hk) hg hm PyProof.Rows.boot_isinstance (d_acons h1 (d_acons h2 d_anil he2) he) (by decide) (by decide) he hpl) fun σ H Q ⟨S, ρ, b, ok, q⟩ => ⟨S, ρ, b, ok, by
    unfold eIsE at q
    split at q
    · rename_i a' hr
      split at q
      · rename_i ha
        subst ha
        have hv : eV i ρ b = .ok (.obj (.ref a')) b := by simp [hr]
        have e : eB (isET a' t v) (aCons (eV i) (aCons (eC (.obj (.ty t))) aNil)) ρ b = .ok (.bl v) b := by
          simp only [eB, aCons, hv, bind_ok_, eC, aNil, isET]
          simp
        rw [e]
        exact q
      · exact q.elim
    · exact q.elim⟩
end
def HasAct (K : PySem.W.Frag) (mg : Str → Option Value) (x : Str) (st : Stmt) (a : Str) : Prop := ∃ g fd, Fun K x x st g fd ∧ mg x = some (.ref g) ∧ Binds K fd [a] []
section
variable {X : Cx} {C : Cq} {W : WX} {F : EF} {Kc : Out D → Option D} {TT : (XK → Hp → VK → Prop) → Hp → VK → Prop} {x a : Str} {st : Stmt} {Ng : List Str} {params : Arguments} {body : Expr} {scope : Scope} {p lpos pos : Pos} {k : Nat}
theorem d_lamA (HA : HasAct X.K X.mg x st a) (tells : Tells X.K TT Kc) (hg : Gl X x) (Sg : FnScope Ng [a] (defScope st)) (hNg : Ng[0]? = some a) (hva : Vis (defScope st) a)
    (hG : ∀ (g : Addr) (cdv : Value), LamX.GivesTo X Ng x (defScope st) g cdv (defBody st) a (X.env.qual ++ "<lambda>") TT)
    (LT : LamT X.base X.mg X.env.code (X.env.qual ++ "<lambda>")) (hr : Room (k + 2) X.A) (L : LamX.lamSB X.env.scope scope = true)
    (hbody : ∀ (A : Around) (outer : List PySem.Env) (s : Shared) (H : Hp) (E : XK) (f c' : Addr) (C : Cq), Room k (A.deeper (LamX.lamEnv X scope s.heap.objs.size f c')) → PE (LamX.lamCx X A outer s H E scope f c') body (tD X.K C (WD E) F))
    (hdef : defaultsOf params X.env = ([], []) := by rfl)
    (hbind : ∀ (q : Str) (cl : List (Str × Addr)) (pm cv ctv : Value), bindArgs (PySem.W.kla_fn "<lambda>" q params body scope cl pm cv ctv) ⟨[], []⟩ = pure [] := by intros; rfl)
    (hdb : (x == ("__debug__" : Str)) = false := by decide) (hd : (a == ("__debug__" : Str)) = false := by decide) (hcd : (a == ("__classdict__" : Str)) = false := by decide) :
    PE X (.Call (.Name x p) [.Lambda params body scope lpos] [] pos) (tD X.K C W (eTold Kc F)) := by
  obtain ⟨g, fd, Fu, hm, hb⟩ := HA
  have hk := Fu.kp
  obtain ⟨oc, od, kV, doc, pm, an, cdv, ct, osl, rfl, lk, hc⟩ := Fu.ex
  exact d_lam tells hg hm hk lk hc hb Sg hNg hva (hG g cdv) LT hr (LamX.lamS_by L) hdef hbind hbody hdb hd hcd
end
theorem exccB_ok {K : PySem.W.Frag} {D : Addr} (h : exccB K D = true) : L2.ExcC K D ∧ XfC K D := by
  unfold exccB at h
  simp only [Bool.and_eq_true, decide_eq_true_eq] at h
  obtain ⟨h1, h2, h3, h4, h5, h6, h7, h8⟩ := h
  exact ⟨⟨h1, h2, h3, h4, h5, h6, h7, h8⟩, ⟨h1, h2, h3, h4⟩⟩
theorem errB_ok {K : PySem.W.Frag} {cs : List Str} {qs : List (Sum Str String)} {n c : Str} {fl : List Bool} (h : errB K cs qs n c fl = true) : ErrK K (cs.map fun x => .ref (He.ga K x)) (qs.map (qV K)) n c fl := by
  unfold errB at h
  simp only [Bool.and_eq_true, decide_eq_true_eq, List.all_eq_true, List.mem_range] at h
  obtain ⟨h1, h2, h3, h4⟩ := h
  refine ⟨(exccB_ok h1).1, (exccB_ok h1).2, h2, h3, fun i q hq => ?_⟩
  rw [List.getElem?_map] at hq
  cases hi : qs[i]? with
  | none => rw [hi] at hq; cases hq
  | some q' =>
    rw [hi] at hq
    have := h4 i (List.getElem?_eq_some_iff.mp hi).1
    rw [hi] at this
    cases hq
    exact of_decide_eq_true this
end DL

set_option maxHeartbeats 2000000
namespace DL
open PySem PySem.Spec PyProof.Rows L2
def G__law_first : SF := (sRet (eIx (e2 addF (eLc (aAny (eV 0)) [1] (gN 1) (bB (e2 neF (eV 1) (eLst aNil))) (eV 1)) (eLst (aCons (eLst aNil) aNil))) (eC (.int 0))))
def F__law_first : DFn := runD 2 1 (G__law_first)
end DL

set_option maxHeartbeats 2000000
namespace DL
open PySem PySem.Spec PyProof.Rows L2
variable [TB : TabSet]
theorem hu1 {A : Around} (h : A.units + 64 < cLine) : A.units + 1 < cLine := by omega
def Getter (K : PySem.W.Frag) (M : Addr) (pr fl : Str) : Prop := ∃ p g fd, PropOf K M pr p g ∧ (∀ P w mg base, FnOk P w K mg base CX0 1 g fd ["self"] (getSp M fl)) ∧ Binds K fd ["self"] []
structure Facts (K : PySem.W.Frag) (mg : Str → Option Value) (M : Addr) : Prop where
  m_ValueError : mg "ValueError" = none
  m_abs : mg "abs" = none
  m_all : mg "all" = none
  m_any : mg "any" = none
  m_bool : mg "bool" = none
  m_divmod : mg "divmod" = none
  m_enumerate : mg "enumerate" = none
  m_int : mg "int" = none
  m_isinstance : mg "isinstance" = none
  m_len : mg "len" = none
  m_list : mg "list" = none
  m_max : mg "max" = none
  m_min : mg "min" = none
  m_range : mg "range" = none
  m_repr : mg "repr" = none
  m_str : mg "str" = none
  m_sum : mg "sum" = none
  m_tuple : mg "tuple" = none
  m_zip : mg "zip" = none
  m_EVEN : ∃ t, mg "EVEN" = some (.int 0 t)
  m_MOST_COLOUR : ∃ t, mg "MOST_COLOUR" = some (.int 6 t)
  m_MOST_LETTERS : ∃ t, mg "MOST_LETTERS" = some (.int 3 t)
  m_MOST_STATES : ∃ t, mg "MOST_STATES" = some (.int 6 t)
  m_ODD : ∃ t, mg "ODD" = some (.int 1 t)
  m_AGAIN : ∃ t, mg "AGAIN" = some (.str "again" t)
  m_ALPHABET : ∃ t, mg "ALPHABET" = some (.str "abcdefghijklmnopqrstuvwxyz" t)
  m_STAYS : ∃ t, mg "STAYS" = some (.str "stays" t)
  c_BadValue : mg "BadValue" = some (.ref (He.ga K "BadValue"))
  c_BadName : mg "BadName" = some (.ref (He.ga K "BadName"))
  c_NoAnswer : mg "NoAnswer" = some (.ref (He.ga K "NoAnswer"))
  c_NotAMachine : mg "NotAMachine" = some (.ref (He.ga K "NotAMachine"))
  c_InvalidVerdict : mg "InvalidVerdict" = some (.ref (He.ga K "InvalidVerdict"))
  c_OtherLetters : mg "OtherLetters" = some (.ref (He.ga K "OtherLetters"))
  e_NotAMachine : ErrK K ((["BadValue", "BadName", "NoAnswer"] : List Str).map fun x => .ref (He.ga K x)) (([.inl "NotAMachine", .inl "InvalidVerdict", .inl "OtherLetters", .inl "BadValue", .inl "BadName", .inl "NoAnswer", .inr "ValueError"] : List (Sum Str String)).map (qV K)) "given" "NotAMachine" [true, false, false, true, false, false, true]
  e_InvalidVerdict : ErrK K ((["BadValue", "BadName", "NoAnswer"] : List Str).map fun x => .ref (He.ga K x)) (([.inl "NotAMachine", .inl "InvalidVerdict", .inl "OtherLetters", .inl "BadValue", .inl "BadName", .inl "NoAnswer", .inr "ValueError"] : List (Sum Str String)).map (qV K)) "given" "InvalidVerdict" [false, true, false, true, false, false, true]
  e_OtherLetters : ErrK K ((["BadValue", "BadName", "NoAnswer"] : List Str).map fun x => .ref (He.ga K x)) (([.inl "NotAMachine", .inl "InvalidVerdict", .inl "OtherLetters", .inl "BadValue", .inl "BadName", .inl "NoAnswer", .inr "ValueError"] : List (Sum Str String)).map (qV K)) "given" "OtherLetters" [false, false, true, true, false, false, true]
  m_Machine : mg "Machine" = some (.ref M)
  cM : Cls K M
  iM : ClsI K M
  n_letters : NoAttr K M "_letters"
  n_states : NoAttr K M "_states"
  g_letters : Getter K M "letters" "_letters"
  g_states : Getter K M "states" "_states"
  k_str : PySem.W.kitOne K (.ref M) (.type "str") = some false
  k_int : PySem.W.kitOne K (.ref M) (.type "int") = some false
  k_bool : PySem.W.kitOne K (.ref M) (.type "bool") = some false
  k_tuple : PySem.W.kitOne K (.ref M) (.type "tuple") = some false
  k_M : PySem.W.kitOne K (.ref M) (.ref M) = some true
  k_b : ∀ n, kitM n = some false → PySem.W.kitOne K (.type n) (.ref M) = some false
theorem Facts.own {K : PySem.W.Frag} {mg : Str → Option Value} {M : Addr} (T : Facts K mg M) {u : Value} (h : PySem.W.kitOne K (.ref M) u = some false) {A : Addr} {b : Bool} (e : ownB M A = some b) : ClsI K A ∧ PySem.W.kitOne K (.ref A) u = some b := by
  unfold ownB at e
  split at e
  · rename_i hA; subst hA; cases e; exact ⟨T.iM, h⟩
  · cases e
theorem Facts.ownM {K : PySem.W.Frag} {mg : Str → Option Value} {M : Addr} (T : Facts K mg M) {A : Addr} {b : Bool} (e : DL.ownM M A = some b) : ClsI K A ∧ PySem.W.kitOne K (.ref A) (.ref M) = some b := by
  unfold DL.ownM at e
  split at e
  · rename_i hA; subst hA; cases e; exact ⟨T.iM, T.k_M⟩
  · cases e
theorem Facts.kitM {K : PySem.W.Frag} {mg : Str → Option Value} {M : Addr} (T : Facts K mg M) {n : String} {b : Bool} (e : DL.kitM n = some b) : PySem.W.kitOne K (.type n) (.ref M) = some b := by
  have : b = false := by
    unfold DL.kitM at e
    split at e
    · cases e; rfl
    · cases e
  subst this
  exact T.k_b n e
section
variable {X : Cx} {C : Cq} {W : WX} {E : XK} {e : Expr} {es : List Expr} {pos p : Pos} {F : EF} {G : AF} {x : Str}
theorem d_propG {A : Addr} {f pr : Str} {k : Nat} (he : PE X e (tD X.K C W F)) (c : Cls X.K A) (h : Getter X.K A pr f) (hr : Room k X.A) (hj : 2 ≤ k) (hab : attributeBase e pr X.env (eval e X.env) = eval e X.env := by rfl) : PE X (.Attribute e pr pos) (tD X.K C W (e1 (fldF A f) F)) := by
  obtain ⟨pp, g, fd, hp, FO, hb⟩ := h
  exact d_prop he c hp (FO _ _ _ _) (hr.mono hj) hb hab
/-- a def by its name, called with keywords alone -/
def HasK (P : Program) (w : World) (K : PySem.W.Frag) (mg : Str → Option Value) (base : Heap) (Gd : Around → Prop) (k : Nat) (x : Str) (ps ks : List Str) (perm : List Nat) (sp : Sp) : Prop :=
  ∃ f fd, FnG P w K mg base Gd k f fd ps sp ∧ mg x = some (.ref f) ∧ PySem.W.keepIn K (.ref f) = true ∧ KBn K fd ps 0 ks (fun _ ws => pick perm ws) (fun _ vs => pick perm vs)
theorem d_callKH {Fn : DFn} {j k : Nat} {ps ks : List Str} {perm : List Nat} {kws : List Keyword} (h : HasK X.prog X.w X.K X.mg X.base GT j x ps ks perm (spD X.K Fn)) (hr : Room k X.A) (hj : j ≤ k) (hg : Gl X x) (hx : Passes (L2.CX X.prog X.w) X E) (hkw : PK X kws (tDA X.K C (WD E) G))
    (hall : (backToKw pos (keywordEach kws X.env)).all (·.1.isSome) = true := by rfl) (hks : (backToKw pos (keywordEach kws X.env)).filterMap (·.1) = ks := by rfl)
    (hdb : (x == ("__debug__" : Str)) = false := by decide) (hpl : ((backTo pos (starEach [] X.env)).any (·.1) || (backToKw pos (keywordEach kws X.env)).any (·.1.isNone)) = false := by rfl) :
    PE X (.Call (.Name x p) [] kws pos) (tD X.K C (WD E) (eCallK ks.length Fn (pick perm) G)) := by
  obtain ⟨f, fd, FO, hm, hk, hb⟩ := h
  exact d_callK0 FO.fnok (hr.mono hj) hg hm hk hb (fun _ _ _ _ r => pick_dr r perm) hx hkw hall hks hdb hpl
end
section
variable {P : Program} {w : World} {K : PySem.W.Frag} {mg : Str → Option Value} {base : Heap} {M fa : Addr} {fd : FuncData}
def N_state_row : List Str := ["state", "number"]
def P_state_row : List Str := ["state"]
theorem sc_state_row : FnScope N_state_row P_state_row (defScope s_state_row) := ⟨rfl, rfl, rfl, by decide +kernel, rfl, by decide +kernel, by decide +kernel⟩
theorem ok_state_row (T : Facts K mg M) (Fu : Fun K "state_row" "state_row" s_state_row fa fd) : FnG P w K mg base GT 1 fa fd P_state_row (spD K (F_state_row)) := by
  refine d_def (N := N_state_row) (ps := P_state_row) (G := G_state_row) Fu sc_state_row fun cdv A outer s H E C hr hg => ?_
  have nd := sc_state_row.nd
  have hu := hr.units
  exact (d_one (d_ret (d_bm PySem.F.slot_str_join PySem.F.type_str_join mt_join m_join (d_const pe_str fun _ => .str _) (d_acons (d_share (d_lst (d_acons (d_const pe_str fun _ => .str _) (d_acons (d_str1 rfl T.m_str (d_acons (d_ix (d_var (pv 0)) (d_const pe_int fun _ => .int _) (fun _ _ => rfl)) d_anil)) (d_astar (d_share (d_lc (ctg_name (i := 1) (by decide)) (pe_lc (own := [("number", 1)]) rfl nd (d_iany (d_ix (d_var (pv 0)) (d_const pe_int fun _ => .int _) (fun _ _ => rfl))) (blkOk_by (N := N_state_row) (sc := defScope s_state_row) (by decide +kernel)) (fun _ _ _ _ _ => (pg_name (i := 1) nd rfl (Or.inl rfl))) (fun _ _ _ _ _ => d_tsany fun C => d_tsnil) (fun _ _ _ _ _ => d_any fun C => (d_str1 rfl T.m_str (d_acons (d_var (pv 1)) d_anil)))))) d_anil))))) d_anil))))
def N_Machine_str_ : List Str := ["self", "state"]
def P_Machine_str_ : List Str := ["self"]
theorem sc_Machine_str_ : FnScope N_Machine_str_ P_Machine_str_ (defScope s_Machine_str_) := ⟨rfl, rfl, rfl, by decide +kernel, rfl, by decide +kernel, by decide +kernel⟩
theorem ok_Machine_str_ (T : Facts K mg M) (Fu : Fun K "__str__" "Machine.__str__" s_Machine_str_ fa fd) (H_state_row : Has P w K mg base GT 1 "state_row" P_state_row (spD K (F_state_row))) : FnG P w K mg base GT 2 fa fd P_Machine_str_ (spD K (F_Machine_str_ M)) := by
  refine d_def (N := N_Machine_str_) (ps := P_Machine_str_) (G := G_Machine_str_ M) Fu sc_Machine_str_ fun cdv A outer s H E C hr hg => ?_
  have nd := sc_Machine_str_.nd
  have hu := hr.units
  exact (d_one (d_ret (d_bm PySem.F.slot_str_join PySem.F.type_str_join mt_join m_join (d_const pe_str fun _ => .str _) (d_acons (d_share (d_lst (d_acons (d_j2 (d_const pe_str fun _ => .str _) (d_fld (d_var (pv 0)) T.cM T.n_letters)) (d_astar (d_share (d_lc (ctg_name (i := 1) (by decide)) (pe_lc (own := [("state", 1)]) rfl nd (d_iany (d_fld (d_var (pv 0)) T.cM T.n_states)) (blkOk_by (N := N_Machine_str_) (sc := defScope s_Machine_str_) (by decide +kernel)) (fun _ _ _ _ _ => (pg_name (i := 1) nd rfl (Or.inl rfl))) (fun _ _ _ _ _ => d_tsany fun C => d_tsnil) (fun _ _ _ _ _ => d_any fun C => (d_callH (k := 1) H_state_row hr (by decide) trivial rfl takes0 (d_acons (d_var (pv 1)) d_anil)))))) d_anil)))) d_anil))))
def HasStr (P : Program) (w : World) (K : PySem.W.Frag) (mg : Str → Option Value) (base : Heap) (M : Addr) : Prop := ∃ f fd, PySem.W.findIn K (.ref M) "__str__" = some (some (.ref f)) ∧ PySem.W.isFn K (.ref f) = true ∧ FnG P w K mg base GT 2 f fd P_Machine_str_ (spD K (F_Machine_str_ M)) ∧ Binds K fd P_Machine_str_ []
theorem d_strH {X : Cx} {C : Cq} {W : WX} {a : Expr} {pos p : Pos} {G : AF} {k : Nat} (h : HasStr X.prog X.w X.K X.mg X.base M) (hr : Room k X.A) (hj : 2 + 2 ≤ k) (hg : Gl X "str") (hm : X.mg "str" = none) (ha : PA X [a] (tDA X.K C W G)) (he : starEach [a] X.env = (false, eval a X.env) :: starEach [] X.env := by rfl)
    (hpl : (backTo pos (starEach [] X.env)).any (·.1) = false := by rfl) : PE X (.Call (.Name "str" p) [a] [] pos) (tD X.K C W (eStrO M (F_Machine_str_ M) G)) := by
  obtain ⟨f, fd, hs, hf, FO, hb⟩ := h
  exact d_strO hs hf FO.fnok (hr.mono hj) hb hg hm ha he hpl
def N__law_draw : List Str := ["_law_purse_here", "_law_size", "_law_seed", "_law_by", "_law_digit"]
def P__law_draw : List Str := ["_law_purse_here", "_law_size"]
theorem sc__law_draw : FnScope N__law_draw P__law_draw (defScope s__law_draw) := ⟨rfl, rfl, rfl, by decide +kernel, rfl, by decide +kernel, by decide +kernel⟩
theorem ok__law_draw (T : Facts K mg M) (Fu : Fun K "_law_draw" "_law_draw" s__law_draw fa fd) : FnG P w K mg base GT 1 fa fd P__law_draw (spD K (F__law_draw)) := by
  refine d_def (N := N__law_draw) (ps := P__law_draw) (G := G__law_draw) Fu sc__law_draw fun cdv A outer s H E C hr hg => ?_
  have nd := sc__law_draw.nd
  have hu := hr.units
  exact (d_cons (d_par2 (ps_par rfl nd rfl rfl (by decide) rfl rfl (d_acons (d_ix (d_var (pv 0)) (d_const pe_int fun _ => .int _) (fun _ _ => rfl)) (d_acons (d_add (d_mod (d_int rfl T.m_int (d_acons (d_ix (d_var (pv 0)) (d_const pe_int fun _ => .int _) (fun _ _ => rfl)) d_anil)) (d_const pe_int fun _ => .int _)) (d_const pe_int fun _ => .int _)) d_anil)) rfl)) (d_cons (d_asg (d_add (d_ix (d_var (pv 0)) (d_const pe_int fun _ => .int _) (fun _ _ => rfl)) (d_const pe_int fun _ => .int _)) (d_gbag (pg_sub (pv 0) pe_int set_list (fun _ => rfl)))) (d_cons (d_asg (d_mod (d_int rfl T.m_int (d_acons (d_add (d_add (d_mul (d_var (pv 2)) (d_var (pv 3))) (d_mul (d_const pe_int fun _ => .int _) (d_ix (d_var (pv 0)) (d_const pe_int fun _ => .int _) (fun _ _ => rfl)))) (d_const pe_int fun _ => .int _)) d_anil)) (d_const pe_int fun _ => .int _)) (d_gbag (pg_sub (pv 0) pe_int set_list (fun _ => rfl)))) (d_cons (d_sif (t_gt (d_ix (d_var (pv 0)) (d_const pe_int fun _ => .int _) (fun _ _ => rfl)) (d_const pe_int fun _ => .int _)) (d_cons (d_asg (d_divmod rfl T.m_divmod (d_acons (d_ix (d_var (pv 0)) (d_const pe_int fun _ => .int _) (fun _ _ => rfl)) (d_acons (d_var (pv 1)) d_anil))) (d_gtup rfl (d_gcons (d_gbag (pg_sub (pv 0) pe_int set_list (fun _ => rfl))) (d_gcons (d_gname (pg_name (i := 4) nd rfl (Or.inl rfl))) d_gnil)))) (d_one (d_ret (d_var (pv 4))))) d_nil) (d_one (d_ret (d_mod (d_int rfl T.m_int (d_acons (d_fdiv (d_ix (d_var (pv 0)) (d_const pe_int fun _ => .int _) (fun _ _ => rfl)) (d_const pe_int fun _ => .int _)) d_anil)) (d_var (pv 1)))))))))
def N__law_pick : List Str := ["_law_purse_here", "_law_menu"]
def P__law_pick : List Str := ["_law_purse_here", "_law_menu"]
theorem sc__law_pick : FnScope N__law_pick P__law_pick (defScope s__law_pick) := ⟨rfl, rfl, rfl, by decide +kernel, rfl, by decide +kernel, by decide +kernel⟩
theorem ok__law_pick (T : Facts K mg M) (Fu : Fun K "_law_pick" "_law_pick" s__law_pick fa fd) (H__law_draw : Has P w K mg base GT 1 "_law_draw" P__law_draw (spD K (F__law_draw))) : FnG P w K mg base GT 2 fa fd P__law_pick (spD K (F__law_pick)) := by
  refine d_def (N := N__law_pick) (ps := P__law_pick) (G := G__law_pick) Fu sc__law_pick fun cdv A outer s H E C hr hg => ?_
  have nd := sc__law_pick.nd
  have hu := hr.units
  exact (d_one (d_ret (d_ix (d_var (pv 1)) (d_callH (k := 1) H__law_draw hr (by decide) trivial rfl (takes_of rfl rfl rfl rfl) (d_acons (d_var (pv 0)) (d_acons (d_len rfl T.m_len (d_acons (d_var (pv 1)) d_anil)) d_anil))) (fun _ _ => rfl))))
def N__law_tool : List Str := ["_law_purse_here", "_law_letters_here", "_law_most", "_law_top", "_law_many", "_law_found", "_law_k", "_law_targets_here", "_law_letter"]
def P__law_tool : List Str := ["_law_purse_here", "_law_letters_here", "_law_most", "_law_top"]
theorem sc__law_tool : FnScope N__law_tool P__law_tool (defScope s__law_tool) := ⟨rfl, rfl, rfl, by decide +kernel, rfl, by decide +kernel, by decide +kernel⟩
theorem ok__law_tool (T : Facts K mg M) (Fu : Fun K "_law_tool" "_law_tool" s__law_tool fa fd) (H__law_draw : Has P w K mg base GT 1 "_law_draw" P__law_draw (spD K (F__law_draw))) : FnG P w K mg base GT 2 fa fd P__law_tool (spD K (F__law_tool)) := by
  refine d_def (N := N__law_tool) (ps := P__law_tool) (G := G__law_tool) Fu sc__law_tool fun cdv A outer s H E C hr hg => ?_
  have nd := sc__law_tool.nd
  have hu := hr.units
  exact (d_cons (d_set (ps_set (i := 4) nd rfl (Or.inr rfl) (d_add (d_const pe_int fun _ => .int _) (d_callH (k := 1) H__law_draw hr (by decide) trivial rfl (takes_of rfl rfl rfl rfl) (d_acons (d_var (pv 0)) (d_acons (d_var (pv 2)) d_anil)))))) (d_cons (d_own (ps_set (i := 5) nd rfl (Or.inl rfl) (d_lst d_anil))) (d_cons (d_for (passes_of rfl) rfl (d_irange rfl T.m_range (d_acons (d_var (pv 4)) d_anil)) (d_gname (pg_name (i := 6) nd rfl (Or.inl rfl))) (d_cons (d_set (ps_set (i := 7) nd rfl (Or.inl rfl) (d_tuple rfl T.m_tuple (d_acons (d_share (d_lc (ctg_name (i := 8) (by decide)) (pe_lc (own := [("_law_letter", 8)]) rfl nd (d_iany (d_var (pv 1))) (blkOk_by (N := N__law_tool) (sc := defScope s__law_tool) (by decide +kernel)) (fun _ _ _ _ _ => (pg_name (i := 8) nd rfl (Or.inl rfl))) (fun _ _ _ _ _ => d_tsany fun C => d_tsnil) (fun _ _ _ _ _ => d_any fun C => (d_callH (k := 1) H__law_draw hr (by decide) trivial rfl takes0 (d_acons (d_var (pv 0)) (d_acons (d_var (pv 4)) d_anil))))))) d_anil)))) (d_one (d_push (pv 5) (d_tup (d_acons (d_callH (k := 1) H__law_draw hr (by decide) trivial rfl (takes_of rfl rfl rfl rfl) (d_acons (d_var (pv 0)) (d_acons (d_add (d_var (pv 3)) (d_const pe_int fun _ => .int _)) d_anil))) (d_acons (d_var (pv 7)) d_anil))))))) (d_one (d_freeze (i := 5) (d_ret (d_share (d_lst (d_acons (d_var (pv 1)) (d_acons (d_tuple rfl T.m_tuple (d_acons (d_var (pv 5)) d_anil)) d_anil))))))))))
def N_is_letters : List Str := ["value", "in_bounds", "letter", "low", "high"]
def P_is_letters : List Str := ["value"]
theorem sc_is_letters : FnScope N_is_letters P_is_letters (defScope s_is_letters) := ⟨rfl, rfl, rfl, by decide +kernel, rfl, by decide +kernel, by decide +kernel⟩
theorem ok_is_letters (T : Facts K mg M) (Fu : Fun K "is_letters" "is_letters" s_is_letters fa fd) : FnG P w K mg base GT 1 fa fd P_is_letters (spD K (F_is_letters M)) := by
  refine d_def (N := N_is_letters) (ps := P_is_letters) (G := G_is_letters M) Fu sc_is_letters fun cdv A outer s H E C hr hg => ?_
  have nd := sc_is_letters.nd
  have hu := hr.units
  exact (d_cons (d_sif (PW.pt (d_or (d_not (d_tval (d_isi (.ty _) (fun _ _ h => kit_ty h) (fun A b h => T.own T.k_str h) rfl T.m_isinstance (d_acons (d_var (pv 0)) (d_acons (d_tyn rfl T.m_str (by decide +kernel)) d_anil))) (fun _ => rfl))) (pw_or1 (d_not (t_lele (d_const pe_int fun _ => .int _) (d_len rfl T.m_len (d_acons (d_var (pv 0)) d_anil)) (d_inte rfl T.m_MOST_LETTERS)))))) (d_one (d_ret (d_const pe_bl fun _ => .bl _))) d_nil) (d_cons (d_set (ps_set (i := 1) nd rfl (Or.inl rfl) (d_all rfl rfl T.m_all (d_acons (d_share (d_lc (ctg_name (i := 2) (by decide)) (pe_lc (own := [("letter", 2)]) rfl nd (d_iany (d_var (pv 0))) (blkOk_by (N := N_is_letters) (sc := defScope s_is_letters) (by decide +kernel)) (fun _ _ _ _ _ => (pg_name (i := 2) nd rfl (Or.inl rfl))) (fun _ _ _ _ _ => d_tsany fun C => d_tsnil) (fun _ _ _ _ _ => d_any fun C => (d_in (d_var (pv 2)) (d_stre rfl T.m_ALPHABET)))))) d_anil)))) (d_one (d_ret (d_eand (d_var (pv 1)) (pe_one (d_all rfl rfl T.m_all (d_acons (d_share (d_lc (ctg_pair (i := 3) (j := 4) (by decide) (by decide)) (pe_lc (own := [("low", 3), ("high", 4)]) rfl nd (d_izipS rfl T.m_zip (d_acons (d_var (pv 0)) (d_acons (d_slice (d_var (pv 0)) (d_osome (d_const pe_int fun _ => .int _)) d_ono) d_anil))) (blkOk_by (N := N_is_letters) (sc := defScope s_is_letters) (by decide +kernel)) (fun _ _ _ _ _ => (pg_tup rfl (pgs_cons (pg_name (i := 3) nd rfl (Or.inl rfl)) (pgs_cons (pg_name (i := 4) nd rfl (Or.inl rfl)) pgs_nil rfl) rfl) rfl rfl)) (fun _ _ _ _ _ => d_tsany fun C => d_tsnil) (fun _ _ _ _ _ => d_any fun C => (d_lt (d_var (pv 3)) (d_var (pv 4))))))) d_anil))))))))
def N_is_number : List Str := ["value", "most"]
def P_is_number : List Str := ["value", "most"]
theorem sc_is_number : FnScope N_is_number P_is_number (defScope s_is_number) := ⟨rfl, rfl, rfl, by decide +kernel, rfl, by decide +kernel, by decide +kernel⟩
theorem ok_is_number (T : Facts K mg M) (Fu : Fun K "is_number" "is_number" s_is_number fa fd) : FnG P w K mg base GT 1 fa fd P_is_number (spD K (F_is_number M)) := by
  refine d_def (N := N_is_number) (ps := P_is_number) (G := G_is_number M) Fu sc_is_number fun cdv A outer s H E C hr hg => ?_
  have nd := sc_is_number.nd
  have hu := hr.units
  exact (d_one (d_ret (d_eand (d_isi (.ty _) (fun _ _ h => kit_ty h) (fun A b h => T.own T.k_int h) rfl T.m_isinstance (d_acons (d_var (pv 0)) (d_acons (d_tyn rfl T.m_int (by decide +kernel)) d_anil))) (d_eand (d_enot (d_isi (.ty _) (fun _ _ h => kit_ty h) (fun A b h => T.own T.k_bool h) rfl T.m_isinstance (d_acons (d_var (pv 0)) (d_acons (d_tyn rfl T.m_bool (by decide +kernel)) d_anil)))) (pe_one (d_lele (d_const pe_int fun _ => .int _) (d_var (pv 0)) (d_var (pv 1))))))))
def N_is_state : List Str := ["value", "width", "count", "colour", "following", "number"]
def P_is_state : List Str := ["value", "width", "count"]
theorem sc_is_state : FnScope N_is_state P_is_state (defScope s_is_state) := ⟨rfl, rfl, rfl, by decide +kernel, rfl, by decide +kernel, by decide +kernel⟩
theorem ok_is_state (T : Facts K mg M) (Fu : Fun K "is_state" "is_state" s_is_state fa fd) (H_is_number : Has P w K mg base GT 1 "is_number" P_is_number (spD K (F_is_number M))) : FnG P w K mg base GT 2 fa fd P_is_state (spD K (F_is_state M)) := by
  refine d_def (N := N_is_state) (ps := P_is_state) (G := G_is_state M) Fu sc_is_state fun cdv A outer s H E C hr hg => ?_
  have nd := sc_is_state.nd
  have hu := hr.units
  exact (d_cons (d_sif (PW.pt (d_or (d_not (d_tval (d_isi (.ty _) (fun _ _ h => kit_ty h) (fun A b h => T.own T.k_tuple h) rfl T.m_isinstance (d_acons (d_var (pv 0)) (d_acons (d_tyn rfl T.m_tuple (by decide +kernel)) d_anil))) (fun _ => rfl))) (pw_or1 (t_ne hu (d_len rfl T.m_len (d_acons (d_var (pv 0)) d_anil)) (d_const pe_int fun _ => .int _))))) (d_one (d_ret (d_const pe_bl fun _ => .bl _))) d_nil) (d_cons (d_asg (d_var (pv 0)) (d_gtup rfl (d_gcons (d_gname (pg_name (i := 3) nd rfl (Or.inl rfl))) (d_gcons (d_gname (pg_name (i := 4) nd rfl (Or.inl rfl))) d_gnil)))) (d_cons (d_sif (PW.pt (d_or (d_not (d_tval (d_callH (k := 1) H_is_number hr (by decide) trivial rfl (takes_of rfl rfl rfl rfl) (d_acons (d_var (pv 3)) (d_acons (d_inte rfl T.m_MOST_COLOUR) d_anil))) (fun _ => rfl))) (d_or (d_not (d_tval (d_isi (.ty _) (fun _ _ h => kit_ty h) (fun A b h => T.own T.k_tuple h) rfl T.m_isinstance (d_acons (d_var (pv 4)) (d_acons (d_tyn rfl T.m_tuple (by decide +kernel)) d_anil))) (fun _ => rfl))) (pw_or1 (t_ne hu (d_len rfl T.m_len (d_acons (d_var (pv 4)) d_anil)) (d_var (pv 1))))))) (d_one (d_ret (d_const pe_bl fun _ => .bl _))) d_nil) (d_one (d_ret (d_all rfl rfl T.m_all (d_acons (d_share (d_lc (ctg_name (i := 5) (by decide)) (pe_lc (own := [("number", 5)]) rfl nd (d_iany (d_var (pv 4))) (blkOk_by (N := N_is_state) (sc := defScope s_is_state) (by decide +kernel)) (fun _ _ _ _ _ => (pg_name (i := 5) nd rfl (Or.inl rfl))) (fun _ _ _ _ _ => d_tsany fun C => d_tsnil) (fun _ _ _ _ _ => d_any fun C => (d_callH (k := 1) H_is_number hr (by decide) trivial rfl takes0 (d_acons (d_var (pv 5)) (d_acons (d_sub (d_var (pv 2)) (d_const pe_int fun _ => .int _)) d_anil))))))) d_anil)))))))
def N_first_wrong_state : List Str := ["letters", "states", "index", "state"]
def P_first_wrong_state : List Str := ["letters", "states"]
theorem sc_first_wrong_state : FnScope N_first_wrong_state P_first_wrong_state (defScope s_first_wrong_state) := ⟨rfl, rfl, rfl, by decide +kernel, rfl, by decide +kernel, by decide +kernel⟩
theorem ok_first_wrong_state (T : Facts K mg M) (Fu : Fun K "first_wrong_state" "first_wrong_state" s_first_wrong_state fa fd) (H_is_state : Has P w K mg base GT 2 "is_state" P_is_state (spD K (F_is_state M))) : FnG P w K mg base GT 3 fa fd P_first_wrong_state (spD K (F_first_wrong_state M)) := by
  refine d_def (N := N_first_wrong_state) (ps := P_first_wrong_state) (G := G_first_wrong_state M) Fu sc_first_wrong_state fun cdv A outer s H E C hr hg => ?_
  have nd := sc_first_wrong_state.nd
  have hu := hr.units
  exact (d_cons (d_for (passes_of rfl) rfl (d_ienumT rfl T.m_enumerate (d_acons (d_var (pv 1)) d_anil)) (d_gtup rfl (d_gcons (d_gname (pg_name (i := 2) nd rfl (Or.inl rfl))) (d_gcons (d_gname (pg_name (i := 3) nd rfl (Or.inl rfl))) d_gnil))) (d_one (d_sif (PW.pt (d_or (t_eq hu (d_var (pv 2)) (d_inte rfl T.m_MOST_STATES)) (pw_or1 (d_not (d_tval (d_callH (k := 2) H_is_state hr (by decide) trivial rfl (takes_of rfl rfl rfl rfl) (d_acons (d_var (pv 3)) (d_acons (d_len rfl T.m_len (d_acons (d_var (pv 0)) d_anil)) (d_acons (d_len rfl T.m_len (d_acons (d_var (pv 1)) d_anil)) d_anil)))) (fun _ => rfl)))))) (d_one (d_ret (d_var (pv 2)))) d_nil))) (d_one (d_ret (d_neg (d_const pe_int fun _ => .int _)))))
def N_Machine_init : List Str := ["self", "letters", "states", "wrong"]
def P_Machine_init : List Str := ["self", "letters", "states"]
theorem sc_Machine_init : FnScope N_Machine_init P_Machine_init (defScope s_Machine_init) := ⟨rfl, rfl, rfl, by decide +kernel, rfl, by decide +kernel, by decide +kernel⟩
theorem ok_Machine_init (T : Facts K mg M) (Fu : Fun K "__init__" "Machine.__init__" s_Machine_init fa fd) (H_first_wrong_state : Has P w K mg base GT 3 "first_wrong_state" P_first_wrong_state (spD K (F_first_wrong_state M))) (H_is_letters : Has P w K mg base GT 1 "is_letters" P_is_letters (spD K (F_is_letters M))) (HX_InvalidStates : HasX P w K mg base "InvalidStates" "index") (HX_InvalidLetters : HasX P w K mg base "InvalidLetters" "given") : FnG P w K mg base GT 4 fa fd P_Machine_init (spI K M (Fx_Machine M)) := by
  refine d_init (N := N_Machine_init) (ps := P_Machine_init) (F := G_Machine_init M) Fu sc_Machine_init fun y cdv Ar outer s H E C hr hg => ?_
  have nd := sc_Machine_init.nd
  have hu := hr.units
  exact (i_cons (fun C => (d_sif (d_not (d_tval (d_callH (k := 3) H_is_letters hr (by decide) trivial rfl (takes_of rfl rfl rfl rfl) (d_acons (d_var (pv 1)) d_anil)) (fun _ => rfl))) (d_one (d_raise HX_InvalidLetters (hr.mono (by decide)) rfl (takes_of rfl rfl rfl rfl) rfl (d_var (pv 1)))) d_nil)) (i_cons (fun C => (d_sif (PW.pt (d_or (d_not (d_tval (d_isi (.ty _) (fun _ _ h => kit_ty h) (fun A b h => T.own T.k_tuple h) rfl T.m_isinstance (d_acons (d_var (pv 2)) (d_acons (d_tyn rfl T.m_tuple (by decide +kernel)) d_anil))) (fun _ => rfl))) (pw_or1 (t_eq hu (d_len rfl T.m_len (d_acons (d_var (pv 2)) d_anil)) (d_const pe_int fun _ => .int _))))) (d_one (d_raise HX_InvalidStates (hr.mono (by decide)) rfl (takes_of rfl rfl rfl rfl) rfl (d_const pe_non fun _ => .non))) d_nil)) (i_cons (fun C => (d_set (ps_set (i := 3) nd rfl (Or.inl rfl) (d_callH (k := 3) H_first_wrong_state hr (by decide) trivial rfl (takes_of rfl rfl rfl rfl) (d_acons (d_var (pv 1)) (d_acons (d_var (pv 2)) d_anil)))))) (i_cons (fun C => (d_sif (t_ge (d_var (pv 3)) (d_const pe_int fun _ => .int _)) (d_one (d_raise HX_InvalidStates (hr.mono (by decide)) rfl (takes_of rfl rfl rfl rfl) rfl (d_var (pv 3)))) d_nil)) (i_store (pv 0) (fun C => (d_var (pv 1))) T.cM T.n_letters (i_store (pv 0) (fun C => (d_var (pv 2))) T.cM T.n_states i_nil))))))
def HasM (P : Program) (w : World) (K : PySem.W.Frag) (mg : Str → Option Value) (base : Heap) (M : Addr) : Prop := ∃ f fd, Mk K M f ∧ FnG P w K mg base GT 4 f fd P_Machine_init (spI K M (Fx_Machine M)) ∧ Binds K fd P_Machine_init []
theorem d_makeH {X : Cx} {C : Cq} {E : XK} {e : Expr} {es : List Expr} {pos p : Pos} {G : AF} {k : Nat} {x : Str} (h : HasM X.prog X.w X.K X.mg X.base M) (hr : Room k X.A) (hj : 5 ≤ k) (hg : Gl X x) (hm : X.mg x = some (.ref M)) (hx : Passes (L2.CX X.prog X.w) X E)
    (ha : PA X (e :: es) (tDA X.K C (WD E) G)) (hdb : (x == ("__debug__" : Str)) = false := by decide) (he : starEach (e :: es) X.env = (false, eval e X.env) :: starEach es X.env := by rfl) (hpl : (backTo pos (starEach es X.env)).any (·.1) = false := by rfl) :
    PE X (.Call (.Name x p) (e :: es) [] pos) (tD X.K C (WD E) (eMake M (Fm_Machine M) G)) := by
  obtain ⟨f, fd, hM, FO, hb⟩ := h
  exact d_make hM FO.fnok (fm_ok M) (hr.mono hj) hg hm hb hx ha hdb he hpl
def N__law_made : List Str := ["_law_tool_here"]
def P__law_made : List Str := ["_law_tool_here"]
theorem sc__law_made : FnScope N__law_made P__law_made (defScope s__law_made) := ⟨rfl, rfl, rfl, by decide +kernel, rfl, by decide +kernel, by decide +kernel⟩
theorem ok__law_made (T : Facts K mg M) (Fu : Fun K "_law_made" "_law_made" s__law_made fa fd) (H_Machine : HasM P w K mg base M) : FnG P w K mg base GT 6 fa fd P__law_made (spD K (F__law_made M)) := by
  refine d_def (N := N__law_made) (ps := P__law_made) (G := G__law_made M) Fu sc__law_made fun cdv A outer s H E C hr hg => ?_
  have nd := sc__law_made.nd
  have hu := hr.units
  exact (d_one (d_ret (d_makeH H_Machine hr (by decide) rfl T.m_Machine (passes_call (takes_of rfl rfl rfl rfl) fun _ _ _ _ h => h) (d_acons (d_ix (d_var (pv 0)) (d_const pe_int fun _ => .int _) (fun _ _ => rfl)) (d_acons (d_ix (d_var (pv 0)) (d_const pe_int fun _ => .int _) (fun _ _ => rfl)) d_anil)))))
def N_Machine_len_ : List Str := ["self"]
def P_Machine_len_ : List Str := ["self"]
theorem sc_Machine_len_ : FnScope N_Machine_len_ P_Machine_len_ (defScope s_Machine_len_) := ⟨rfl, rfl, rfl, by decide +kernel, rfl, by decide +kernel, by decide +kernel⟩
theorem ok_Machine_len_ (T : Facts K mg M) (Fu : Fun K "__len__" "Machine.__len__" s_Machine_len_ fa fd) : FnG P w K mg base GT 1 fa fd P_Machine_len_ (spD K (F_Machine_len_ M)) := by
  refine d_def (N := N_Machine_len_) (ps := P_Machine_len_) (G := G_Machine_len_ M) Fu sc_Machine_len_ fun cdv A outer s H E C hr hg => ?_
  have nd := sc_Machine_len_.nd
  have hu := hr.units
  exact (d_one (d_ret (d_len rfl T.m_len (d_acons (d_fld (d_var (pv 0)) T.cM T.n_states) d_anil))))
def HasLen (P : Program) (w : World) (K : PySem.W.Frag) (mg : Str → Option Value) (base : Heap) (M : Addr) : Prop := ∃ f fd, PySem.W.findIn K (.ref M) "__len__" = some (some (.ref f)) ∧ PySem.W.isFn K (.ref f) = true ∧ FnG P w K mg base GT 1 f fd P_Machine_len_ (spD K (F_Machine_len_ M)) ∧ Binds K fd P_Machine_len_ []
theorem d_lenH {X : Cx} {C : Cq} {W : WX} {a : Expr} {pos p : Pos} {G : AF} {k : Nat} (h : HasLen X.prog X.w X.K X.mg X.base M) (hr : Room k X.A) (hj : 2 ≤ k) (hg : Gl X "len") (hm : X.mg "len" = none) (ha : PA X [a] (tDA X.K C W G)) (he : starEach [a] X.env = (false, eval a X.env) :: starEach [] X.env := by rfl)
    (hpl : (backTo pos (starEach [] X.env)).any (·.1) = false := by rfl) : PE X (.Call (.Name "len" p) [a] [] pos) (tD X.K C W (eLenO M (F_Machine_len_ M) G)) := by
  obtain ⟨f, fd, hs, hf, FO, hb⟩ := h
  exact d_lenO hs hf FO.fnok (hr.mono hj) hb hg hm ha he hpl
def N_check_machine : List Str := ["value"]
def P_check_machine : List Str := ["value"]
theorem sc_check_machine : FnScope N_check_machine P_check_machine (defScope s_check_machine) := ⟨rfl, rfl, rfl, by decide +kernel, rfl, by decide +kernel, by decide +kernel⟩
theorem ok_check_machine (T : Facts K mg M) (Fu : Fun K "check_machine" "check_machine" s_check_machine fa fd) (HX_NotAMachine : HasX P w K mg base "NotAMachine" "given") : FnG P w K mg base GT 3 fa fd P_check_machine (spD K (F_check_machine M)) := by
  refine d_def (N := N_check_machine) (ps := P_check_machine) (G := G_check_machine M) Fu sc_check_machine fun cdv A outer s H E C hr hg => ?_
  have nd := sc_check_machine.nd
  have hu := hr.units
  exact (d_one (d_sif (d_not (d_tval (d_isi (.own _) (fun _ _ h => T.kitM h) (fun A b h => T.ownM h) rfl T.m_isinstance (d_acons (d_var (pv 0)) (d_acons (d_clsn rfl T.m_Machine) d_anil))) (fun _ => rfl))) (d_one (d_raise HX_NotAMachine (hr.mono (by decide)) rfl (takes_of rfl rfl rfl rfl) rfl (d_var (pv 0)))) d_nil))
def N_arrows_of : List Str := ["machine", "state"]
def P_arrows_of : List Str := ["machine"]
theorem sc_arrows_of : FnScope N_arrows_of P_arrows_of (defScope s_arrows_of) := ⟨rfl, rfl, rfl, by decide +kernel, rfl, by decide +kernel, by decide +kernel⟩
theorem ok_arrows_of (T : Facts K mg M) (Fu : Fun K "arrows_of" "arrows_of" s_arrows_of fa fd) : FnG P w K mg base GT 3 fa fd P_arrows_of (spD K (F_arrows_of M)) := by
  refine d_def (N := N_arrows_of) (ps := P_arrows_of) (G := G_arrows_of M) Fu sc_arrows_of fun cdv A outer s H E C hr hg => ?_
  have nd := sc_arrows_of.nd
  have hu := hr.units
  exact (d_one (d_ret (d_share (d_lc (ctg_name (i := 1) (by decide)) (pe_lc (own := [("state", 1)]) rfl nd (d_iany (d_propG (k := 2) (d_var (pv 0)) T.cM T.g_states hr (by decide))) (blkOk_by (N := N_arrows_of) (sc := defScope s_arrows_of) (by decide +kernel)) (fun _ _ _ _ _ => (pg_name (i := 1) nd rfl (Or.inl rfl))) (fun _ _ _ _ _ => d_tsany fun C => d_tsnil) (fun _ _ _ _ _ => d_any fun C => (d_ix (d_var (pv 1)) (d_const pe_int fun _ => .int _) (fun _ _ => rfl))))))))
def N_colours_of : List Str := ["machine", "state"]
def P_colours_of : List Str := ["machine"]
theorem sc_colours_of : FnScope N_colours_of P_colours_of (defScope s_colours_of) := ⟨rfl, rfl, rfl, by decide +kernel, rfl, by decide +kernel, by decide +kernel⟩
theorem ok_colours_of (T : Facts K mg M) (Fu : Fun K "colours_of" "colours_of" s_colours_of fa fd) : FnG P w K mg base GT 3 fa fd P_colours_of (spD K (F_colours_of M)) := by
  refine d_def (N := N_colours_of) (ps := P_colours_of) (G := G_colours_of M) Fu sc_colours_of fun cdv A outer s H E C hr hg => ?_
  have nd := sc_colours_of.nd
  have hu := hr.units
  exact (d_one (d_ret (d_share (d_lc (ctg_name (i := 1) (by decide)) (pe_lc (own := [("state", 1)]) rfl nd (d_iany (d_propG (k := 2) (d_var (pv 0)) T.cM T.g_states hr (by decide))) (blkOk_by (N := N_colours_of) (sc := defScope s_colours_of) (by decide +kernel)) (fun _ _ _ _ _ => (pg_name (i := 1) nd rfl (Or.inl rfl))) (fun _ _ _ _ _ => d_tsany fun C => d_tsnil) (fun _ _ _ _ _ => d_any fun C => (d_ix (d_var (pv 1)) (d_const pe_int fun _ => .int _) (fun _ _ => rfl))))))))
def N_bits_ahead : List Str := ["arrows", "numbers", "bits", "number", "between", "k"]
def P_bits_ahead : List Str := ["arrows", "numbers"]
theorem sc_bits_ahead : FnScope N_bits_ahead P_bits_ahead (defScope s_bits_ahead) := ⟨rfl, rfl, rfl, by decide +kernel, rfl, by decide +kernel, by decide +kernel⟩
theorem ok_bits_ahead (T : Facts K mg M) (Fu : Fun K "bits_ahead" "bits_ahead" s_bits_ahead fa fd) : FnG P w K mg base GT 1 fa fd P_bits_ahead (spD K (F_bits_ahead)) := by
  refine d_def (N := N_bits_ahead) (ps := P_bits_ahead) (G := G_bits_ahead) Fu sc_bits_ahead fun cdv A outer s H E C hr hg => ?_
  have nd := sc_bits_ahead.nd
  have hu := hr.units
  exact (d_cons (d_own (ps_set (i := 2) nd rfl (Or.inl rfl) d_dnew)) (d_cons (d_for (passes_of rfl) rfl (d_iany (d_var (pv 1))) (d_gname (pg_name (i := 3) nd rfl (Or.inr rfl))) (d_one (d_dput (hu1 hu) (pv 2) (d_var (pv 3)) (d_sum rfl rfl T.m_sum (d_acons (d_share (d_lc (ctg_name (i := 5) (by decide)) (pe_lc (own := [("k", 5)]) rfl nd (d_iany (d_var (pv 1))) (blkOk_by (N := N_bits_ahead) (sc := defScope s_bits_ahead) (by decide +kernel)) (fun _ _ _ _ _ => (pg_name (i := 5) nd rfl (Or.inl rfl))) (fun _ _ _ _ _ => d_tsany fun C => (d_tsone (t_inq (d_var (pv 5)) (d_ix (d_var (pv 0)) (d_var (pv 3)) (fun _ _ => rfl))))) (fun _ _ _ _ _ => d_any fun C => (d_shl (d_const pe_int fun _ => .int _) (d_var (pv 5))))))) d_anil))))) (d_cons (d_for (passes_of rfl) rfl (d_iany (d_var (pv 1))) (d_gname (pg_name (i := 4) nd rfl (Or.inl rfl))) (d_one (d_for (passes_of rfl) rfl (d_iany (d_var (pv 1))) (d_gname (pg_name (i := 3) nd rfl (Or.inr rfl))) (d_one (d_sif (d_truth (d_band (d_shr (d_dgOw (hu1 hu) (pv 2) (d_var (pv 3)) (fun _ _ => rfl)) (d_var (pv 4))) (d_const pe_int fun _ => .int _))) (d_one (d_dput (hu1 hu) (pv 2) (d_var (pv 3)) (d_bor (d_dgOw (hu1 hu) (pv 2) (d_var (pv 3)) (fun _ _ => rfl)) (d_dgOw (hu1 hu) (pv 2) (d_var (pv 4)) (fun _ _ => rfl))))) d_nil))))) (d_one (d_freeze (i := 2) (d_ret (d_var (pv 2))))))))
def N_greatest_loops : List Str := ["arrows", "numbers", "bits", "found", "number", "loop", "k"]
def P_greatest_loops : List Str := ["arrows", "numbers"]
theorem sc_greatest_loops : FnScope N_greatest_loops P_greatest_loops (defScope s_greatest_loops) := ⟨rfl, rfl, rfl, by decide +kernel, rfl, by decide +kernel, by decide +kernel⟩
theorem ok_greatest_loops (T : Facts K mg M) (Fu : Fun K "greatest_loops" "greatest_loops" s_greatest_loops fa fd) (H_bits_ahead : Has P w K mg base GT 1 "bits_ahead" P_bits_ahead (spD K (F_bits_ahead))) : FnG P w K mg base GT 2 fa fd P_greatest_loops (spD K (F_greatest_loops)) := by
  refine d_def (N := N_greatest_loops) (ps := P_greatest_loops) (G := G_greatest_loops) Fu sc_greatest_loops fun cdv A outer s H E C hr hg => ?_
  have nd := sc_greatest_loops.nd
  have hu := hr.units
  exact (d_cons (d_set (ps_set (i := 2) nd rfl (Or.inr rfl) (d_callH (k := 1) H_bits_ahead hr (by decide) trivial rfl (takes_of rfl rfl rfl rfl) (d_acons (d_var (pv 0)) (d_acons (d_var (pv 1)) d_anil))))) (d_cons (d_own (ps_set (i := 3) nd rfl (Or.inl rfl) (d_lst d_anil))) (d_cons (d_for (passes_of rfl) rfl (d_iany (d_var (pv 1))) (d_gname (pg_name (i := 4) nd rfl (Or.inr rfl))) (d_cons (d_setF (d_setlc (ctg_name (i := 6) (by decide)) (ps_setLc (i := 5) (own := [("k", 6)]) rfl nd rfl rfl (sw_true rfl rfl rfl (by decide +kernel)) (d_iany (d_var (pv 1))) (blkOk_by (N := N_greatest_loops) (sc := defScope s_greatest_loops) (by decide +kernel)) (fun _ _ _ _ _ => (pg_name (i := 6) nd rfl (Or.inl rfl))) (fun _ _ _ _ _ => d_tsany fun C => (d_tsone (d_truth (d_band (d_band (d_shr (d_dg (hu1 hu) (d_var (pv 2)) (d_var (pv 4)) (fun _ _ => rfl)) (d_var (pv 6))) (d_shr (d_dg (hu1 hu) (d_var (pv 2)) (d_var (pv 6)) (fun _ _ => rfl)) (d_var (pv 4)))) (d_const pe_int fun _ => .int _))))) (fun _ _ _ _ _ => d_any fun C => (d_var (pv 6)))))) (d_one (d_sif (PW.pt (d_and (d_truth (d_var (pv 5))) (pw_and1 (t_eq hu (d_ix (d_var (pv 5)) (d_const pe_int fun _ => .int _) (fun _ _ => rfl)) (d_var (pv 4)))))) (d_one (d_push (pv 3) (d_var (pv 5)))) d_nil)))) (d_one (d_freeze (i := 3) (d_ret (d_var (pv 3))))))))
def N_without_wrong_top : List Str := ["loop", "asked", "colours", "evenness", "top", "k"]
def P_without_wrong_top : List Str := ["loop", "asked"]
theorem sc_without_wrong_top : FnScope N_without_wrong_top P_without_wrong_top (defScope s_without_wrong_top) := ⟨rfl, rfl, rfl, by decide +kernel, rfl, by decide +kernel, by decide +kernel⟩
theorem ok_without_wrong_top (T : Facts K mg M) (Fu : Fun K "without_wrong_top" "without_wrong_top" s_without_wrong_top fa fd) : FnG P w K mg base GT 1 fa fd P_without_wrong_top (spD K (F_without_wrong_top)) := by
  refine d_def (N := N_without_wrong_top) (ps := P_without_wrong_top) (G := G_without_wrong_top) Fu sc_without_wrong_top fun cdv A outer s H E C hr hg => ?_
  have nd := sc_without_wrong_top.nd
  have hu := hr.units
  exact (d_cons (d_for (passes_of rfl) rfl (d_iany (d_var (pv 1))) (d_gtup rfl (d_gcons (d_gname (pg_name (i := 2) nd rfl (Or.inr rfl))) (d_gcons (d_gname (pg_name (i := 3) nd rfl (Or.inl rfl))) d_gnil))) (d_cons (d_set (ps_set (i := 4) nd rfl (Or.inr rfl) (d_maxL rfl rfl T.m_max (d_acons (d_share (d_lc (ctg_name (i := 5) (by decide)) (pe_lc (own := [("k", 5)]) rfl nd (d_iany (d_var (pv 0))) (blkOk_by (N := N_without_wrong_top) (sc := defScope s_without_wrong_top) (by decide +kernel)) (fun _ _ _ _ _ => (pg_name (i := 5) nd rfl (Or.inl rfl))) (fun _ _ _ _ _ => d_tsany fun C => d_tsnil) (fun _ _ _ _ _ => d_any fun C => (d_ix (d_var (pv 2)) (d_var (pv 5)) (fun _ _ => rfl)))))) d_anil)))) (d_one (d_sif (t_ne hu (d_mod (d_var (pv 4)) (d_const pe_int fun _ => .int _)) (d_var (pv 3))) (d_one (d_ret (d_share (d_lc (ctg_name (i := 5) (by decide)) (pe_lc (own := [("k", 5)]) rfl nd (d_iany (d_var (pv 0))) (blkOk_by (N := N_without_wrong_top) (sc := defScope s_without_wrong_top) (by decide +kernel)) (fun _ _ _ _ _ => (pg_name (i := 5) nd rfl (Or.inl rfl))) (fun _ _ _ _ _ => d_tsany fun C => (d_tsone (t_lt (d_ix (d_var (pv 2)) (d_var (pv 5)) (fun _ _ => rfl)) (d_var (pv 4))))) (fun _ _ _ _ _ => d_any fun C => (d_var (pv 5)))))))) d_nil)))) (d_one (d_ret (d_var (pv 0)))))
def N_loops_as_asked : List Str := ["arrows", "numbers", "asked", "found", "waiting", "rest", "loop", "left"]
def P_loops_as_asked : List Str := ["arrows", "numbers", "asked"]
theorem sc_loops_as_asked : FnScope N_loops_as_asked P_loops_as_asked (defScope s_loops_as_asked) := ⟨rfl, rfl, rfl, by decide +kernel, rfl, by decide +kernel, by decide +kernel⟩
theorem ok_loops_as_asked (T : Facts K mg M) (Fu : Fun K "loops_as_asked" "loops_as_asked" s_loops_as_asked fa fd) (H_greatest_loops : Has P w K mg base GT 2 "greatest_loops" P_greatest_loops (spD K (F_greatest_loops))) (H_without_wrong_top : Has P w K mg base GT 1 "without_wrong_top" P_without_wrong_top (spD K (F_without_wrong_top))) : FnG P w K mg base GT 3 fa fd P_loops_as_asked (spD K (F_loops_as_asked)) := by
  refine d_def (N := N_loops_as_asked) (ps := P_loops_as_asked) (G := G_loops_as_asked) Fu sc_loops_as_asked fun cdv A outer s H E C hr hg => ?_
  have nd := sc_loops_as_asked.nd
  have hu := hr.units
  exact (d_cons (d_own (ps_set (i := 3) nd rfl (Or.inl rfl) (d_lst d_anil))) (d_cons (d_own (ps_set (i := 4) nd rfl (Or.inl rfl) (d_lst (d_acons (d_var (pv 1)) d_anil)))) (d_cons (d_while (passes_of rfl) (t_ow (pv 4)) (d_cons (d_pop (ps_set (i := 5) nd rfl (Or.inl rfl) (pe_bm0 PySem.F.plainAttrs_list PySem.F.slot_list_pop PySem.F.type_list_pop mt_pop (pv 4)))) (d_one (d_for (passes_of rfl) rfl (d_iany (d_callH (k := 2) H_greatest_loops hr (by decide) trivial rfl (takes_of rfl rfl rfl rfl) (d_acons (d_var (pv 0)) (d_acons (d_var (pv 5)) d_anil)))) (d_gname (pg_name (i := 6) nd rfl (Or.inl rfl))) (d_cons (d_set (ps_set (i := 7) nd rfl (Or.inl rfl) (d_callH (k := 2) H_without_wrong_top hr (by decide) trivial rfl (takes_of rfl rfl rfl rfl) (d_acons (d_var (pv 6)) (d_acons (d_var (pv 2)) d_anil))))) (d_one (d_sif (t_eq hu (d_len rfl T.m_len (d_acons (d_var (pv 7)) d_anil)) (d_len rfl T.m_len (d_acons (d_var (pv 6)) d_anil))) (d_one (d_push (pv 3) (d_var (pv 6)))) (d_one (d_push (pv 4) (d_var (pv 7))))))))))) (d_one (d_freeze (i := 3) (d_ret (d_var (pv 3))))))))
def N_leading_to : List Str := ["arrows", "goals", "leads", "_", "number", "k"]
def P_leading_to : List Str := ["arrows", "goals"]
theorem sc_leading_to : FnScope N_leading_to P_leading_to (defScope s_leading_to) := ⟨rfl, rfl, rfl, by decide +kernel, rfl, by decide +kernel, by decide +kernel⟩
theorem ok_leading_to (T : Facts K mg M) (Fu : Fun K "leading_to" "leading_to" s_leading_to fa fd) : FnG P w K mg base GT 1 fa fd P_leading_to (spD K (F_leading_to)) := by
  refine d_def (N := N_leading_to) (ps := P_leading_to) (G := G_leading_to) Fu sc_leading_to fun cdv A outer s H E C hr hg => ?_
  have nd := sc_leading_to.nd
  have hu := hr.units
  exact (d_cons (d_setF (ps_set (i := 2) nd rfl (Or.inr rfl) (d_lc (ctg_name (i := 4) (by decide)) (pe_lc (own := [("number", 4)]) rfl nd (d_irange rfl T.m_range (d_acons (d_len rfl T.m_len (d_acons (d_var (pv 0)) d_anil)) d_anil)) (blkOk_by (N := N_leading_to) (sc := defScope s_leading_to) (by decide +kernel)) (fun _ _ _ _ _ => (pg_name (i := 4) nd rfl (Or.inl rfl))) (fun _ _ _ _ _ => d_tsany fun C => d_tsnil) (fun _ _ _ _ _ => d_any fun C => (d_inq (d_var (pv 4)) (d_var (pv 1)))))))) (d_cons (d_for (passes_of rfl) rfl (d_iany (d_var (pv 0))) (d_gname (pg_name (i := 3) nd rfl (Or.inl rfl))) (d_one (d_setF (ps_set (i := 2) nd rfl (Or.inr rfl) (d_lc (ctg_name (i := 4) (by decide)) (pe_lc (own := [("number", 4)]) rfl nd (d_irange rfl T.m_range (d_acons (d_len rfl T.m_len (d_acons (d_var (pv 0)) d_anil)) d_anil)) (blkOk_by (N := N_leading_to) (sc := defScope s_leading_to) (by decide +kernel)) (fun _ _ _ _ _ => (pg_name (i := 4) nd rfl (Or.inl rfl))) (fun _ _ _ _ _ => d_tsany fun C => d_tsnil) (fun _ _ _ _ _ => d_any fun C => (d_eor (d_ix (d_var (pv 2)) (d_var (pv 4)) (fun _ _ => rfl)) (pe_one (d_any' rfl rfl T.m_any (d_acons (d_share (d_lc (ctg_name (i := 5) (by decide)) (pe_lc (own := [("k", 5)]) rfl nd (d_iany (d_ix (d_var (pv 0)) (d_var (pv 4)) (fun _ _ => rfl))) (blkOk_by (by kernel_rfl)) (fun _ _ _ _ _ => (pg_name (i := 5) nd rfl (Or.inl rfl))) (fun _ _ _ _ _ => d_tsany fun C => d_tsnil) (fun _ _ _ _ _ => d_any fun C => (d_ix (d_var (pv 2)) (d_var (pv 5)) (fun _ _ => rfl)))))) d_anil))))))))))) (d_one (d_ret (d_share (d_lc (ctg_name (i := 4) (by decide)) (pe_lc (own := [("number", 4)]) rfl nd (d_irange rfl T.m_range (d_acons (d_len rfl T.m_len (d_acons (d_var (pv 0)) d_anil)) d_anil)) (blkOk_by (N := N_leading_to) (sc := defScope s_leading_to) (by decide +kernel)) (fun _ _ _ _ _ => (pg_name (i := 4) nd rfl (Or.inl rfl))) (fun _ _ _ _ _ => d_tsany fun C => (d_tsone (d_tval (d_ix (d_var (pv 2)) (d_var (pv 4)) (fun _ _ => rfl)) (fun _ => rfl)))) (fun _ _ _ _ _ => d_any fun C => (d_var (pv 4))))))))))
def N_leading_to_loops : List Str := ["machine", "evenness", "arrows", "loops", "loop", "k"]
def P_leading_to_loops : List Str := ["machine", "evenness"]
theorem sc_leading_to_loops : FnScope N_leading_to_loops P_leading_to_loops (defScope s_leading_to_loops) := ⟨rfl, rfl, rfl, by decide +kernel, rfl, by decide +kernel, by decide +kernel⟩
theorem ok_leading_to_loops (T : Facts K mg M) (Fu : Fun K "leading_to_loops" "leading_to_loops" s_leading_to_loops fa fd) (H_arrows_of : Has P w K mg base GT 3 "arrows_of" P_arrows_of (spD K (F_arrows_of M))) (H_colours_of : Has P w K mg base GT 3 "colours_of" P_colours_of (spD K (F_colours_of M))) (H_loops_as_asked : Has P w K mg base GT 3 "loops_as_asked" P_loops_as_asked (spD K (F_loops_as_asked))) (H_leading_to : Has P w K mg base GT 1 "leading_to" P_leading_to (spD K (F_leading_to))) (H_len : HasLen P w K mg base M) : FnG P w K mg base GT 4 fa fd P_leading_to_loops (spD K (F_leading_to_loops M)) := by
  refine d_def (N := N_leading_to_loops) (ps := P_leading_to_loops) (G := G_leading_to_loops M) Fu sc_leading_to_loops fun cdv A outer s H E C hr hg => ?_
  have nd := sc_leading_to_loops.nd
  have hu := hr.units
  exact (d_cons (d_set (ps_set (i := 2) nd rfl (Or.inl rfl) (d_callH (k := 3) H_arrows_of hr (by decide) trivial rfl (takes_of rfl rfl rfl rfl) (d_acons (d_var (pv 0)) d_anil)))) (d_cons (d_set (ps_set (i := 3) nd rfl (Or.inl rfl) (d_callH (k := 3) H_loops_as_asked hr (by decide) trivial rfl (takes_of rfl rfl rfl rfl) (d_acons (d_var (pv 2)) (d_acons (d_share (d_listRg rfl rfl T.m_list rfl T.m_range (d_lenH (k := 3) H_len hr (by decide) rfl T.m_len (d_acons (d_var (pv 0)) d_anil)))) (d_acons (d_share (d_lst (d_acons (d_tup (d_acons (d_callH (k := 3) H_colours_of hr (by decide) trivial rfl (takes_of rfl rfl rfl rfl) (d_acons (d_var (pv 0)) d_anil)) (d_acons (d_var (pv 1)) d_anil))) d_anil))) d_anil)))))) (d_one (d_ret (d_callH (k := 3) H_leading_to hr (by decide) trivial rfl (takes_of rfl rfl rfl rfl) (d_acons (d_var (pv 2)) (d_acons (d_share (d_lc2 (ctg_name (i := 4) (by decide)) (ctg_name (i := 5) (by decide)) (pe_lc2 (own := [("loop", 4), ("k", 5)]) rfl nd (d_iany (d_var (pv 3))) (blkOk_by (N := N_leading_to_loops) (sc := defScope s_leading_to_loops) (by decide +kernel)) (by decide) (fun _ _ _ _ _ => (pg_name (i := 4) nd rfl (Or.inl rfl))) (fun _ _ _ _ _ => d_tsany fun C => d_tsnil) (fun _ _ _ _ _ => d_iany2 fun C => (d_iany (d_var (pv 4)))) (fun _ _ _ _ _ => (pg_name (i := 5) nd rfl (Or.inl rfl))) (fun _ _ _ _ _ => d_tsany fun C => d_tsnil) (fun _ _ _ _ _ => d_any fun C => (d_var (pv 5)))))) d_anil)))))))
def N_live : List Str := ["machine"]
def P_live : List Str := ["machine"]
theorem sc_live : FnScope N_live P_live (defScope s_live) := ⟨rfl, rfl, rfl, by decide +kernel, rfl, by decide +kernel, by decide +kernel⟩
theorem ok_live (T : Facts K mg M) (Fu : Fun K "live" "live" s_live fa fd) (H_check_machine : Has P w K mg base GT 3 "check_machine" P_check_machine (spD K (F_check_machine M))) (H_leading_to_loops : Has P w K mg base GT 4 "leading_to_loops" P_leading_to_loops (spD K (F_leading_to_loops M))) : FnG P w K mg base GT 5 fa fd P_live (spD K (F_live M)) := by
  refine d_def (N := N_live) (ps := P_live) (G := G_live M) Fu sc_live fun cdv A outer s H E C hr hg => ?_
  have nd := sc_live.nd
  have hu := hr.units
  exact (d_cons (d_expr (d_callH (k := 4) H_check_machine hr (by decide) trivial rfl (takes_of rfl rfl rfl rfl) (d_acons (d_var (pv 0)) d_anil))) (d_one (d_ret (d_tuple rfl T.m_tuple (d_acons (d_callH (k := 4) H_leading_to_loops hr (by decide) trivial rfl (takes_of rfl rfl rfl rfl) (d_acons (d_var (pv 0)) (d_acons (d_inte rfl T.m_EVEN) d_anil))) d_anil)))))
def N_dead : List Str := ["machine", "living", "k"]
def P_dead : List Str := ["machine"]
theorem sc_dead : FnScope N_dead P_dead (defScope s_dead) := ⟨rfl, rfl, rfl, by decide +kernel, rfl, by decide +kernel, by decide +kernel⟩
theorem ok_dead (T : Facts K mg M) (Fu : Fun K "dead" "dead" s_dead fa fd) (H_live : Has P w K mg base GT 5 "live" P_live (spD K (F_live M))) (H_len : HasLen P w K mg base M) : FnG P w K mg base GT 6 fa fd P_dead (spD K (F_dead M)) := by
  refine d_def (N := N_dead) (ps := P_dead) (G := G_dead M) Fu sc_dead fun cdv A outer s H E C hr hg => ?_
  have nd := sc_dead.nd
  have hu := hr.units
  exact (d_cons (d_set (ps_set (i := 1) nd rfl (Or.inr rfl) (d_callH (k := 5) H_live hr (by decide) trivial rfl (takes_of rfl rfl rfl rfl) (d_acons (d_var (pv 0)) d_anil)))) (d_one (d_ret (d_share (d_lc (ctg_name (i := 2) (by decide)) (pe_lc (own := [("k", 2)]) rfl nd (d_irange rfl T.m_range (d_acons (d_lenH (k := 5) H_len hr (by decide) rfl T.m_len (d_acons (d_var (pv 0)) d_anil)) d_anil)) (blkOk_by (N := N_dead) (sc := defScope s_dead) (by decide +kernel)) (fun _ _ _ _ _ => (pg_name (i := 2) nd rfl (Or.inl rfl))) (fun _ _ _ _ _ => d_tsany fun C => (d_tsone (t_ninq (d_var (pv 2)) (d_var (pv 1))))) (fun _ _ _ _ _ => d_any fun C => (d_var (pv 2)))))))))
def N_groups_of : List Str := ["arrows", "marks", "groups", "_", "told", "k", "following", "row"]
def P_groups_of : List Str := ["arrows", "marks"]
theorem sc_groups_of : FnScope N_groups_of P_groups_of (defScope s_groups_of) := ⟨rfl, rfl, rfl, by decide +kernel, rfl, by decide +kernel, by decide +kernel⟩
theorem ok_groups_of (T : Facts K mg M) (Fu : Fun K "groups_of" "groups_of" s_groups_of fa fd) : FnG P w K mg base GT 1 fa fd P_groups_of (spD K (F_groups_of)) := by
  refine d_def (N := N_groups_of) (ps := P_groups_of) (G := G_groups_of) Fu sc_groups_of fun cdv A outer s H E C hr hg => ?_
  have nd := sc_groups_of.nd
  have hu := hr.units
  exact (d_cons (d_set (ps_set (i := 2) nd rfl (Or.inr rfl) (d_var (pv 1)))) (d_cons (d_for (passes_of rfl) rfl (d_iany (d_var (pv 0))) (d_gname (pg_name (i := 3) nd rfl (Or.inl rfl))) (d_cons (d_setF (ps_set (i := 4) nd rfl (Or.inr rfl) (d_lc (ctg_name (i := 5) (by decide)) (pe_lc (own := [("k", 5)]) rfl nd (d_irange rfl T.m_range (d_acons (d_len rfl T.m_len (d_acons (d_var (pv 0)) d_anil)) d_anil)) (blkOk_by (N := N_groups_of) (sc := defScope s_groups_of) (by decide +kernel)) (fun _ _ _ _ _ => (pg_name (i := 5) nd rfl (Or.inl rfl))) (fun _ _ _ _ _ => d_tsany fun C => d_tsnil) (fun _ _ _ _ _ => d_any fun C => (d_tup (d_acons (d_ix (d_var (pv 2)) (d_var (pv 5)) (fun _ _ => rfl)) (d_acons (d_share (d_lc (ctg_name (i := 6) (by decide)) (pe_lc (own := [("following", 6)]) rfl nd (d_iany (d_ix (d_var (pv 0)) (d_var (pv 5)) (fun _ _ => rfl))) (blkOk_by (by kernel_rfl)) (fun _ _ _ _ _ => (pg_name (i := 6) nd rfl (Or.inl rfl))) (fun _ _ _ _ _ => d_tsany fun C => d_tsnil) (fun _ _ _ _ _ => d_any fun C => (d_ix (d_var (pv 2)) (d_var (pv 6)) (fun _ _ => rfl)))))) d_anil)))))))) (d_one (d_setF (ps_set (i := 2) nd rfl (Or.inr rfl) (d_lc (ctg_name (i := 7) (by decide)) (pe_lc (own := [("row", 7)]) rfl nd (d_iany (d_var (pv 4))) (blkOk_by (N := N_groups_of) (sc := defScope s_groups_of) (by decide +kernel)) (fun _ _ _ _ _ => (pg_name (i := 7) nd rfl (Or.inl rfl))) (fun _ _ _ _ _ => d_tsany fun C => d_tsnil) (fun _ _ _ _ _ => d_any fun C => (d_bmL PySem.F.slot_list_index PySem.F.type_list_index (mt_indexD (hu65 hr)) m_ldx (d_var (pv 4)) (d_acons (d_var (pv 7)) d_anil)))))))))) (d_one (d_ret (d_var (pv 2))))))
def N_words_from : List Str := ["letters", "arrows", "begin", "inside", "words", "order", "at", "number", "row", "letter", "following"]
def P_words_from : List Str := ["letters", "arrows", "begin", "inside"]
theorem sc_words_from : FnScope N_words_from P_words_from (defScope s_words_from) := ⟨rfl, rfl, rfl, by decide +kernel, rfl, by decide +kernel, by decide +kernel⟩
theorem ok_words_from (T : Facts K mg M) (Fu : Fun K "words_from" "words_from" s_words_from fa fd) : FnG P w K mg base GT 1 fa fd P_words_from (spD K (F_words_from)) := by
  refine d_def (N := N_words_from) (ps := P_words_from) (G := G_words_from) Fu sc_words_from fun cdv A outer s H E C hr hg => ?_
  have nd := sc_words_from.nd
  have hu := hr.units
  exact (d_cons (d_own (ps_set (i := 4) nd rfl (Or.inl rfl) (d_done (fun C => (d_var (pv 2))) (fun C => (d_const pe_str fun _ => .str _))))) (d_cons (d_own (ps_set (i := 5) nd rfl (Or.inl rfl) (d_lst (d_acons (d_var (pv 2)) d_anil)))) (d_cons (d_set (ps_set (i := 6) nd rfl (Or.inl rfl) (d_const pe_int fun _ => .int _))) (d_cons (d_while (passes_of rfl) (t_lt (d_var (pv 6)) (d_lenOw rfl T.m_len (pv 5))) (d_cons (d_set (ps_set (i := 7) nd rfl (Or.inl rfl) (d_ixOw (pv 5) (d_var (pv 6)) (fun _ _ => rfl)))) (d_cons (d_set (ps_set (i := 8) nd rfl (Or.inl rfl) (d_ix (d_var (pv 1)) (d_var (pv 7)) (fun _ _ => rfl)))) (d_cons (d_for (passes_of rfl) rfl (d_izipX rfl T.m_zip (d_acons (d_var (pv 0)) (d_acons (d_var (pv 8)) d_anil))) (d_gtup rfl (d_gcons (d_gname (pg_name (i := 9) nd rfl (Or.inl rfl))) (d_gcons (d_gname (pg_name (i := 10) nd rfl (Or.inl rfl))) d_gnil))) (d_one (d_sif (PW.pt (d_and (t_inq (d_var (pv 10)) (d_var (pv 3))) (pw_and1 (t_ninDOw (hu1 hu) (d_var (pv 10)) (pv 4))))) (d_cons (d_dput (hu1 hu) (pv 4) (d_var (pv 10)) (d_add (d_dgOw (hu1 hu) (pv 4) (d_var (pv 7)) (fun _ _ => rfl)) (d_var (pv 9)))) (d_one (d_push (pv 5) (d_var (pv 10))))) d_nil))) (d_one (d_aug (ps_aug (i := 6) nd rfl (Or.inl rfl) (d_const pe_int fun _ => .int _) ip_add))))))) (d_one (d_freeze (i := 4) (d_ret (d_var (pv 4)))))))))
def N_guard : List Str := ["machine", "lost", "marks", "groups", "arrows", "order", "states", "k", "row", "following"]
def P_guard : List Str := ["machine"]
theorem sc_guard : FnScope N_guard P_guard (defScope s_guard) := ⟨rfl, rfl, rfl, by decide +kernel, rfl, by decide +kernel, by decide +kernel⟩
theorem ok_guard (T : Facts K mg M) (Fu : Fun K "guard" "guard" s_guard fa fd) (H_check_machine : Has P w K mg base GT 3 "check_machine" P_check_machine (spD K (F_check_machine M))) (H_dead : Has P w K mg base GT 6 "dead" P_dead (spD K (F_dead M))) (H_arrows_of : Has P w K mg base GT 3 "arrows_of" P_arrows_of (spD K (F_arrows_of M))) (H_groups_of : Has P w K mg base GT 1 "groups_of" P_groups_of (spD K (F_groups_of))) (H_words_from : Has P w K mg base GT 1 "words_from" P_words_from (spD K (F_words_from))) (H_len : HasLen P w K mg base M) (H_Machine : HasM P w K mg base M) : FnG P w K mg base GT 7 fa fd P_guard (spD K (F_guard M)) := by
  refine d_def (N := N_guard) (ps := P_guard) (G := G_guard M) Fu sc_guard fun cdv A outer s H E C hr hg => ?_
  have nd := sc_guard.nd
  have hu := hr.units
  exact (d_cons (d_expr (d_callH (k := 6) H_check_machine hr (by decide) trivial rfl (takes_of rfl rfl rfl rfl) (d_acons (d_var (pv 0)) d_anil))) (d_cons (d_set (ps_set (i := 1) nd rfl (Or.inr rfl) (d_callH (k := 6) H_dead hr (by decide) trivial rfl (takes_of rfl rfl rfl rfl) (d_acons (d_var (pv 0)) d_anil)))) (d_cons (d_setF (ps_set (i := 2) nd rfl (Or.inr rfl) (d_lc (ctg_name (i := 7) (by decide)) (pe_lc (own := [("k", 7)]) rfl nd (d_irange rfl T.m_range (d_acons (d_lenH (k := 6) H_len hr (by decide) rfl T.m_len (d_acons (d_var (pv 0)) d_anil)) d_anil)) (blkOk_by (N := N_guard) (sc := defScope s_guard) (by decide +kernel)) (fun _ _ _ _ _ => (pg_name (i := 7) nd rfl (Or.inl rfl))) (fun _ _ _ _ _ => d_tsany fun C => d_tsnil) (fun _ _ _ _ _ => d_any fun C => (d_if (t_inq (d_var (pv 7)) (d_var (pv 1))) (d_const pe_int fun _ => .int _) (d_const pe_int fun _ => .int _))))))) (d_cons (d_set (ps_set (i := 3) nd rfl (Or.inr rfl) (d_callH (k := 6) H_groups_of hr (by decide) trivial rfl (takes_of rfl rfl rfl rfl) (d_acons (d_callH (k := 6) H_arrows_of hr (by decide) trivial rfl (takes_of rfl rfl rfl rfl) (d_acons (d_var (pv 0)) d_anil)) (d_acons (d_var (pv 2)) d_anil))))) (d_cons (d_setF (ps_set (i := 4) nd rfl (Or.inr rfl) (d_lc (ctg_name (i := 8) (by decide)) (pe_lc (own := [("row", 8)]) rfl nd (d_iany (d_callH (k := 6) H_arrows_of hr (by decide) trivial rfl (takes_of rfl rfl rfl rfl) (d_acons (d_var (pv 0)) d_anil))) (blkOk_by (N := N_guard) (sc := defScope s_guard) (by decide +kernel)) (fun _ _ _ _ _ => (pg_name (i := 8) nd rfl (Or.inl rfl))) (fun _ _ _ _ _ => d_tsany fun C => d_tsnil) (fun _ _ _ _ _ => d_any fun C => (d_share (d_lc (ctg_name (i := 7) (by decide)) (pe_lc (own := [("k", 7)]) rfl nd (d_iany (d_var (pv 8))) (blkOk_by (by kernel_rfl)) (fun _ _ _ _ _ => (pg_name (i := 7) nd rfl (Or.inl rfl))) (fun _ _ _ _ _ => d_tsany fun C => d_tsnil) (fun _ _ _ _ _ => d_any fun C => (d_ix (d_var (pv 3)) (d_var (pv 7)) (fun _ _ => rfl))))))))))) (d_cons (d_setF (ps_set (i := 5) nd rfl (Or.inr rfl) (d_lstD rfl rfl T.m_list (d_callH (k := 6) H_words_from hr (by decide) trivial rfl (takes_of rfl rfl rfl rfl) (d_acons (d_propG (k := 6) (d_var (pv 0)) T.cM T.g_letters hr (by decide)) (d_acons (d_var (pv 4)) (d_acons (d_ix (d_var (pv 3)) (d_const pe_int fun _ => .int _) (fun _ _ => rfl)) (d_acons (d_var (pv 3)) d_anil)))))))) (d_cons (d_setF (d_setlc (ctg_name (i := 7) (by decide)) (ps_setLc (i := 6) (own := [("k", 7)]) rfl nd rfl rfl (sw_true rfl rfl rfl (by decide +kernel)) (d_iany (d_var (pv 5))) (blkOk_by (N := N_guard) (sc := defScope s_guard) (by decide +kernel)) (fun _ _ _ _ _ => (pg_name (i := 7) nd rfl (Or.inl rfl))) (fun _ _ _ _ _ => d_tsany fun C => d_tsnil) (fun _ _ _ _ _ => d_any fun C => (d_tup (d_acons (d_ix (d_var (pv 2)) (d_var (pv 7)) (fun _ _ => rfl)) (d_acons (d_tuple rfl T.m_tuple (d_acons (d_share (d_lc (ctg_name (i := 9) (by decide)) (pe_lc (own := [("following", 9)]) rfl nd (d_iany (d_ix (d_var (pv 4)) (d_var (pv 7)) (fun _ _ => rfl))) (blkOk_by (by kernel_rfl)) (fun _ _ _ _ _ => (pg_name (i := 9) nd rfl (Or.inl rfl))) (fun _ _ _ _ _ => d_tsany fun C => d_tsnil) (fun _ _ _ _ _ => d_any fun C => (d_bmL PySem.F.slot_list_index PySem.F.type_list_index mt_index m_lidx (d_var (pv 5)) (d_acons (d_var (pv 9)) d_anil)))))) d_anil)) d_anil))))))) (d_one (d_ret (d_makeH H_Machine hr (by decide) rfl T.m_Machine (passes_call (takes_of rfl rfl rfl rfl) fun _ _ _ _ h => h) (d_acons (d_propG (k := 6) (d_var (pv 0)) T.cM T.g_letters hr (by decide)) (d_acons (d_tuple rfl T.m_tuple (d_acons (d_var (pv 6)) d_anil)) d_anil))))))))))))
def N_with_colours : List Str := ["machine", "colours", "k", "state"]
def P_with_colours : List Str := ["machine", "colours"]
theorem sc_with_colours : FnScope N_with_colours P_with_colours (defScope s_with_colours) := ⟨rfl, rfl, rfl, by decide +kernel, rfl, by decide +kernel, by decide +kernel⟩
theorem ok_with_colours (T : Facts K mg M) (Fu : Fun K "with_colours" "with_colours" s_with_colours fa fd) (H_Machine : HasM P w K mg base M) : FnG P w K mg base GT 6 fa fd P_with_colours (spD K (F_with_colours M)) := by
  refine d_def (N := N_with_colours) (ps := P_with_colours) (G := G_with_colours M) Fu sc_with_colours fun cdv A outer s H E C hr hg => ?_
  have nd := sc_with_colours.nd
  have hu := hr.units
  exact (d_one (d_ret (d_makeH H_Machine hr (by decide) rfl T.m_Machine (passes_call (takes_of rfl rfl rfl rfl) fun _ _ _ _ h => h) (d_acons (d_propG (k := 5) (d_var (pv 0)) T.cM T.g_letters hr (by decide)) (d_acons (d_tuple rfl T.m_tuple (d_acons (d_share (d_lc (ctg_pair (i := 2) (j := 3) (by decide) (by decide)) (pe_lc (own := [("k", 2), ("state", 3)]) rfl nd (d_ienumT rfl T.m_enumerate (d_acons (d_propG (k := 5) (d_var (pv 0)) T.cM T.g_states hr (by decide)) d_anil)) (blkOk_by (N := N_with_colours) (sc := defScope s_with_colours) (by decide +kernel)) (fun _ _ _ _ _ => (pg_tup rfl (pgs_cons (pg_name (i := 2) nd rfl (Or.inl rfl)) (pgs_cons (pg_name (i := 3) nd rfl (Or.inl rfl)) pgs_nil rfl) rfl) rfl rfl)) (fun _ _ _ _ _ => d_tsany fun C => d_tsnil) (fun _ _ _ _ _ => d_any fun C => (d_tup (d_acons (d_ix (d_var (pv 1)) (d_var (pv 2)) (fun _ _ => rfl)) (d_acons (d_ix (d_var (pv 3)) (d_const pe_int fun _ => .int _) (fun _ _ => rfl)) d_anil))))))) d_anil)) d_anil)))))
def N_hope : List Str := ["machine", "lost", "k", "colour"]
def P_hope : List Str := ["machine"]
theorem sc_hope : FnScope N_hope P_hope (defScope s_hope) := ⟨rfl, rfl, rfl, by decide +kernel, rfl, by decide +kernel, by decide +kernel⟩
theorem ok_hope (T : Facts K mg M) (Fu : Fun K "hope" "hope" s_hope fa fd) (H_check_machine : Has P w K mg base GT 3 "check_machine" P_check_machine (spD K (F_check_machine M))) (H_dead : Has P w K mg base GT 6 "dead" P_dead (spD K (F_dead M))) (H_colours_of : Has P w K mg base GT 3 "colours_of" P_colours_of (spD K (F_colours_of M))) (H_with_colours : Has P w K mg base GT 6 "with_colours" P_with_colours (spD K (F_with_colours M))) : FnG P w K mg base GT 7 fa fd P_hope (spD K (F_hope M)) := by
  refine d_def (N := N_hope) (ps := P_hope) (G := G_hope M) Fu sc_hope fun cdv A outer s H E C hr hg => ?_
  have nd := sc_hope.nd
  have hu := hr.units
  exact (d_cons (d_expr (d_callH (k := 6) H_check_machine hr (by decide) trivial rfl (takes_of rfl rfl rfl rfl) (d_acons (d_var (pv 0)) d_anil))) (d_cons (d_set (ps_set (i := 1) nd rfl (Or.inr rfl) (d_callH (k := 6) H_dead hr (by decide) trivial rfl (takes_of rfl rfl rfl rfl) (d_acons (d_var (pv 0)) d_anil)))) (d_one (d_ret (d_callH (k := 6) H_with_colours hr (by decide) trivial rfl (takes_of rfl rfl rfl rfl) (d_acons (d_var (pv 0)) (d_acons (d_share (d_lc (ctg_pair (i := 2) (j := 3) (by decide) (by decide)) (pe_lc (own := [("k", 2), ("colour", 3)]) rfl nd (d_ienumL rfl T.m_enumerate (d_acons (d_callH (k := 6) H_colours_of hr (by decide) trivial rfl (takes_of rfl rfl rfl rfl) (d_acons (d_var (pv 0)) d_anil)) d_anil)) (blkOk_by (N := N_hope) (sc := defScope s_hope) (by decide +kernel)) (fun _ _ _ _ _ => (pg_tup rfl (pgs_cons (pg_name (i := 2) nd rfl (Or.inl rfl)) (pgs_cons (pg_name (i := 3) nd rfl (Or.inl rfl)) pgs_nil rfl) rfl) rfl rfl)) (fun _ _ _ _ _ => d_tsany fun C => d_tsnil) (fun _ _ _ _ _ => d_any fun C => (d_if (t_inq (d_var (pv 2)) (d_var (pv 1))) (d_const pe_int fun _ => .int _) (d_var (pv 3))))))) d_anil)))))))
def N_least_colours : List Str := ["arrows", "colours", "numbers", "k", "least", "loop", "top", "below", "most", "least_top"]
def P_least_colours : List Str := ["arrows", "colours", "numbers"]
theorem sc_least_colours : FnScope N_least_colours P_least_colours (defScope s_least_colours) := ⟨rfl, rfl, rfl, by decide +kernel, rfl, by decide +kernel, by decide +kernel⟩
theorem ok_least_colours (T : Facts K mg M) (Fu : Fun K "least_colours" "least_colours" s_least_colours fa fd) {n : Nat} (hn : 2 ≤ n) {F_least_colours : DFn} (H_greatest_loops : Has P w K mg base GT 2 "greatest_loops" P_greatest_loops (spD K (F_greatest_loops))) (H_least_colours : Has P w K mg base GT n "least_colours" P_least_colours (spD K (F_least_colours))) : FnG P w K mg base GT (n + 1) fa fd P_least_colours (spD K (runD 10 3 (G_least_colours F_least_colours))) := by
  refine d_def (N := N_least_colours) (ps := P_least_colours) (G := G_least_colours F_least_colours) Fu sc_least_colours fun cdv A outer s H E C hr hg => ?_
  have nd := sc_least_colours.nd
  have hu := hr.units
  exact (d_cons (d_own (d_setdc (ctg_name (i := 3) (by decide)) (ps_setDc (i := 4) (own := [("k", 3)]) rfl nd rfl rfl (sw_trueD rfl rfl rfl (by decide +kernel)) (d_iany (d_var (pv 2))) (blkOk_by (N := N_least_colours) (sc := defScope s_least_colours) (by decide +kernel)) (fun _ _ _ _ _ => (pg_name (i := 3) nd rfl (Or.inl rfl))) (fun _ _ _ _ _ => d_tsany fun C => d_tsnil) (fun _ _ _ _ _ => d_any fun C => (d_var (pv 3))) (fun _ _ _ _ _ => d_any fun C => (d_const pe_int fun _ => .int _))))) (d_cons (d_for (passes_of rfl) rfl (d_iany (d_callH (k := n) H_greatest_loops hr (by omega) trivial rfl (takes_of rfl rfl rfl rfl) (d_acons (d_var (pv 0)) (d_acons (d_var (pv 2)) d_anil)))) (d_gname (pg_name (i := 5) nd rfl (Or.inl rfl))) (d_cons (d_set (ps_set (i := 6) nd rfl (Or.inr rfl) (d_maxL rfl rfl T.m_max (d_acons (d_share (d_lc (ctg_name (i := 3) (by decide)) (pe_lc (own := [("k", 3)]) rfl nd (d_iany (d_var (pv 5))) (blkOk_by (N := N_least_colours) (sc := defScope s_least_colours) (by decide +kernel)) (fun _ _ _ _ _ => (pg_name (i := 3) nd rfl (Or.inl rfl))) (fun _ _ _ _ _ => d_tsany fun C => d_tsnil) (fun _ _ _ _ _ => d_any fun C => (d_ix (d_var (pv 1)) (d_var (pv 3)) (fun _ _ => rfl)))))) d_anil)))) (d_cons (d_set (ps_set (i := 7) nd rfl (Or.inl rfl) (d_callH (k := n) H_least_colours hr (by omega) trivial rfl (takes_of rfl rfl rfl rfl) (d_acons (d_var (pv 0)) (d_acons (d_var (pv 1)) (d_acons (d_share (d_lc (ctg_name (i := 3) (by decide)) (pe_lc (own := [("k", 3)]) rfl nd (d_iany (d_var (pv 5))) (blkOk_by (N := N_least_colours) (sc := defScope s_least_colours) (by decide +kernel)) (fun _ _ _ _ _ => (pg_name (i := 3) nd rfl (Or.inl rfl))) (fun _ _ _ _ _ => d_tsany fun C => (d_tsone (t_lt (d_ix (d_var (pv 1)) (d_var (pv 3)) (fun _ _ => rfl)) (d_var (pv 6))))) (fun _ _ _ _ _ => d_any fun C => (d_var (pv 3)))))) d_anil)))))) (d_cons (d_set (ps_set (i := 8) nd rfl (Or.inl rfl) (d_maxL rfl rfl T.m_max (d_acons (d_share (d_lst (d_acons (d_const pe_int fun _ => .int _) (d_astar (d_share (d_listV rfl (d_var (pv 7)) rfl T.m_list)) d_anil)))) d_anil)))) (d_cons (d_set (ps_set (i := 9) nd rfl (Or.inl rfl) (d_add (d_var (pv 8)) (d_mod (d_add (d_var (pv 8)) (d_var (pv 6))) (d_const pe_int fun _ => .int _))))) (d_one (d_for (passes_of rfl) rfl (d_iany (d_var (pv 5))) (d_gname (pg_name (i := 3) nd rfl (Or.inl rfl))) (d_one (d_dput (hu1 hu) (pv 4) (d_var (pv 3)) (d_get2 (hu1 hu) (d_var (pv 7)) (d_var (pv 3)) (d_var (pv 9)) ⟨rfl, rfl, rfl, rfl⟩)))))))))) (d_one (d_freeze (i := 4) (d_ret (d_var (pv 4)))))))
def N_opposite : List Str := ["machine", "turned", "least", "colour", "k"]
def P_opposite : List Str := ["machine"]
theorem sc_opposite : FnScope N_opposite P_opposite (defScope s_opposite) := ⟨rfl, rfl, rfl, by decide +kernel, rfl, by decide +kernel, by decide +kernel⟩
theorem ok_opposite (T : Facts K mg M) (Fu : Fun K "opposite" "opposite" s_opposite fa fd) (H_check_machine : Has P w K mg base GT 3 "check_machine" P_check_machine (spD K (F_check_machine M))) (H_colours_of : Has P w K mg base GT 3 "colours_of" P_colours_of (spD K (F_colours_of M))) (H_arrows_of : Has P w K mg base GT 3 "arrows_of" P_arrows_of (spD K (F_arrows_of M))) (H_least_colours : Has P w K mg base GT 10 "least_colours" P_least_colours (spD K (F_least_colours))) (H_with_colours : Has P w K mg base GT 6 "with_colours" P_with_colours (spD K (F_with_colours M))) (H_len : HasLen P w K mg base M) : FnG P w K mg base GT 11 fa fd P_opposite (spD K (F_opposite M)) := by
  refine d_def (N := N_opposite) (ps := P_opposite) (G := G_opposite M) Fu sc_opposite fun cdv A outer s H E C hr hg => ?_
  have nd := sc_opposite.nd
  have hu := hr.units
  exact (d_cons (d_expr (d_callH (k := 10) H_check_machine hr (by decide) trivial rfl (takes_of rfl rfl rfl rfl) (d_acons (d_var (pv 0)) d_anil))) (d_cons (d_setF (d_setlc (ctg_name (i := 3) (by decide)) (ps_setLc (i := 1) (own := [("colour", 3)]) rfl nd rfl rfl (sw_true rfl rfl rfl (by decide +kernel)) (d_iany (d_callH (k := 10) H_colours_of hr (by decide) trivial rfl (takes_of rfl rfl rfl rfl) (d_acons (d_var (pv 0)) d_anil))) (blkOk_by (N := N_opposite) (sc := defScope s_opposite) (by decide +kernel)) (fun _ _ _ _ _ => (pg_name (i := 3) nd rfl (Or.inl rfl))) (fun _ _ _ _ _ => d_tsany fun C => d_tsnil) (fun _ _ _ _ _ => d_any fun C => (d_add (d_var (pv 3)) (d_const pe_int fun _ => .int _)))))) (d_cons (d_set (ps_set (i := 2) nd rfl (Or.inr rfl) (d_callH (k := 10) H_least_colours hr (by decide) trivial rfl (takes_of rfl rfl rfl rfl) (d_acons (d_callH (k := 10) H_arrows_of hr (by decide) trivial rfl (takes_of rfl rfl rfl rfl) (d_acons (d_var (pv 0)) d_anil)) (d_acons (d_var (pv 1)) (d_acons (d_share (d_listRg rfl rfl T.m_list rfl T.m_range (d_lenH (k := 10) H_len hr (by decide) rfl T.m_len (d_acons (d_var (pv 0)) d_anil)))) d_anil)))))) (d_one (d_ret (d_callH (k := 10) H_with_colours hr (by decide) trivial rfl (takes_of rfl rfl rfl rfl) (d_acons (d_var (pv 0)) (d_acons (d_share (d_lc (ctg_name (i := 4) (by decide)) (pe_lc (own := [("k", 4)]) rfl nd (d_irange rfl T.m_range (d_acons (d_lenH (k := 10) H_len hr (by decide) rfl T.m_len (d_acons (d_var (pv 0)) d_anil)) d_anil)) (blkOk_by (N := N_opposite) (sc := defScope s_opposite) (by decide +kernel)) (fun _ _ _ _ _ => (pg_name (i := 4) nd rfl (Or.inl rfl))) (fun _ _ _ _ _ => d_tsany fun C => d_tsnil) (fun _ _ _ _ _ => d_any fun C => (d_dg (hu1 hu) (d_var (pv 2)) (d_var (pv 4)) (fun _ _ => rfl)))))) d_anil))))))))
def N_first_words : List Str := ["machine"]
def P_first_words : List Str := ["machine"]
theorem sc_first_words : FnScope N_first_words P_first_words (defScope s_first_words) := ⟨rfl, rfl, rfl, by decide +kernel, rfl, by decide +kernel, by decide +kernel⟩
theorem ok_first_words (T : Facts K mg M) (Fu : Fun K "first_words" "first_words" s_first_words fa fd) (H_arrows_of : Has P w K mg base GT 3 "arrows_of" P_arrows_of (spD K (F_arrows_of M))) (H_words_from : Has P w K mg base GT 1 "words_from" P_words_from (spD K (F_words_from))) (H_len : HasLen P w K mg base M) : FnG P w K mg base GT 4 fa fd P_first_words (spD K (F_first_words M)) := by
  refine d_def (N := N_first_words) (ps := P_first_words) (G := G_first_words M) Fu sc_first_words fun cdv A outer s H E C hr hg => ?_
  have nd := sc_first_words.nd
  have hu := hr.units
  exact (d_one (d_ret (d_callH (k := 3) H_words_from hr (by decide) trivial rfl (takes_of rfl rfl rfl rfl) (d_acons (d_propG (k := 3) (d_var (pv 0)) T.cM T.g_letters hr (by decide)) (d_acons (d_callH (k := 3) H_arrows_of hr (by decide) trivial rfl (takes_of rfl rfl rfl rfl) (d_acons (d_var (pv 0)) d_anil)) (d_acons (d_const pe_int fun _ => .int _) (d_acons (d_share (d_listRg rfl rfl T.m_list rfl T.m_range (d_lenH (k := 3) H_len hr (by decide) rfl T.m_len (d_acons (d_var (pv 0)) d_anil)))) d_anil)))))))
def N_reached : List Str := ["machine"]
def P_reached : List Str := ["machine"]
theorem sc_reached : FnScope N_reached P_reached (defScope s_reached) := ⟨rfl, rfl, rfl, by decide +kernel, rfl, by decide +kernel, by decide +kernel⟩
theorem ok_reached (T : Facts K mg M) (Fu : Fun K "reached" "reached" s_reached fa fd) (H_first_words : Has P w K mg base GT 4 "first_words" P_first_words (spD K (F_first_words M))) : FnG P w K mg base GT 5 fa fd P_reached (spD K (F_reached M)) := by
  refine d_def (N := N_reached) (ps := P_reached) (G := G_reached M) Fu sc_reached fun cdv A outer s H E C hr hg => ?_
  have nd := sc_reached.nd
  have hu := hr.units
  exact (d_one (d_ret (d_share (d_lstD rfl rfl T.m_list (d_callH (k := 4) H_first_words hr (by decide) trivial rfl (takes_of rfl rfl rfl rfl) (d_acons (d_var (pv 0)) d_anil))))))
def N_recoloured : List Str := ["machine", "least", "k"]
def P_recoloured : List Str := ["machine"]
theorem sc_recoloured : FnScope N_recoloured P_recoloured (defScope s_recoloured) := ⟨rfl, rfl, rfl, by decide +kernel, rfl, by decide +kernel, by decide +kernel⟩
theorem ok_recoloured (T : Facts K mg M) (Fu : Fun K "recoloured" "recoloured" s_recoloured fa fd) (H_check_machine : Has P w K mg base GT 3 "check_machine" P_check_machine (spD K (F_check_machine M))) (H_reached : Has P w K mg base GT 5 "reached" P_reached (spD K (F_reached M))) (H_colours_of : Has P w K mg base GT 3 "colours_of" P_colours_of (spD K (F_colours_of M))) (H_arrows_of : Has P w K mg base GT 3 "arrows_of" P_arrows_of (spD K (F_arrows_of M))) (H_least_colours : Has P w K mg base GT 10 "least_colours" P_least_colours (spD K (F_least_colours))) (H_with_colours : Has P w K mg base GT 6 "with_colours" P_with_colours (spD K (F_with_colours M))) (H_len : HasLen P w K mg base M) : FnG P w K mg base GT 11 fa fd P_recoloured (spD K (F_recoloured M)) := by
  refine d_def (N := N_recoloured) (ps := P_recoloured) (G := G_recoloured M) Fu sc_recoloured fun cdv A outer s H E C hr hg => ?_
  have nd := sc_recoloured.nd
  have hu := hr.units
  exact (d_cons (d_expr (d_callH (k := 10) H_check_machine hr (by decide) trivial rfl (takes_of rfl rfl rfl rfl) (d_acons (d_var (pv 0)) d_anil))) (d_cons (d_set (ps_set (i := 1) nd rfl (Or.inr rfl) (d_callH (k := 10) H_least_colours hr (by decide) trivial rfl (takes_of rfl rfl rfl rfl) (d_acons (d_callH (k := 10) H_arrows_of hr (by decide) trivial rfl (takes_of rfl rfl rfl rfl) (d_acons (d_var (pv 0)) d_anil)) (d_acons (d_callH (k := 10) H_colours_of hr (by decide) trivial rfl (takes_of rfl rfl rfl rfl) (d_acons (d_var (pv 0)) d_anil)) (d_acons (d_callH (k := 10) H_reached hr (by decide) trivial rfl (takes_of rfl rfl rfl rfl) (d_acons (d_var (pv 0)) d_anil)) d_anil)))))) (d_one (d_ret (d_callH (k := 10) H_with_colours hr (by decide) trivial rfl (takes_of rfl rfl rfl rfl) (d_acons (d_var (pv 0)) (d_acons (d_share (d_lc (ctg_name (i := 2) (by decide)) (pe_lc (own := [("k", 2)]) rfl nd (d_irange rfl T.m_range (d_acons (d_lenH (k := 10) H_len hr (by decide) rfl T.m_len (d_acons (d_var (pv 0)) d_anil)) d_anil)) (blkOk_by (N := N_recoloured) (sc := defScope s_recoloured) (by decide +kernel)) (fun _ _ _ _ _ => (pg_name (i := 2) nd rfl (Or.inl rfl))) (fun _ _ _ _ _ => d_tsany fun C => d_tsnil) (fun _ _ _ _ _ => d_any fun C => (d_get2 (hu1 hu) (d_var (pv 1)) (d_var (pv 2)) (d_const pe_int fun _ => .int _) ⟨rfl, rfl, rfl, rfl⟩))))) d_anil)))))))
def N_has_loop : List Str := ["machine", "states", "evenness"]
def P_has_loop : List Str := ["machine", "states", "evenness"]
theorem sc_has_loop : FnScope N_has_loop P_has_loop (defScope s_has_loop) := ⟨rfl, rfl, rfl, by decide +kernel, rfl, by decide +kernel, by decide +kernel⟩
theorem ok_has_loop (T : Facts K mg M) (Fu : Fun K "has_loop" "has_loop" s_has_loop fa fd) (H_colours_of : Has P w K mg base GT 3 "colours_of" P_colours_of (spD K (F_colours_of M))) (H_arrows_of : Has P w K mg base GT 3 "arrows_of" P_arrows_of (spD K (F_arrows_of M))) (H_loops_as_asked : Has P w K mg base GT 3 "loops_as_asked" P_loops_as_asked (spD K (F_loops_as_asked))) : FnG P w K mg base GT 4 fa fd P_has_loop (spD K (F_has_loop M)) := by
  refine d_def (N := N_has_loop) (ps := P_has_loop) (G := G_has_loop M) Fu sc_has_loop fun cdv A outer s H E C hr hg => ?_
  have nd := sc_has_loop.nd
  have hu := hr.units
  exact (d_one (d_ret (d_gt (d_len rfl T.m_len (d_acons (d_callH (k := 3) H_loops_as_asked hr (by decide) trivial rfl (takes_of rfl rfl rfl rfl) (d_acons (d_callH (k := 3) H_arrows_of hr (by decide) trivial rfl (takes_of rfl rfl rfl rfl) (d_acons (d_var (pv 0)) d_anil)) (d_acons (d_var (pv 1)) (d_acons (d_share (d_lst (d_acons (d_tup (d_acons (d_callH (k := 3) H_colours_of hr (by decide) trivial rfl (takes_of rfl rfl rfl rfl) (d_acons (d_var (pv 0)) d_anil)) (d_acons (d_var (pv 2)) d_anil))) d_anil))) d_anil)))) d_anil)) (d_const pe_int fun _ => .int _))))
def N_is_guard : List Str := ["machine", "living", "state"]
def P_is_guard : List Str := ["machine"]
theorem sc_is_guard : FnScope N_is_guard P_is_guard (defScope s_is_guard) := ⟨rfl, rfl, rfl, by decide +kernel, rfl, by decide +kernel, by decide +kernel⟩
theorem ok_is_guard (T : Facts K mg M) (Fu : Fun K "is_guard" "is_guard" s_is_guard fa fd) (H_check_machine : Has P w K mg base GT 3 "check_machine" P_check_machine (spD K (F_check_machine M))) (H_live : Has P w K mg base GT 5 "live" P_live (spD K (F_live M))) (H_reached : Has P w K mg base GT 5 "reached" P_reached (spD K (F_reached M))) (H_has_loop : Has P w K mg base GT 4 "has_loop" P_has_loop (spD K (F_has_loop M))) : FnG P w K mg base GT 6 fa fd P_is_guard (spD K (F_is_guard M)) := by
  refine d_def (N := N_is_guard) (ps := P_is_guard) (G := G_is_guard M) Fu sc_is_guard fun cdv A outer s H E C hr hg => ?_
  have nd := sc_is_guard.nd
  have hu := hr.units
  exact (d_cons (d_expr (d_callH (k := 5) H_check_machine hr (by decide) trivial rfl (takes_of rfl rfl rfl rfl) (d_acons (d_var (pv 0)) d_anil))) (d_cons (d_set (ps_set (i := 1) nd rfl (Or.inr rfl) (d_callH (k := 5) H_live hr (by decide) trivial rfl (takes_of rfl rfl rfl rfl) (d_acons (d_var (pv 0)) d_anil)))) (d_one (d_ret (d_enot (d_callH (k := 5) H_has_loop hr (by decide) trivial rfl (takes_of rfl rfl rfl rfl) (d_acons (d_var (pv 0)) (d_acons (d_share (d_lc (ctg_name (i := 2) (by decide)) (pe_lc (own := [("state", 2)]) rfl nd (d_iany (d_callH (k := 5) H_reached hr (by decide) trivial rfl (takes_of rfl rfl rfl rfl) (d_acons (d_var (pv 0)) d_anil))) (blkOk_by (N := N_is_guard) (sc := defScope s_is_guard) (by decide +kernel)) (fun _ _ _ _ _ => (pg_name (i := 2) nd rfl (Or.inl rfl))) (fun _ _ _ _ _ => d_tsany fun C => (d_tsone (t_inq (d_var (pv 2)) (d_var (pv 1))))) (fun _ _ _ _ _ => d_any fun C => (d_var (pv 2)))))) (d_acons (d_inte rfl T.m_ODD) d_anil)))))))))
def N_is_hope : List Str := ["machine", "living", "state"]
def P_is_hope : List Str := ["machine"]
theorem sc_is_hope : FnScope N_is_hope P_is_hope (defScope s_is_hope) := ⟨rfl, rfl, rfl, by decide +kernel, rfl, by decide +kernel, by decide +kernel⟩
theorem ok_is_hope (T : Facts K mg M) (Fu : Fun K "is_hope" "is_hope" s_is_hope fa fd) (H_check_machine : Has P w K mg base GT 3 "check_machine" P_check_machine (spD K (F_check_machine M))) (H_live : Has P w K mg base GT 5 "live" P_live (spD K (F_live M))) (H_reached : Has P w K mg base GT 5 "reached" P_reached (spD K (F_reached M))) : FnG P w K mg base GT 6 fa fd P_is_hope (spD K (F_is_hope M)) := by
  refine d_def (N := N_is_hope) (ps := P_is_hope) (G := G_is_hope M) Fu sc_is_hope fun cdv A outer s H E C hr hg => ?_
  have nd := sc_is_hope.nd
  have hu := hr.units
  exact (d_cons (d_expr (d_callH (k := 5) H_check_machine hr (by decide) trivial rfl (takes_of rfl rfl rfl rfl) (d_acons (d_var (pv 0)) d_anil))) (d_cons (d_set (ps_set (i := 1) nd rfl (Or.inr rfl) (d_callH (k := 5) H_live hr (by decide) trivial rfl (takes_of rfl rfl rfl rfl) (d_acons (d_var (pv 0)) d_anil)))) (d_one (d_ret (d_all rfl rfl T.m_all (d_acons (d_share (d_lc (ctg_name (i := 2) (by decide)) (pe_lc (own := [("state", 2)]) rfl nd (d_iany (d_callH (k := 5) H_reached hr (by decide) trivial rfl (takes_of rfl rfl rfl rfl) (d_acons (d_var (pv 0)) d_anil))) (blkOk_by (N := N_is_hope) (sc := defScope s_is_hope) (by decide +kernel)) (fun _ _ _ _ _ => (pg_name (i := 2) nd rfl (Or.inl rfl))) (fun _ _ _ _ _ => d_tsany fun C => d_tsnil) (fun _ _ _ _ _ => d_any fun C => (d_inq (d_var (pv 2)) (d_var (pv 1))))))) d_anil))))))
def N_sure : List Str := ["machine", "unsure", "k"]
def P_sure : List Str := ["machine"]
theorem sc_sure : FnScope N_sure P_sure (defScope s_sure) := ⟨rfl, rfl, rfl, by decide +kernel, rfl, by decide +kernel, by decide +kernel⟩
theorem ok_sure (T : Facts K mg M) (Fu : Fun K "sure" "sure" s_sure fa fd) (H_check_machine : Has P w K mg base GT 3 "check_machine" P_check_machine (spD K (F_check_machine M))) (H_leading_to_loops : Has P w K mg base GT 4 "leading_to_loops" P_leading_to_loops (spD K (F_leading_to_loops M))) (H_len : HasLen P w K mg base M) : FnG P w K mg base GT 5 fa fd P_sure (spD K (F_sure M)) := by
  refine d_def (N := N_sure) (ps := P_sure) (G := G_sure M) Fu sc_sure fun cdv A outer s H E C hr hg => ?_
  have nd := sc_sure.nd
  have hu := hr.units
  exact (d_cons (d_expr (d_callH (k := 4) H_check_machine hr (by decide) trivial rfl (takes_of rfl rfl rfl rfl) (d_acons (d_var (pv 0)) d_anil))) (d_cons (d_set (ps_set (i := 1) nd rfl (Or.inr rfl) (d_callH (k := 4) H_leading_to_loops hr (by decide) trivial rfl (takes_of rfl rfl rfl rfl) (d_acons (d_var (pv 0)) (d_acons (d_inte rfl T.m_ODD) d_anil))))) (d_one (d_ret (d_tuple rfl T.m_tuple (d_acons (d_share (d_lc (ctg_name (i := 2) (by decide)) (pe_lc (own := [("k", 2)]) rfl nd (d_irange rfl T.m_range (d_acons (d_lenH (k := 4) H_len hr (by decide) rfl T.m_len (d_acons (d_var (pv 0)) d_anil)) d_anil)) (blkOk_by (N := N_sure) (sc := defScope s_sure) (by decide +kernel)) (fun _ _ _ _ _ => (pg_name (i := 2) nd rfl (Or.inl rfl))) (fun _ _ _ _ _ => d_tsany fun C => (d_tsone (t_ninq (d_var (pv 2)) (d_var (pv 1))))) (fun _ _ _ _ _ => d_any fun C => (d_var (pv 2)))))) d_anil))))))
def N_is_promise : List Str := ["machine", "safe", "state"]
def P_is_promise : List Str := ["machine"]
theorem sc_is_promise : FnScope N_is_promise P_is_promise (defScope s_is_promise) := ⟨rfl, rfl, rfl, by decide +kernel, rfl, by decide +kernel, by decide +kernel⟩
theorem ok_is_promise (T : Facts K mg M) (Fu : Fun K "is_promise" "is_promise" s_is_promise fa fd) (H_check_machine : Has P w K mg base GT 3 "check_machine" P_check_machine (spD K (F_check_machine M))) (H_sure : Has P w K mg base GT 5 "sure" P_sure (spD K (F_sure M))) (H_reached : Has P w K mg base GT 5 "reached" P_reached (spD K (F_reached M))) (H_has_loop : Has P w K mg base GT 4 "has_loop" P_has_loop (spD K (F_has_loop M))) : FnG P w K mg base GT 6 fa fd P_is_promise (spD K (F_is_promise M)) := by
  refine d_def (N := N_is_promise) (ps := P_is_promise) (G := G_is_promise M) Fu sc_is_promise fun cdv A outer s H E C hr hg => ?_
  have nd := sc_is_promise.nd
  have hu := hr.units
  exact (d_cons (d_expr (d_callH (k := 5) H_check_machine hr (by decide) trivial rfl (takes_of rfl rfl rfl rfl) (d_acons (d_var (pv 0)) d_anil))) (d_cons (d_set (ps_set (i := 1) nd rfl (Or.inr rfl) (d_callH (k := 5) H_sure hr (by decide) trivial rfl (takes_of rfl rfl rfl rfl) (d_acons (d_var (pv 0)) d_anil)))) (d_one (d_ret (d_enot (d_callH (k := 5) H_has_loop hr (by decide) trivial rfl (takes_of rfl rfl rfl rfl) (d_acons (d_var (pv 0)) (d_acons (d_share (d_lc (ctg_name (i := 2) (by decide)) (pe_lc (own := [("state", 2)]) rfl nd (d_iany (d_callH (k := 5) H_reached hr (by decide) trivial rfl (takes_of rfl rfl rfl rfl) (d_acons (d_var (pv 0)) d_anil))) (blkOk_by (N := N_is_promise) (sc := defScope s_is_promise) (by decide +kernel)) (fun _ _ _ _ _ => (pg_name (i := 2) nd rfl (Or.inl rfl))) (fun _ _ _ _ _ => d_tsany fun C => (d_tsone (t_ninq (d_var (pv 2)) (d_var (pv 1))))) (fun _ _ _ _ _ => d_any fun C => (d_var (pv 2)))))) (d_acons (d_inte rfl T.m_EVEN) d_anil)))))))))
def N_nested_loops : List Str := ["machine", "inner", "outer", "arrows", "colours", "around", "loop"]
def P_nested_loops : List Str := ["machine", "inner", "outer"]
theorem sc_nested_loops : FnScope N_nested_loops P_nested_loops (defScope s_nested_loops) := ⟨rfl, rfl, rfl, by decide +kernel, rfl, by decide +kernel, by decide +kernel⟩
theorem ok_nested_loops (T : Facts K mg M) (Fu : Fun K "nested_loops" "nested_loops" s_nested_loops fa fd) (H_arrows_of : Has P w K mg base GT 3 "arrows_of" P_arrows_of (spD K (F_arrows_of M))) (H_colours_of : Has P w K mg base GT 3 "colours_of" P_colours_of (spD K (F_colours_of M))) (H_reached : Has P w K mg base GT 5 "reached" P_reached (spD K (F_reached M))) (H_loops_as_asked : Has P w K mg base GT 3 "loops_as_asked" P_loops_as_asked (spD K (F_loops_as_asked))) : FnG P w K mg base GT 6 fa fd P_nested_loops (spD K (F_nested_loops M)) := by
  refine d_def (N := N_nested_loops) (ps := P_nested_loops) (G := G_nested_loops M) Fu sc_nested_loops fun cdv A outer s H E C hr hg => ?_
  have nd := sc_nested_loops.nd
  have hu := hr.units
  exact (d_cons (d_set (ps_set (i := 3) nd rfl (Or.inl rfl) (d_callH (k := 5) H_arrows_of hr (by decide) trivial rfl (takes_of rfl rfl rfl rfl) (d_acons (d_var (pv 0)) d_anil)))) (d_cons (d_set (ps_set (i := 4) nd rfl (Or.inl rfl) (d_callH (k := 5) H_colours_of hr (by decide) trivial rfl (takes_of rfl rfl rfl rfl) (d_acons (d_var (pv 0)) d_anil)))) (d_cons (d_for (passes_of rfl) rfl (d_iany (d_callH (k := 5) H_loops_as_asked hr (by decide) trivial rfl (takes_of rfl rfl rfl rfl) (d_acons (d_var (pv 3)) (d_acons (d_callH (k := 5) H_reached hr (by decide) trivial rfl (takes_of rfl rfl rfl rfl) (d_acons (d_var (pv 0)) d_anil)) (d_acons (d_share (d_lst (d_acons (d_tup (d_acons (d_var (pv 4)) (d_acons (d_var (pv 2)) d_anil))) d_anil))) d_anil))))) (d_gname (pg_name (i := 5) nd rfl (Or.inl rfl))) (d_one (d_for (passes_of rfl) rfl (d_iany (d_callH (k := 5) H_loops_as_asked hr (by decide) trivial rfl (takes_of rfl rfl rfl rfl) (d_acons (d_var (pv 3)) (d_acons (d_var (pv 5)) (d_acons (d_share (d_lst (d_acons (d_tup (d_acons (d_var (pv 4)) (d_acons (d_var (pv 1)) d_anil))) d_anil))) d_anil))))) (d_gname (pg_name (i := 6) nd rfl (Or.inl rfl))) (d_one (d_ret (d_tup (d_acons (d_var (pv 6)) (d_acons (d_var (pv 5)) d_anil)))))))) (d_one (d_ret (d_const pe_non fun _ => .non))))))
def N_comes_again : List Str := ["machine"]
def P_comes_again : List Str := ["machine"]
theorem sc_comes_again : FnScope N_comes_again P_comes_again (defScope s_comes_again) := ⟨rfl, rfl, rfl, by decide +kernel, rfl, by decide +kernel, by decide +kernel⟩
theorem ok_comes_again (T : Facts K mg M) (Fu : Fun K "comes_again" "comes_again" s_comes_again fa fd) (H_check_machine : Has P w K mg base GT 3 "check_machine" P_check_machine (spD K (F_check_machine M))) (H_nested_loops : Has P w K mg base GT 6 "nested_loops" P_nested_loops (spD K (F_nested_loops M))) : FnG P w K mg base GT 7 fa fd P_comes_again (spD K (F_comes_again M)) := by
  refine d_def (N := N_comes_again) (ps := P_comes_again) (G := G_comes_again M) Fu sc_comes_again fun cdv A outer s H E C hr hg => ?_
  have nd := sc_comes_again.nd
  have hu := hr.units
  exact (d_cons (d_expr (d_callH (k := 6) H_check_machine hr (by decide) trivial rfl (takes_of rfl rfl rfl rfl) (d_acons (d_var (pv 0)) d_anil))) (d_one (d_ret (d_isn (d_callH (k := 6) H_nested_loops hr (by decide) trivial rfl (takes_of rfl rfl rfl rfl) (d_acons (d_var (pv 0)) (d_acons (d_inte rfl T.m_EVEN) (d_acons (d_inte rfl T.m_ODD) d_anil)))) (d_const pe_non fun _ => .non)))))
def N_does_stay : List Str := ["machine"]
def P_does_stay : List Str := ["machine"]
theorem sc_does_stay : FnScope N_does_stay P_does_stay (defScope s_does_stay) := ⟨rfl, rfl, rfl, by decide +kernel, rfl, by decide +kernel, by decide +kernel⟩
theorem ok_does_stay (T : Facts K mg M) (Fu : Fun K "does_stay" "does_stay" s_does_stay fa fd) (H_check_machine : Has P w K mg base GT 3 "check_machine" P_check_machine (spD K (F_check_machine M))) (H_nested_loops : Has P w K mg base GT 6 "nested_loops" P_nested_loops (spD K (F_nested_loops M))) : FnG P w K mg base GT 7 fa fd P_does_stay (spD K (F_does_stay M)) := by
  refine d_def (N := N_does_stay) (ps := P_does_stay) (G := G_does_stay M) Fu sc_does_stay fun cdv A outer s H E C hr hg => ?_
  have nd := sc_does_stay.nd
  have hu := hr.units
  exact (d_cons (d_expr (d_callH (k := 6) H_check_machine hr (by decide) trivial rfl (takes_of rfl rfl rfl rfl) (d_acons (d_var (pv 0)) d_anil))) (d_one (d_ret (d_isn (d_callH (k := 6) H_nested_loops hr (by decide) trivial rfl (takes_of rfl rfl rfl rfl) (d_acons (d_var (pv 0)) (d_acons (d_inte rfl T.m_ODD) (d_acons (d_inte rfl T.m_EVEN) d_anil)))) (d_const pe_non fun _ => .non)))))
def N_is_duty : List Str := ["machine"]
def P_is_duty : List Str := ["machine"]
theorem sc_is_duty : FnScope N_is_duty P_is_duty (defScope s_is_duty) := ⟨rfl, rfl, rfl, by decide +kernel, rfl, by decide +kernel, by decide +kernel⟩
theorem ok_is_duty (T : Facts K mg M) (Fu : Fun K "is_duty" "is_duty" s_is_duty fa fd) (H_comes_again : Has P w K mg base GT 7 "comes_again" P_comes_again (spD K (F_comes_again M))) (H_does_stay : Has P w K mg base GT 7 "does_stay" P_does_stay (spD K (F_does_stay M))) : FnG P w K mg base GT 8 fa fd P_is_duty (spD K (F_is_duty M)) := by
  refine d_def (N := N_is_duty) (ps := P_is_duty) (G := G_is_duty M) Fu sc_is_duty fun cdv A outer s H E C hr hg => ?_
  have nd := sc_is_duty.nd
  have hu := hr.units
  exact (d_one (d_ret (d_eand (d_callH (k := 7) H_comes_again hr (by decide) trivial rfl (takes_of rfl rfl rfl rfl) (d_acons (d_var (pv 0)) d_anil)) (pe_one (d_callH (k := 7) H_does_stay hr (by decide) trivial rfl (takes_of rfl rfl rfl rfl) (d_acons (d_var (pv 0)) d_anil))))))
def N_depth : List Str := ["machine"]
def P_depth : List Str := ["machine"]
theorem sc_depth : FnScope N_depth P_depth (defScope s_depth) := ⟨rfl, rfl, rfl, by decide +kernel, rfl, by decide +kernel, by decide +kernel⟩
theorem ok_depth (T : Facts K mg M) (Fu : Fun K "depth" "depth" s_depth fa fd) (H_check_machine : Has P w K mg base GT 3 "check_machine" P_check_machine (spD K (F_check_machine M))) (H_recoloured : Has P w K mg base GT 11 "recoloured" P_recoloured (spD K (F_recoloured M))) (H_colours_of : Has P w K mg base GT 3 "colours_of" P_colours_of (spD K (F_colours_of M))) : FnG P w K mg base GT 12 fa fd P_depth (spD K (F_depth M)) := by
  refine d_def (N := N_depth) (ps := P_depth) (G := G_depth M) Fu sc_depth fun cdv A outer s H E C hr hg => ?_
  have nd := sc_depth.nd
  have hu := hr.units
  exact (d_cons (d_expr (d_callH (k := 11) H_check_machine hr (by decide) trivial rfl (takes_of rfl rfl rfl rfl) (d_acons (d_var (pv 0)) d_anil))) (d_one (d_ret (d_maxL rfl rfl T.m_max (d_acons (d_callH (k := 11) H_colours_of hr (by decide) trivial rfl (takes_of rfl rfl rfl rfl) (d_acons (d_callH (k := 11) H_recoloured hr (by decide) trivial rfl (takes_of rfl rfl rfl rfl) (d_acons (d_var (pv 0)) d_anil)) d_anil)) d_anil)))))
abbrev qs__law_caught : List (Sum Str String) := [.inl "NotAMachine", .inl "InvalidVerdict", .inl "OtherLetters", .inl "BadValue", .inl "BadName", .inl "NoAnswer", .inr "ValueError"]
def N__law_caught : List Str := ["_law_act", "e", "_law_some", "_law_plain", "_law_at"]
def P__law_caught : List Str := ["_law_act"]
theorem sc__law_caught : FnScope N__law_caught P__law_caught (defScope s__law_caught) := ⟨rfl, rfl, rfl, by decide +kernel, rfl, by decide +kernel, by decide +kernel⟩
def Gs__law_caught (M a_ : Addr) (d_ : D) (fl_ : List Bool) : SF := (sSeq (sAsg (eLst (aCons (eIsE 1 a_ (fl_.getD 0 false)) (aCons (eIsE 1 a_ (fl_.getD 1 false)) (aCons (eIsE 1 a_ (fl_.getD 2 false)) aNil)))) (gN 2)) (sSeq (sAsg (eLst (aCons (eIsE 1 a_ (fl_.getD 3 false)) (aCons (eIsE 1 a_ (fl_.getD 4 false)) (aCons (eIsE 1 a_ (fl_.getD 5 false)) aNil)))) (gN 3)) (sSeq (sIf (bOr (bB (e2 neF (eML cntF (eV 2) (aCons (eC (.bl true)) aNil)) (eC (.int 1)))) (bOr (bB (e2 neF (eV 3) (eLst (aCons (eC (.bl true)) (aCons (eC (.bl false)) (aCons (eC (.bl false)) aNil)))))) (bNot (bB (eIsE 1 a_ (fl_.getD 6 false)))))) (sRet (eLst (aCons (eC (.str "another error")) (aCons (eC (.str "")) aNil)))) sNil) (sSeq (sAsg (eML ldxF (eV 2) (aCons (eC (.bl true)) aNil)) (gN 4)) (sRet (eLst (aCons (eIx (eLst (aCons (eC (.str "NotAMachine")) (aCons (eC (.str "InvalidVerdict")) (aCons (eC (.str "OtherLetters")) aNil)))) (eV 4)) (aCons (eIf (bB (e2 eqF (eV 4) (eC (.int 2)))) eNever (eB reprA (aCons (eGv (eV 1) a_ d_) aNil))) aNil))))))))
def G2__law_caught : SF := (sRet (eLst aNil))
abbrev TT__law_caught (K : PySem.W.Frag) (M : Addr) := TTc K [.ref (He.ga K "BadValue"), .ref (He.ga K "BadName"), .ref (He.ga K "NoAnswer")] (qs__law_caught.map (qV K)) "given" 1 N__law_caught.length (Gs__law_caught M) G2__law_caught
theorem gives__law_caught {X : Cx} (T : Facts X.K X.mg M) (hr0 : Room 2 X.A) (hg0 : X.A.guards = some []) (qn : Str) (g : Addr) (cdv : Value) : LamX.GivesTo X N__law_caught "_law_caught" (defScope s__law_caught) g cdv (defBody s__law_caught) "_law_act" qn (TT__law_caught X.K M) := by
  have nd := sc__law_caught.nd
  refine caught_gives (fun _ => rfl) (fun _ => rfl) nd rfl (fun _ _ => rfl) (fun _ _ => ⟨rfl, by decide, .inl T.c_BadValue⟩) (fun _ _ => ⟨rfl, by decide, .inl T.c_BadName⟩) (fun _ _ => ⟨rfl, by decide, .inl T.c_NoAnswer⟩) (fun _ _ => rfl) (fun s H a_ dd_ oe_ c_ d_ fl_ fs_ v_ C pn_ hz_ hf_ EK hd_ hba_ hl_ hr_ hS_ => ?_) (fun s H C => ?_)
  · have hr1 : Room 1 (cxG X N__law_caught "_law_caught" (defScope s__law_caught) g cdv s H).A := hr0.deeper _
    have hr : True := trivial
    have hu65 : ∀ _ : True, ((cxG X N__law_caught "_law_caught" (defScope s__law_caught) g cdv s H).suite a_ ((a_, oe_) :: pn_)).A.units + 65 < cLine := fun _ => by have := hr1.un; show (cxG X N__law_caught "_law_caught" (defScope s__law_caught) g cdv s H).A.units + 65 < _; omega
    have hu : ((cxG X N__law_caught "_law_caught" (defScope s__law_caught) g cdv s H).suite a_ ((a_, oe_) :: pn_)).A.units + 64 < cLine := by have := hr1.un; show (cxG X N__law_caught "_law_caught" (defScope s__law_caught) g cdv s H).A.units + 64 < _; omega
    have hg : ((cxG X N__law_caught "_law_caught" (defScope s__law_caught) g cdv s H).suite a_ ((a_, oe_) :: pn_)).A.guards = some [] := hg0
    exact (d_cons (d_setF (ps_set (i := 2) nd rfl (Or.inl rfl) (d_lst (d_acons (d_isEX EK.ec hz_ hf_ ⟨_, hd_⟩ hba_ (EK.is 0 _ rfl) rfl T.m_isinstance (d_var (pv 1)) (d_clsn rfl T.c_NotAMachine)) (d_acons (d_isEX EK.ec hz_ hf_ ⟨_, hd_⟩ hba_ (EK.is 1 _ rfl) rfl T.m_isinstance (d_var (pv 1)) (d_clsn rfl T.c_InvalidVerdict)) (d_acons (d_isEX EK.ec hz_ hf_ ⟨_, hd_⟩ hba_ (EK.is 2 _ rfl) rfl T.m_isinstance (d_var (pv 1)) (d_clsn rfl T.c_OtherLetters)) d_anil)))))) (d_cons (d_setF (ps_set (i := 3) nd rfl (Or.inl rfl) (d_lst (d_acons (d_isEX EK.ec hz_ hf_ ⟨_, hd_⟩ hba_ (EK.is 3 _ rfl) rfl T.m_isinstance (d_var (pv 1)) (d_clsn rfl T.c_BadValue)) (d_acons (d_isEX EK.ec hz_ hf_ ⟨_, hd_⟩ hba_ (EK.is 4 _ rfl) rfl T.m_isinstance (d_var (pv 1)) (d_clsn rfl T.c_BadName)) (d_acons (d_isEX EK.ec hz_ hf_ ⟨_, hd_⟩ hba_ (EK.is 5 _ rfl) rfl T.m_isinstance (d_var (pv 1)) (d_clsn rfl T.c_NoAnswer)) d_anil)))))) (d_cons (d_sif (PW.pt (d_or (t_ne hu (d_bmL PySem.F.slot_list_count PySem.F.type_list_count (mt_countD (hu65 hr)) m_cnt (d_var (pv 2)) (d_acons (d_const pe_bl fun _ => .bl _) d_anil)) (d_const pe_int fun _ => .int _)) (d_or (t_ne hu (d_var (pv 3)) (d_share (d_lst (d_acons (d_const pe_bl fun _ => .bl _) (d_acons (d_const pe_bl fun _ => .bl _) (d_acons (d_const pe_bl fun _ => .bl _) d_anil)))))) (pw_or1 (d_not (d_tval (d_isEY EK.ec hz_ hf_ ⟨_, hd_⟩ hba_ (EK.is 6 _ rfl) rfl T.m_isinstance (d_var (pv 1)) (d_tyn rfl T.m_ValueError (by decide +kernel))) (fun _ => rfl))))))) (d_one (d_ret (d_share (d_lst (d_acons (d_const pe_str fun _ => .str _) (d_acons (d_const pe_str fun _ => .str _) d_anil)))))) d_nil) (d_cons (d_set (ps_set (i := 4) nd rfl (Or.inl rfl) (d_bmL PySem.F.slot_list_index PySem.F.type_list_index (mt_indexD (hu65 hr)) m_ldx (d_var (pv 2)) (d_acons (d_const pe_bl fun _ => .bl _) d_anil)))) (d_one (d_ret (d_share (d_lst (d_acons (d_ix (d_share (d_lst (d_acons (d_const pe_str fun _ => .str _) (d_acons (d_const pe_str fun _ => .str _) (d_acons (d_const pe_str fun _ => .str _) d_anil))))) (d_var (pv 4)) (fun _ _ => rfl)) (d_acons (d_if (t_eq hu (d_var (pv 4)) (d_const pe_int fun _ => .int _)) d_enever (d_reprA hg hu rfl T.m_repr (d_acons (d_gv EK.xf EK.no hz_ hf_ hd_ hba_ hl_ hS_ hr_ (d_var (pv 1))) d_anil))) d_anil))))))))))
  · exact (d_one (d_ret (d_share (d_lst d_anil))))
/-- what _law_caught makes of an outcome -/
def kCaught (M : Addr) : Out D → Option D
  | .ok _ _ => some (.lst [])
  | .ex c [n] [d] _ => if n = "given" then (if c = "NotAMachine" ∨ c = "InvalidVerdict" then (reprA [d]).map fun z => .lst [.str c, z] else none) else none
  | _ => none
theorem gs_caught (M a : Addr) (d z : D) (fl : List Bool) (c : Str) (hf : fl = [true, false, false, true, false, false, true] ∧ c = "NotAMachine" ∨ fl = [false, true, false, true, false, false, true] ∧ c = "InvalidVerdict") (hz : reprA [d] = some z) (b : Bag) :
    Gs__law_caught M a d fl ((List.replicate N__law_caught.length none).set 1 (some (.sh (.obj (.ref a))))) b = .rt (.lst [.str c, z]) b := by
  have k2 : neF (D.int 1) (D.int 1) = some (.bl false) := by kernel_rfl
  have k3 : neF (.lst [D.bl true, D.bl false, D.bl false]) (.lst [D.bl true, D.bl false, D.bl false]) = some (.bl false) := by kernel_rfl
  rcases hf with ⟨rfl, rfl⟩ | ⟨rfl, rfl⟩
  · have k1 : cntF [D.bl true, D.bl false, D.bl false] [D.bl true] = some (.int 1) := by kernel_rfl
    have k4 : ldxF [D.bl true, D.bl false, D.bl false] [D.bl true] = some (.int 0) := by kernel_rfl
    have k5 : eqF (.int 0) (.int 2) = some (.bl false) := by kernel_rfl
    have k6 : ixF b (.lst [.str "NotAMachine", .str "InvalidVerdict", .str "OtherLetters"]) (.int 0) = some (.str "NotAMachine") := by rfl
    unfold Gs__law_caught
    simp [N__law_caught, eIsE, List.replicate, eGv, hz, seqOf, k1, k2, k3, k4, k5, k6]
  · have k1 : cntF [D.bl false, D.bl true, D.bl false] [D.bl true] = some (.int 1) := by kernel_rfl
    have k4 : ldxF [D.bl false, D.bl true, D.bl false] [D.bl true] = some (.int 1) := by kernel_rfl
    have k5 : eqF (.int 1) (.int 2) = some (.bl false) := by kernel_rfl
    have k6 : ixF b (.lst [.str "NotAMachine", .str "InvalidVerdict", .str "OtherLetters"]) (.int 1) = some (.str "InvalidVerdict") := by rfl
    unfold Gs__law_caught
    simp [N__law_caught, eIsE, List.replicate, eGv, hz, seqOf, k1, k2, k3, k4, k5, k6]
theorem tells__law_caught (T : Facts K mg M) : Tells K (TT__law_caught K M) (kCaught M) := by
  have e1 := T.e_NotAMachine
  have e2 := T.e_InvalidVerdict
  refine tells_c (fun d b1 => .inr ⟨_, rfl, rfl⟩) (fun c ns ds bx => ?_)
  by_cases hn : ∃ g, ns = ([("given" : Str)] : List Str) ∧ ds = [g]
  · obtain ⟨g, rfl, rfl⟩ := hn
    by_cases hc : c = "NotAMachine" ∨ c = "InvalidVerdict"
    · have ek : kCaught M (.ex c ["given"] [g] bx) = (reprA [g]).map fun z => .lst [.str c, z] := by
        show (if ("given" : Str) = "given" then (if c = "NotAMachine" ∨ c = "InvalidVerdict" then (reprA [g]).map fun z => D.lst [D.str c, z] else none) else none) = _
        rw [if_pos rfl, if_pos hc]
      rw [ek]
      cases hz : reprA [g] with
      | none => exact .inl rfl
      | some z =>
        right
        rcases hc with rfl | rfl
        · exact ⟨_, g, _, rfl, rfl, rfl, e1, fun a => gs_caught M a g z _ _ (.inl ⟨rfl, rfl⟩) hz bx⟩
        · exact ⟨_, g, _, rfl, rfl, rfl, e2, fun a => gs_caught M a g z _ _ (.inr ⟨rfl, rfl⟩) hz bx⟩
    · left
      show (if ("given" : Str) = "given" then (if c = "NotAMachine" ∨ c = "InvalidVerdict" then (reprA [g]).map fun z => D.lst [D.str c, z] else none) else none) = none
      rw [if_pos rfl, if_neg hc]
  · left
    unfold kCaught
    split
    · rename_i h; cases h
    · rename_i c' n d b' h
      cases h
      by_cases h2 : n = "given"
      · subst h2; exact absurd ⟨d, rfl, rfl⟩ hn
      · rw [if_neg h2]
    · rfl
def G__law_of_parts (M : Addr) : SF := (sSeq (sOwn (eLst (aCons (eTold (kCaught M) (eCall (F_guard M) (aCons (eV 0) aNil))) aNil)) 1) (sSeq (sPush 1 (eTold (kCaught M) (eCallK 1 (F_hope M) (pick [0]) (aCons (eV 0) aNil)))) (sSeq (sPush 1 (eTold (kCaught M) (eCall (F_opposite M) (aCons (eV 0) aNil)))) (sSeq (sPush 1 (eTold (kCaught M) (eCallK 1 (F_recoloured M) (pick [0]) (aCons (eV 0) aNil)))) (sSeq (sPush 1 (eTold (kCaught M) (eCall (F_is_guard M) (aCons (eV 0) aNil)))) (sSeq (sPush 1 (eTold (kCaught M) (eCallK 1 (F_is_hope M) (pick [0]) (aCons (eV 0) aNil)))) (sSeq (sPush 1 (eTold (kCaught M) (eCall (F_is_promise M) (aCons (eV 0) aNil)))) (sSeq (sPush 1 (eTold (kCaught M) (eCallK 1 (F_is_duty M) (pick [0]) (aCons (eV 0) aNil)))) (sSeq (sPush 1 (eTold (kCaught M) (eCall (F_comes_again M) (aCons (eV 0) aNil)))) (sSeq (sPush 1 (eTold (kCaught M) (eCallK 1 (F_does_stay M) (pick [0]) (aCons (eV 0) aNil)))) (sSeq (sPush 1 (eTold (kCaught M) (eCall (F_depth M) (aCons (eV 0) aNil)))) (sFreeze 1 (sRet (eV 1))))))))))))))
def F__law_of_parts (M : Addr) : DFn := runD 2 1 (G__law_of_parts M)
def N__law_of_parts : List Str := ["_law_head", "_law_told"]
def P__law_of_parts : List Str := ["_law_head"]
theorem sc__law_of_parts : FnScope N__law_of_parts P__law_of_parts (defScope s__law_of_parts) := ⟨rfl, rfl, rfl, by decide +kernel, rfl, by decide +kernel, by decide +kernel⟩
theorem ok__law_of_parts (T : Facts K mg M) (Fu : Fun K "_law_of_parts" "_law_of_parts" s__law_of_parts fa fd) (LF : LamF K base mg fa "_law_of_parts") (H_guard : Has P w K mg base GT 7 "guard" P_guard (spD K (F_guard M))) (H_hope : Has P w K mg base GT 7 "hope" P_hope (spD K (F_hope M))) (H_opposite : Has P w K mg base GT 11 "opposite" P_opposite (spD K (F_opposite M))) (H_recoloured : Has P w K mg base GT 11 "recoloured" P_recoloured (spD K (F_recoloured M))) (H_is_guard : Has P w K mg base GT 6 "is_guard" P_is_guard (spD K (F_is_guard M))) (H_is_hope : Has P w K mg base GT 6 "is_hope" P_is_hope (spD K (F_is_hope M))) (H_is_promise : Has P w K mg base GT 6 "is_promise" P_is_promise (spD K (F_is_promise M))) (H_is_duty : Has P w K mg base GT 8 "is_duty" P_is_duty (spD K (F_is_duty M))) (H_comes_again : Has P w K mg base GT 7 "comes_again" P_comes_again (spD K (F_comes_again M))) (H_does_stay : Has P w K mg base GT 7 "does_stay" P_does_stay (spD K (F_does_stay M))) (H_depth : Has P w K mg base GT 12 "depth" P_depth (spD K (F_depth M))) (K_hope : HasK P w K mg base GT 7 "hope" P_hope ["machine"] [0] (spD K (F_hope M))) (K_recoloured : HasK P w K mg base GT 11 "recoloured" P_recoloured ["machine"] [0] (spD K (F_recoloured M))) (K_is_hope : HasK P w K mg base GT 6 "is_hope" P_is_hope ["machine"] [0] (spD K (F_is_hope M))) (K_is_duty : HasK P w K mg base GT 8 "is_duty" P_is_duty ["machine"] [0] (spD K (F_is_duty M))) (K_does_stay : HasK P w K mg base GT 7 "does_stay" P_does_stay ["machine"] [0] (spD K (F_does_stay M))) (HA__law_caught : HasAct K mg "_law_caught" s__law_caught "_law_act") : FnG P w K mg base GK 15 fa fd P__law_of_parts (spD K (F__law_of_parts M)) := by
  refine d_defC (N := N__law_of_parts) (ps := P__law_of_parts) (G := G__law_of_parts M) Fu sc__law_of_parts LF fun cdv A outer s H E C LT hr hg => ?_
  have nd := sc__law_of_parts.nd
  have hu := hr.units
  exact (d_cons (d_own (ps_set (i := 1) nd rfl (Or.inl rfl) (d_lst (d_acons (d_lamA (k := 12) HA__law_caught (tells__law_caught T) rfl sc__law_caught rfl (.inl rfl) (fun g cdv => gives__law_caught T (hr.mono (by decide)) hg _ g cdv) LT hr (by show LamX.lamSB (defScope s__law_of_parts) _ = true; decide +kernel) (fun A outer s H E f c' C hr => (d_callH (k := 12) H_guard hr (by decide) trivial rfl (takes_of rfl rfl rfl rfl) (d_acons (d_var (pv 0)) d_anil)))) d_anil)))) (d_cons (d_push (pv 1) (d_lamA (k := 12) HA__law_caught (tells__law_caught T) rfl sc__law_caught rfl (.inl rfl) (fun g cdv => gives__law_caught T (hr.mono (by decide)) hg _ g cdv) LT hr (by show LamX.lamSB (defScope s__law_of_parts) _ = true; decide +kernel) (fun A outer s H E f c' C hr => (d_callKH (k := 12) (ks := ["machine"]) (perm := [0]) K_hope hr (by decide) rfl (passes_call (takes_of rfl rfl rfl rfl) fun _ _ _ _ h => h) (d_kcons (d_var (pv 0)) d_knil))))) (d_cons (d_push (pv 1) (d_lamA (k := 12) HA__law_caught (tells__law_caught T) rfl sc__law_caught rfl (.inl rfl) (fun g cdv => gives__law_caught T (hr.mono (by decide)) hg _ g cdv) LT hr (by show LamX.lamSB (defScope s__law_of_parts) _ = true; decide +kernel) (fun A outer s H E f c' C hr => (d_callH (k := 12) H_opposite hr (by decide) trivial rfl (takes_of rfl rfl rfl rfl) (d_acons (d_var (pv 0)) d_anil))))) (d_cons (d_push (pv 1) (d_lamA (k := 12) HA__law_caught (tells__law_caught T) rfl sc__law_caught rfl (.inl rfl) (fun g cdv => gives__law_caught T (hr.mono (by decide)) hg _ g cdv) LT hr (by show LamX.lamSB (defScope s__law_of_parts) _ = true; decide +kernel) (fun A outer s H E f c' C hr => (d_callKH (k := 12) (ks := ["machine"]) (perm := [0]) K_recoloured hr (by decide) rfl (passes_call (takes_of rfl rfl rfl rfl) fun _ _ _ _ h => h) (d_kcons (d_var (pv 0)) d_knil))))) (d_cons (d_push (pv 1) (d_lamA (k := 12) HA__law_caught (tells__law_caught T) rfl sc__law_caught rfl (.inl rfl) (fun g cdv => gives__law_caught T (hr.mono (by decide)) hg _ g cdv) LT hr (by show LamX.lamSB (defScope s__law_of_parts) _ = true; decide +kernel) (fun A outer s H E f c' C hr => (d_callH (k := 12) H_is_guard hr (by decide) trivial rfl (takes_of rfl rfl rfl rfl) (d_acons (d_var (pv 0)) d_anil))))) (d_cons (d_push (pv 1) (d_lamA (k := 12) HA__law_caught (tells__law_caught T) rfl sc__law_caught rfl (.inl rfl) (fun g cdv => gives__law_caught T (hr.mono (by decide)) hg _ g cdv) LT hr (by show LamX.lamSB (defScope s__law_of_parts) _ = true; decide +kernel) (fun A outer s H E f c' C hr => (d_callKH (k := 12) (ks := ["machine"]) (perm := [0]) K_is_hope hr (by decide) rfl (passes_call (takes_of rfl rfl rfl rfl) fun _ _ _ _ h => h) (d_kcons (d_var (pv 0)) d_knil))))) (d_cons (d_push (pv 1) (d_lamA (k := 12) HA__law_caught (tells__law_caught T) rfl sc__law_caught rfl (.inl rfl) (fun g cdv => gives__law_caught T (hr.mono (by decide)) hg _ g cdv) LT hr (by show LamX.lamSB (defScope s__law_of_parts) _ = true; decide +kernel) (fun A outer s H E f c' C hr => (d_callH (k := 12) H_is_promise hr (by decide) trivial rfl (takes_of rfl rfl rfl rfl) (d_acons (d_var (pv 0)) d_anil))))) (d_cons (d_push (pv 1) (d_lamA (k := 12) HA__law_caught (tells__law_caught T) rfl sc__law_caught rfl (.inl rfl) (fun g cdv => gives__law_caught T (hr.mono (by decide)) hg _ g cdv) LT hr (by show LamX.lamSB (defScope s__law_of_parts) _ = true; decide +kernel) (fun A outer s H E f c' C hr => (d_callKH (k := 12) (ks := ["machine"]) (perm := [0]) K_is_duty hr (by decide) rfl (passes_call (takes_of rfl rfl rfl rfl) fun _ _ _ _ h => h) (d_kcons (d_var (pv 0)) d_knil))))) (d_cons (d_push (pv 1) (d_lamA (k := 12) HA__law_caught (tells__law_caught T) rfl sc__law_caught rfl (.inl rfl) (fun g cdv => gives__law_caught T (hr.mono (by decide)) hg _ g cdv) LT hr (by show LamX.lamSB (defScope s__law_of_parts) _ = true; decide +kernel) (fun A outer s H E f c' C hr => (d_callH (k := 12) H_comes_again hr (by decide) trivial rfl (takes_of rfl rfl rfl rfl) (d_acons (d_var (pv 0)) d_anil))))) (d_cons (d_push (pv 1) (d_lamA (k := 12) HA__law_caught (tells__law_caught T) rfl sc__law_caught rfl (.inl rfl) (fun g cdv => gives__law_caught T (hr.mono (by decide)) hg _ g cdv) LT hr (by show LamX.lamSB (defScope s__law_of_parts) _ = true; decide +kernel) (fun A outer s H E f c' C hr => (d_callKH (k := 12) (ks := ["machine"]) (perm := [0]) K_does_stay hr (by decide) rfl (passes_call (takes_of rfl rfl rfl rfl) fun _ _ _ _ h => h) (d_kcons (d_var (pv 0)) d_knil))))) (d_cons (d_push (pv 1) (d_lamA (k := 12) HA__law_caught (tells__law_caught T) rfl sc__law_caught rfl (.inl rfl) (fun g cdv => gives__law_caught T (hr.mono (by decide)) hg _ g cdv) LT hr (by show LamX.lamSB (defScope s__law_of_parts) _ = true; decide +kernel) (fun A outer s H E f c' C hr => (d_callH (k := 12) H_depth hr (by decide) trivial rfl (takes_of rfl rfl rfl rfl) (d_acons (d_var (pv 0)) d_anil))))) (d_one (d_freeze (i := 1) (d_ret (d_var (pv 1))))))))))))))))
def N__law_first : List Str := ["_law_dues", "_law_due"]
def P__law_first : List Str := ["_law_dues"]
theorem sc__law_first : FnScope N__law_first P__law_first (defScope s__law_first) := ⟨rfl, rfl, rfl, by decide +kernel, rfl, by decide +kernel, by decide +kernel⟩
theorem ok__law_first (T : Facts K mg M) (Fu : Fun K "_law_first" "_law_first" s__law_first fa fd) : FnG P w K mg base GT 1 fa fd P__law_first (spD K (F__law_first)) := by
  refine d_def (N := N__law_first) (ps := P__law_first) (G := G__law_first) Fu sc__law_first fun cdv A outer s H E C hr hg => ?_
  have nd := sc__law_first.nd
  have hu := hr.units
  exact (d_one (d_ret (d_ix (d_add (d_share (d_lc (ctg_name (i := 1) (by decide)) (pe_lc (own := [("_law_due", 1)]) rfl nd (d_iany (d_var (pv 0))) (blkOk_by (N := N__law_first) (sc := defScope s__law_first) (by decide +kernel)) (fun _ _ _ _ _ => (pg_name (i := 1) nd rfl (Or.inl rfl))) (fun _ _ _ _ _ => d_tsany fun C => (d_tsone (t_ne hu (d_var (pv 1)) (d_share (d_lst d_anil))))) (fun _ _ _ _ _ => d_any fun C => (d_var (pv 1)))))) (d_share (d_lst (d_acons (d_share (d_lst d_anil)) d_anil)))) (d_const pe_int fun _ => .int _) (fun _ _ => rfl))))
def N_check_wanted : List Str := ["value", "words"]
def P_check_wanted : List Str := ["value", "words"]
theorem sc_check_wanted : FnScope N_check_wanted P_check_wanted (defScope s_check_wanted) := ⟨rfl, rfl, rfl, by decide +kernel, rfl, by decide +kernel, by decide +kernel⟩
theorem ok_check_wanted (T : Facts K mg M) (Fu : Fun K "check_wanted" "check_wanted" s_check_wanted fa fd) (HX_InvalidVerdict : HasX P w K mg base "InvalidVerdict" "given") : FnG P w K mg base GT 3 fa fd P_check_wanted (spD K (F_check_wanted M)) := by
  refine d_def (N := N_check_wanted) (ps := P_check_wanted) (G := G_check_wanted M) Fu sc_check_wanted fun cdv A outer s H E C hr hg => ?_
  have nd := sc_check_wanted.nd
  have hu := hr.units
  exact (d_one (d_sif (PW.pt (d_or (d_not (d_tval (d_isi (.ty _) (fun _ _ h => kit_ty h) (fun A b h => T.own T.k_str h) rfl T.m_isinstance (d_acons (d_var (pv 0)) (d_acons (d_tyn rfl T.m_str (by decide +kernel)) d_anil))) (fun _ => rfl))) (pw_or1 (t_ninq (d_var (pv 0)) (d_var (pv 1)))))) (d_one (d_raise HX_InvalidVerdict (hr.mono (by decide)) rfl (takes_of rfl rfl rfl rfl) rfl (d_var (pv 0)))) d_nil))
def N_top_of : List Str := ["colours", "loop", "top", "k"]
def P_top_of : List Str := ["colours", "loop"]
theorem sc_top_of : FnScope N_top_of P_top_of (defScope s_top_of) := ⟨rfl, rfl, rfl, by decide +kernel, rfl, by decide +kernel, by decide +kernel⟩
theorem ok_top_of (T : Facts K mg M) (Fu : Fun K "top_of" "top_of" s_top_of fa fd) : FnG P w K mg base GT 1 fa fd P_top_of (spD K (F_top_of)) := by
  refine d_def (N := N_top_of) (ps := P_top_of) (G := G_top_of) Fu sc_top_of fun cdv A outer s H E C hr hg => ?_
  have nd := sc_top_of.nd
  have hu := hr.units
  exact (d_cons (d_set (ps_set (i := 2) nd rfl (Or.inr rfl) (d_maxL rfl rfl T.m_max (d_acons (d_share (d_lc (ctg_name (i := 3) (by decide)) (pe_lc (own := [("k", 3)]) rfl nd (d_iany (d_var (pv 1))) (blkOk_by (N := N_top_of) (sc := defScope s_top_of) (by decide +kernel)) (fun _ _ _ _ _ => (pg_name (i := 3) nd rfl (Or.inl rfl))) (fun _ _ _ _ _ => d_tsany fun C => d_tsnil) (fun _ _ _ _ _ => d_any fun C => (d_ix (d_var (pv 0)) (d_var (pv 3)) (fun _ _ => rfl)))))) d_anil)))) (d_one (d_ret (d_ix (d_share (d_lc (ctg_name (i := 3) (by decide)) (pe_lc (own := [("k", 3)]) rfl nd (d_iany (d_var (pv 1))) (blkOk_by (N := N_top_of) (sc := defScope s_top_of) (by decide +kernel)) (fun _ _ _ _ _ => (pg_name (i := 3) nd rfl (Or.inl rfl))) (fun _ _ _ _ _ => d_tsany fun C => (d_tsone (t_eq hu (d_ix (d_var (pv 0)) (d_var (pv 3)) (fun _ _ => rfl)) (d_var (pv 2))))) (fun _ _ _ _ _ => d_any fun C => (d_var (pv 3)))))) (d_const pe_int fun _ => .int _) (fun _ _ => rfl)))))
def N_word_round : List Str := ["letters", "arrows", "loop", "stops", "word", "state", "stop", "letter", "k"]
def P_word_round : List Str := ["letters", "arrows", "loop", "stops"]
theorem sc_word_round : FnScope N_word_round P_word_round (defScope s_word_round) := ⟨rfl, rfl, rfl, by decide +kernel, rfl, by decide +kernel, by decide +kernel⟩
theorem ok_word_round (T : Facts K mg M) (Fu : Fun K "word_round" "word_round" s_word_round fa fd) (H_words_from : Has P w K mg base GT 1 "words_from" P_words_from (spD K (F_words_from))) : FnG P w K mg base GT 2 fa fd P_word_round (spD K (F_word_round)) := by
  refine d_def (N := N_word_round) (ps := P_word_round) (G := G_word_round) Fu sc_word_round fun cdv A outer s H E C hr hg => ?_
  have nd := sc_word_round.nd
  have hu := hr.units
  exact (d_cons (d_asg (d_ix (d_share (d_lc (ctg_pair (i := 7) (j := 8) (by decide) (by decide)) (pe_lc (own := [("letter", 7), ("k", 8)]) rfl nd (d_izipX rfl T.m_zip (d_acons (d_var (pv 0)) (d_acons (d_ix (d_var (pv 1)) (d_ix (d_var (pv 3)) (d_const pe_int fun _ => .int _) (fun _ _ => rfl)) (fun _ _ => rfl)) d_anil))) (blkOk_by (N := N_word_round) (sc := defScope s_word_round) (by decide +kernel)) (fun _ _ _ _ _ => (pg_tup rfl (pgs_cons (pg_name (i := 7) nd rfl (Or.inl rfl)) (pgs_cons (pg_name (i := 8) nd rfl (Or.inl rfl)) pgs_nil rfl) rfl) rfl rfl)) (fun _ _ _ _ _ => d_tsany fun C => (d_tsone (t_inq (d_var (pv 8)) (d_var (pv 2))))) (fun _ _ _ _ _ => d_any fun C => (d_tup (d_acons (d_var (pv 7)) (d_acons (d_var (pv 8)) d_anil))))))) (d_const pe_int fun _ => .int _) (fun _ _ => rfl)) (d_gtup rfl (d_gcons (d_gname (pg_name (i := 4) nd rfl (Or.inl rfl))) (d_gcons (d_gname (pg_name (i := 5) nd rfl (Or.inl rfl))) d_gnil)))) (d_cons (d_for (passes_of rfl) rfl (d_iany (d_tup (d_astar (d_slice (d_var (pv 3)) (d_osome (d_const pe_int fun _ => .int _)) d_ono) (d_acons (d_ix (d_var (pv 3)) (d_const pe_int fun _ => .int _) (fun _ _ => rfl)) d_anil)))) (d_gname (pg_name (i := 6) nd rfl (Or.inl rfl))) (d_cons (d_set (ps_set (i := 4) nd rfl (Or.inl rfl) (d_add (d_var (pv 4)) (d_dg (hu1 hu) (d_callH (k := 1) H_words_from hr (by decide) trivial rfl (takes_of rfl rfl rfl rfl) (d_acons (d_var (pv 0)) (d_acons (d_var (pv 1)) (d_acons (d_var (pv 5)) (d_acons (d_var (pv 2)) d_anil))))) (d_var (pv 6)) (fun _ _ => rfl))))) (d_one (d_set (ps_set (i := 5) nd rfl (Or.inl rfl) (d_var (pv 6))))))) (d_one (d_ret (d_var (pv 4))))))
def N_turning : List Str := ["machine", "wanted", "nested", "arrows", "colours", "state", "rounds", "loop"]
def P_turning : List Str := ["machine", "wanted"]
theorem sc_turning : FnScope N_turning P_turning (defScope s_turning) := ⟨rfl, rfl, rfl, by decide +kernel, rfl, by decide +kernel, by decide +kernel⟩
theorem ok_turning (T : Facts K mg M) (Fu : Fun K "turning" "turning" s_turning fa fd) (H_check_machine : Has P w K mg base GT 3 "check_machine" P_check_machine (spD K (F_check_machine M))) (H_check_wanted : Has P w K mg base GT 3 "check_wanted" P_check_wanted (spD K (F_check_wanted M))) (H_nested_loops : Has P w K mg base GT 6 "nested_loops" P_nested_loops (spD K (F_nested_loops M))) (H_arrows_of : Has P w K mg base GT 3 "arrows_of" P_arrows_of (spD K (F_arrows_of M))) (H_colours_of : Has P w K mg base GT 3 "colours_of" P_colours_of (spD K (F_colours_of M))) (H_top_of : Has P w K mg base GT 1 "top_of" P_top_of (spD K (F_top_of))) (H_word_round : Has P w K mg base GT 2 "word_round" P_word_round (spD K (F_word_round))) (H_first_words : Has P w K mg base GT 4 "first_words" P_first_words (spD K (F_first_words M))) : FnG P w K mg base GT 7 fa fd P_turning (spD K (F_turning M)) := by
  refine d_def (N := N_turning) (ps := P_turning) (G := G_turning M) Fu sc_turning fun cdv A outer s H E C hr hg => ?_
  have nd := sc_turning.nd
  have hu := hr.units
  exact (d_cons (d_expr (d_callH (k := 6) H_check_machine hr (by decide) trivial rfl (takes_of rfl rfl rfl rfl) (d_acons (d_var (pv 0)) d_anil))) (d_cons (d_expr (d_callH (k := 6) H_check_wanted hr (by decide) trivial rfl (takes_of rfl rfl rfl rfl) (d_acons (d_var (pv 1)) (d_acons (d_tup (d_acons (d_stre rfl T.m_AGAIN) (d_acons (d_stre rfl T.m_STAYS) d_anil))) d_anil)))) (d_cons (d_set (ps_set (i := 2) nd rfl (Or.inl rfl) (d_if (t_eq hu (d_var (pv 1)) (d_stre rfl T.m_AGAIN)) (d_callH (k := 6) H_nested_loops hr (by decide) trivial rfl (takes_of rfl rfl rfl rfl) (d_acons (d_var (pv 0)) (d_acons (d_inte rfl T.m_EVEN) (d_acons (d_inte rfl T.m_ODD) d_anil)))) (d_callH (k := 6) H_nested_loops hr (by decide) trivial rfl (takes_of rfl rfl rfl rfl) (d_acons (d_var (pv 0)) (d_acons (d_inte rfl T.m_ODD) (d_acons (d_inte rfl T.m_EVEN) d_anil))))))) (d_cons (d_sif (t_isn (d_var (pv 2)) (d_const pe_non fun _ => .non)) (d_one (d_ret (d_const pe_non fun _ => .non))) d_nil) (d_cons (d_set (ps_set (i := 3) nd rfl (Or.inr rfl) (d_callH (k := 6) H_arrows_of hr (by decide) trivial rfl (takes_of rfl rfl rfl rfl) (d_acons (d_var (pv 0)) d_anil)))) (d_cons (d_set (ps_set (i := 4) nd rfl (Or.inr rfl) (d_callH (k := 6) H_colours_of hr (by decide) trivial rfl (takes_of rfl rfl rfl rfl) (d_acons (d_var (pv 0)) d_anil)))) (d_cons (d_set (ps_set (i := 5) nd rfl (Or.inr rfl) (d_ix (d_ix (d_var (pv 2)) (d_const pe_int fun _ => .int _) (fun _ _ => rfl)) (d_const pe_int fun _ => .int _) (fun _ _ => rfl)))) (d_cons (d_setF (d_setlc (ctg_name (i := 7) (by decide)) (ps_setLc (i := 6) (own := [("loop", 7)]) rfl nd rfl rfl (sw_true rfl rfl rfl (by decide +kernel)) (d_iany (d_var (pv 2))) (blkOk_by (N := N_turning) (sc := defScope s_turning) (by decide +kernel)) (fun _ _ _ _ _ => (pg_name (i := 7) nd rfl (Or.inl rfl))) (fun _ _ _ _ _ => d_tsany fun C => d_tsnil) (fun _ _ _ _ _ => d_any fun C => (d_callH (k := 6) H_word_round hr (by decide) trivial rfl takes0 (d_acons (d_propG (k := 6) (d_var (pv 0)) T.cM T.g_letters hr (by decide)) (d_acons (d_var (pv 3)) (d_acons (d_var (pv 7)) (d_acons (d_share (d_lst (d_acons (d_var (pv 5)) (d_acons (d_callH (k := 6) H_top_of hr (by decide) trivial rfl takes0 (d_acons (d_var (pv 4)) (d_acons (d_var (pv 7)) d_anil))) d_anil)))) d_anil))))))))) (d_one (d_ret (d_tup (d_acons (d_dg (hu1 hu) (d_callH (k := 6) H_first_words hr (by decide) trivial rfl (takes_of rfl rfl rfl rfl) (d_acons (d_var (pv 0)) d_anil)) (d_var (pv 5)) (fun _ _ => rfl)) (d_acons (d_ix (d_var (pv 6)) (d_const pe_int fun _ => .int _) (fun _ _ => rfl)) (d_acons (d_ix (d_var (pv 6)) (d_const pe_int fun _ => .int _) (fun _ _ => rfl)) d_anil))))))))))))))
def G__law_right (M : Addr) : SF := (sSeq (sAsg (eCall (F__law_made M) (aCons (eCall (F__law_tool) (aCons (eV 0) (aCons (eCall (F__law_pick) (aCons (eV 0) (aCons (eLst (aCons (eC (.str "a")) (aCons (eC (.str "ab")) (aCons (eC (.str "abc")) aNil)))) aNil))) (aCons (eC (.int 5)) (aCons (eC (.int 6)) aNil))))) aNil)) (gN 1)) (sSeq (sAsg (eLst (aCons (eC .non) (aCons (eC (.int 0)) (aCons (eC (.bl true)) (aCons (eC (.str "machine a")) (aCons (eStrO M (F_Machine_str_ M) (aCons (eV 1) aNil)) (aCons (eTup aNil) (aCons (eLst aNil) (aCons eDnew (aCons (e1 (fldF M "_states") (eV 1)) (aCons (e1 (fldF M "_letters") (eV 1)) aNil))))))))))) (gN 2)) (sSeq (sFor (aAny (e2 addF (eLst (aCons (eV 1) aNil)) (eV 2))) (gN 7) (sSeq (sAsg (eIf (bB (eB (isiF (.ref M) kitM (ownM M)) (aCons (eV 7) (aCons (eC (.obj (.ref M))) aNil)))) (eLst aNil) (eLst (aCons (eC (.str "NotAMachine")) (aCons (eB reprA (aCons (eV 7) aNil)) aNil)))) (gN 3)) (sSeq (sIf (bB (e2 neF (eCall (F__law_of_parts M) (aCons (eV 7) aNil)) (e2 mulF (eLst (aCons (eV 3) aNil)) (eC (.int 11))))) (sRet (eC (.bl false))) sNil) (sFor (aAny (eLst (aCons (eC (.str "again")) (aCons (eC (.str "stays")) (aCons (eC (.str "Again")) (aCons (eC (.str "")) (aCons (eC (.str "bad")) (aCons (eC .non) (aCons (eC (.int 0)) (aCons (eC (.bl true)) (aCons (eTup (aCons (eC (.str "again")) aNil)) (aCons (eLst aNil) (aCons eDnew aNil))))))))))))) (gN 8) (sSeq (sAsg (eAnd (eB (isiF (.ty "str") (fun n => kitB n "str") (ownB M)) (aCons (eV 8) (aCons (eC (.obj (.ty "str"))) aNil))) (e2 inQ (eV 8) (eLst (aCons (eC (.str "again")) (aCons (eC (.str "stays")) aNil))))) (gN 4)) (sSeq (sAsg (eCall (F__law_first) (aCons (eLst (aCons (eV 3) (aCons (eIf (bB (eV 4)) (eLst aNil) (eLst (aCons (eC (.str "InvalidVerdict")) (aCons (eB reprA (aCons (eV 8) aNil)) aNil)))) aNil))) aNil)) (gN 5)) (sSeq (sOwn (eLst (aCons (eTold (kCaught M) (eCall (F_turning M) (aCons (eV 7) (aCons (eV 8) aNil)))) aNil)) 6) (sSeq (sPush 6 (eTold (kCaught M) (eCallK 2 (F_turning M) (pick [1, 0]) (aCons (eV 8) (aCons (eV 7) aNil))))) (sFreeze 6 (sIf (bB (e2 neF (eV 6) (eLst (aCons (eV 5) (aCons (eV 5) aNil))))) (sRet (eC (.bl false))) sNil)))))))))) (sRet (eC (.bl true))))))
def F__law_right (M : Addr) : DFn := runD 9 1 (G__law_right M)
def N__law_right : List Str := ["_law_purse_here", "_law_mine", "_law_odds", "_law_first_here", "_law_good", "_law_due", "_law_told", "_law_head", "_law_word_here"]
def P__law_right : List Str := ["_law_purse_here"]
theorem sc__law_right : FnScope N__law_right P__law_right (defScope s__law_right) := ⟨rfl, rfl, rfl, by decide +kernel, rfl, by decide +kernel, by decide +kernel⟩
theorem ok__law_right (T : Facts K mg M) (Fu : Fun K "_law_right" "_law_right" s__law_right fa fd) (LF : LamF K base mg fa "_law_right") (H__law_pick : Has P w K mg base GT 2 "_law_pick" P__law_pick (spD K (F__law_pick))) (H__law_tool : Has P w K mg base GT 2 "_law_tool" P__law_tool (spD K (F__law_tool))) (H__law_made : Has P w K mg base GT 6 "_law_made" P__law_made (spD K (F__law_made M))) (H__law_of_parts : Has P w K mg base GK 15 "_law_of_parts" P__law_of_parts (spD K (F__law_of_parts M))) (H__law_first : Has P w K mg base GT 1 "_law_first" P__law_first (spD K (F__law_first))) (H_turning : Has P w K mg base GT 7 "turning" P_turning (spD K (F_turning M))) (K_turning : HasK P w K mg base GT 7 "turning" P_turning ["wanted", "machine"] [1, 0] (spD K (F_turning M))) (H_str : HasStr P w K mg base M) (HA__law_caught : HasAct K mg "_law_caught" s__law_caught "_law_act") : FnG P w K mg base GK 18 fa fd P__law_right (spD K (F__law_right M)) := by
  refine d_defC (N := N__law_right) (ps := P__law_right) (G := G__law_right M) Fu sc__law_right LF fun cdv A outer s H E C LT hr hg => ?_
  have nd := sc__law_right.nd
  have hu := hr.units
  exact (d_cons (d_set (ps_set (i := 1) nd rfl (Or.inl rfl) (d_callH (k := 17) H__law_made hr (by decide) trivial rfl (takes_of rfl rfl rfl rfl) (d_acons (d_callH (k := 17) H__law_tool hr (by decide) trivial rfl (takes_of rfl rfl rfl rfl) (d_acons (d_var (pv 0)) (d_acons (d_callH (k := 17) H__law_pick hr (by decide) trivial rfl (takes_of rfl rfl rfl rfl) (d_acons (d_var (pv 0)) (d_acons (d_share (d_lst (d_acons (d_const pe_str fun _ => .str _) (d_acons (d_const pe_str fun _ => .str _) (d_acons (d_const pe_str fun _ => .str _) d_anil))))) d_anil))) (d_acons (d_const pe_int fun _ => .int _) (d_acons (d_const pe_int fun _ => .int _) d_anil))))) d_anil)))) (d_cons (d_setF (ps_set (i := 2) nd rfl (Or.inl rfl) (d_lst (d_acons (d_const pe_non fun _ => .non) (d_acons (d_const pe_int fun _ => .int _) (d_acons (d_const pe_bl fun _ => .bl _) (d_acons (d_const pe_str fun _ => .str _) (d_acons (d_strH (k := 17) H_str hr (by decide) rfl T.m_str (d_acons (d_var (pv 1)) d_anil)) (d_acons (d_tup d_anil) (d_acons (d_share (d_lst d_anil)) (d_acons (d_share d_dnew) (d_acons (d_propG (k := 17) (d_var (pv 1)) T.cM T.g_states hr (by decide)) (d_acons (d_propG (k := 17) (d_var (pv 1)) T.cM T.g_letters hr (by decide)) d_anil))))))))))))) (d_cons (d_for (passes_of rfl) rfl (d_iany (d_add (d_share (d_lst (d_acons (d_var (pv 1)) d_anil))) (d_var (pv 2)))) (d_gname (pg_name (i := 7) nd rfl (Or.inr rfl))) (d_cons (d_set (ps_set (i := 3) nd rfl (Or.inl rfl) (d_if (d_tval (d_isi (.own _) (fun _ _ h => T.kitM h) (fun A b h => T.ownM h) rfl T.m_isinstance (d_acons (d_var (pv 7)) (d_acons (d_clsn rfl T.m_Machine) d_anil))) (fun _ => rfl)) (d_share (d_lst d_anil)) (d_share (d_lst (d_acons (d_const pe_str fun _ => .str _) (d_acons (d_reprA hg hu rfl T.m_repr (d_acons (d_var (pv 7)) d_anil)) d_anil))))))) (d_cons (d_sif (t_ne hu (d_callH (k := 17) H__law_of_parts hr (by decide) hg rfl (takes_of rfl rfl rfl rfl) (d_acons (d_var (pv 7)) d_anil)) (d_mul (d_share (d_lst (d_acons (d_var (pv 3)) d_anil))) (d_const pe_int fun _ => .int _))) (d_one (d_ret (d_const pe_bl fun _ => .bl _))) d_nil) (d_one (d_for (passes_of rfl) rfl (d_iany (d_share (d_lst (d_acons (d_const pe_str fun _ => .str _) (d_acons (d_const pe_str fun _ => .str _) (d_acons (d_const pe_str fun _ => .str _) (d_acons (d_const pe_str fun _ => .str _) (d_acons (d_const pe_str fun _ => .str _) (d_acons (d_const pe_non fun _ => .non) (d_acons (d_const pe_int fun _ => .int _) (d_acons (d_const pe_bl fun _ => .bl _) (d_acons (d_tup (d_acons (d_const pe_str fun _ => .str _) d_anil)) (d_acons (d_share (d_lst d_anil)) (d_acons (d_share d_dnew) d_anil)))))))))))))) (d_gname (pg_name (i := 8) nd rfl (Or.inr rfl))) (d_cons (d_set (ps_set (i := 4) nd rfl (Or.inl rfl) (d_eand (d_isi (.ty _) (fun _ _ h => kit_ty h) (fun A b h => T.own T.k_str h) rfl T.m_isinstance (d_acons (d_var (pv 8)) (d_acons (d_tyn rfl T.m_str (by decide +kernel)) d_anil))) (pe_one (d_inq (d_var (pv 8)) (d_share (d_lst (d_acons (d_const pe_str fun _ => .str _) (d_acons (d_const pe_str fun _ => .str _) d_anil))))))))) (d_cons (d_set (ps_set (i := 5) nd rfl (Or.inl rfl) (d_callH (k := 17) H__law_first hr (by decide) trivial rfl (takes_of rfl rfl rfl rfl) (d_acons (d_share (d_lst (d_acons (d_var (pv 3)) (d_acons (d_if (d_tval (d_var (pv 4)) (fun _ => rfl)) (d_share (d_lst d_anil)) (d_share (d_lst (d_acons (d_const pe_str fun _ => .str _) (d_acons (d_reprA hg hu rfl T.m_repr (d_acons (d_var (pv 8)) d_anil)) d_anil))))) d_anil)))) d_anil)))) (d_cons (d_own (ps_set (i := 6) nd rfl (Or.inl rfl) (d_lst (d_acons (d_lamA (k := 15) HA__law_caught (tells__law_caught T) rfl sc__law_caught rfl (.inl rfl) (fun g cdv => gives__law_caught T (hr.mono (by decide)) hg _ g cdv) LT hr (by show LamX.lamSB (defScope s__law_right) _ = true; decide +kernel) (fun A outer s H E f c' C hr => (d_callH (k := 15) H_turning hr (by decide) trivial rfl (takes_of rfl rfl rfl rfl) (d_acons (d_var (pv 7)) (d_acons (d_var (pv 8)) d_anil))))) d_anil)))) (d_cons (d_push (pv 6) (d_lamA (k := 15) HA__law_caught (tells__law_caught T) rfl sc__law_caught rfl (.inl rfl) (fun g cdv => gives__law_caught T (hr.mono (by decide)) hg _ g cdv) LT hr (by show LamX.lamSB (defScope s__law_right) _ = true; decide +kernel) (fun A outer s H E f c' C hr => (d_callKH (k := 15) (ks := ["wanted", "machine"]) (perm := [1, 0]) K_turning hr (by decide) rfl (passes_call (takes_of rfl rfl rfl rfl) fun _ _ _ _ h => h) (d_kcons (d_var (pv 8)) (d_kcons (d_var (pv 7)) d_knil)))))) (d_one (d_freeze (i := 6) (d_sif (t_ne hu (d_var (pv 6)) (d_share (d_lst (d_acons (d_var (pv 5)) (d_acons (d_var (pv 5)) d_anil))))) (d_one (d_ret (d_const pe_bl fun _ => .bl _))) d_nil)))))))))))) (d_one (d_ret (d_const pe_bl fun _ => .bl _))))))
def N__law_purse : List Str := ["_law_script", "_law_k", "_law_cell", "_law_digits", "_law_seed"]
def P__law_purse : List Str := ["_law_script", "_law_k"]
theorem sc__law_purse : FnScope N__law_purse P__law_purse (defScope s__law_purse) := ⟨rfl, rfl, rfl, by decide +kernel, rfl, by decide +kernel, by decide +kernel⟩
theorem ok__law_purse (T : Facts K mg M) (Fu : Fun K "_law_purse" "_law_purse" s__law_purse fa fd) : FnG P w K mg base GT 1 fa fd P__law_purse (spDF K (F__law_purse)) := by
  refine d_defF (N := N__law_purse) (ps := P__law_purse) (G := G__law_purse) Fu sc__law_purse fun cdv A outer s H E C hr hg => ?_
  have nd := sc__law_purse.nd
  have hu := hr.units
  exact (d_cons (d_sif (t_lt (d_var (pv 1)) (d_len rfl T.m_len (d_acons (d_var (pv 0)) d_anil))) (d_cons (d_set (ps_set (i := 2) nd rfl (Or.inl rfl) (d_ix (d_var (pv 0)) (d_var (pv 1)) (fun _ _ => rfl)))) (d_cons (d_set (ps_set (i := 3) nd rfl (Or.inl rfl) (d_if (PW.pt (d_or (t_lt (d_var (pv 2)) (d_const pe_int fun _ => .int _)) (pw_or1 (t_ge (d_var (pv 2)) (d_pow (d_const pe_int fun _ => .int _) (d_const pe_int fun _ => .int _)))))) (d_abs rfl T.m_abs (d_acons (d_var (pv 2)) d_anil)) (d_const pe_int fun _ => .int _)))) (d_one (d_retO (d_lst (d_acons (d_var (pv 3)) (d_acons (d_mod (d_int rfl T.m_int (d_acons (d_add (d_add (d_mul (d_var (pv 2)) (d_const pe_int fun _ => .int _)) (d_mul (d_const pe_int fun _ => .int _) (d_var (pv 1)))) (d_const pe_int fun _ => .int _)) d_anil)) (d_const pe_int fun _ => .int _)) (d_acons (d_const pe_int fun _ => .int _) d_anil)))))))) d_nil) (d_cons (d_set (ps_set (i := 4) nd rfl (Or.inl rfl) (d_add (d_mul (d_const pe_int fun _ => .int _) (d_var (pv 1))) (d_const pe_int fun _ => .int _)))) (d_cons (d_for (passes_of rfl) rfl (d_iany (d_slice (d_var (pv 0)) d_ono (d_osome (d_const pe_int fun _ => .int _)))) (d_gname (pg_name (i := 2) nd rfl (Or.inl rfl))) (d_one (d_set (ps_set (i := 4) nd rfl (Or.inl rfl) (d_mod (d_int rfl T.m_int (d_acons (d_add (d_mul (d_var (pv 4)) (d_const pe_int fun _ => .int _)) (d_var (pv 2))) d_anil)) (d_const pe_int fun _ => .int _)))))) (d_one (d_retO (d_lst (d_acons (d_const pe_int fun _ => .int _) (d_acons (d_var (pv 4)) (d_acons (d_const pe_int fun _ => .int _) d_anil)))))))))
def G_law (M : Addr) : SF := (sSeq (sFor (aRng (aCons (eB maxF (aCons (eC (.int 2)) (aCons (eB minF (aCons (eB lenF (aCons (eV 0) aNil)) (aCons (eC (.int 6)) aNil))) aNil))) aNil)) (gN 1) (sIf (bNot (bB (eBag (F__law_right M) F__law_purse (aCons (eV 0) (aCons (eV 1) aNil))))) (sRet (eC (.bl false))) sNil)) (sRet (eC (.bl true))))
def F_law (M : Addr) : DFn := runD 2 1 (G_law M)
def N_law : List Str := ["_law_script", "_law_k"]
def P_law : List Str := ["_law_script"]
theorem sc_law : FnScope N_law P_law (defScope s_law) := ⟨rfl, rfl, rfl, by decide +kernel, rfl, by decide +kernel, by decide +kernel⟩
theorem ok_law (T : Facts K mg M) (Fu : Fun K "law" "law" s_law fa fd) (H__law_right : Has P w K mg base GK 18 "_law_right" P__law_right (spD K (F__law_right M))) (H__law_purse : Has P w K mg base GT 1 "_law_purse" P__law_purse (spDF K (F__law_purse))) : FnG P w K mg base GK 19 fa fd P_law (spD K (F_law M)) := by
  refine d_def (N := N_law) (ps := P_law) (G := G_law M) Fu sc_law fun cdv A outer s H E C hr hg => ?_
  have nd := sc_law.nd
  have hu := hr.units
  exact (d_cons (d_for (passes_of rfl) rfl (d_irange rfl T.m_range (d_acons (d_max2 rfl rfl T.m_max (d_acons (d_const pe_int fun _ => .int _) (d_acons (d_min2 rfl rfl T.m_min (d_acons (d_len rfl T.m_len (d_acons (d_var (pv 0)) d_anil)) (d_acons (d_const pe_int fun _ => .int _) d_anil))) d_anil))) d_anil)) (d_gname (pg_name (i := 1) nd rfl (Or.inl rfl))) (d_one (d_sif (d_not (d_tval (d_callHB (k := 18) H__law_right H__law_purse hr (by decide) (by decide) hg trivial rfl rfl (takes_of rfl rfl rfl rfl) (d_acons (d_var (pv 0)) (d_acons (d_var (pv 1)) d_anil))) (fun _ => rfl))) (d_one (d_ret (d_const pe_bl fun _ => .bl _))) d_nil))) (d_one (d_ret (d_const pe_bl fun _ => .bl _))))
end
end DL

set_option maxHeartbeats 0
namespace DL
open PySem PySem.Spec PyProof.Rows L2
theorem isGet_ok {K : PySem.W.Frag} {A : Addr} {f : Str} (h : isGet K A f = true) : PropOf K A f (He.ma K A f) (getA K A f) := by
  unfold isGet at h
  simp only [Bool.and_eq_true, decide_eq_true_eq] at h
  obtain ⟨h1, h2, h3, h4⟩ := h
  refine ⟨He.eqO_ok h1, He.eqO_ok h2, h3, ?_⟩
  unfold getA
  split at h4
  · rename_i g rest e
    rw [e]
    exact ⟨rest, rfl⟩
  · cases h4
theorem isI_ok {K : PySem.W.Frag} {A : Addr} (c : Cls K A) (h : isI K A = true) : ClsI K A := by
  unfold isI at h
  simp only [Bool.and_eq_true, decide_eq_true_eq] at h
  obtain ⟨h1, h2, h3, h4⟩ := h
  exact ⟨c, He.eqO_ok h1, He.eqO_ok h2, h3, h4⟩
theorem pick_vals {vs : List V} {us : List Value} (h : Vals vs us) : ∀ perm : List Nat, Vals (pick perm vs) (pick perm us)
  | [] => .nil
  | i :: perm => by
    unfold pick
    rw [List.filterMap_cons, List.filterMap_cons]
    cases hd : vs[i]? with
    | none =>
      have : us[i]? = none := by
        rw [List.getElem?_eq_none_iff] at hd ⊢
        rw [← h.length]; exact hd
      rw [this]
      exact pick_vals h perm
    | some d =>
      obtain ⟨v, hv, r⟩ := h.get hd
      rw [hv]
      exact .cons r (pick_vals h perm)
section
variable [TB : TabSet]
variable {P : Program} {w : World} {K : PySem.W.Frag} {mg : Str → Option Value} {h : Heap}
theorem getter_of {A : Addr} {pr fl : Str} {st : Stmt} {fd : FuncData} {p1 p2 p3 : Pos} (c : Cls K A) (n : NoAttr K A fl) (hp : isGet K A pr = true) (Fu : Fun K pr q st (getA K A pr) fd) (Sc : FnScope ["self"] ["self"] (defScope st)) (hb : defBody st = [.Return (some (.Attribute (.Name "self" p1) fl p2)) p3])
    (hbind : ∀ (kV doc pm : Value) (an : Option Addr) (cdv ct : Value) (us : List Value), us.length = (["self"] : List Str).length → bindArgs (PySem.W.fnOf pr q (defArgs st) (defBody st) (defScope st) .none kV doc pm an cdv ct) ⟨us, []⟩ = pure ((["self"] : List Str).zip us)) : Getter K A pr fl := by
  refine ⟨_, _, fd, isGet_ok hp, fun P w mg base => ?_, Fu.binds hbind⟩
  obtain ⟨oc, od, kV, doc, pm, an, cdv, ct, osl, rfl, lk, hc⟩ := Fu.ex
  exact fn_getter lk hc Sc rfl hb c n
end

section
variable [TB : TabSet]
theorem facts_of {K : PySem.W.Frag} {mg : Str → Option Value} {h : Heap} (X : K.In h) (G : h.Ns mainGlobals mg) (c : obK fns exK K = vaK fns) : Facts K mg (He.ga K "Machine") := by
  have e := ex_of c
  unfold exK at e
  simp only [Bool.and_eq_true] at e
  obtain ⟨e1, e2, e3, e4, eX0, eX1, eX2, eX3, eR0, eR1, eR2, e5⟩ := e
  have fa : ∀ (i : Nat) {f : He.Fa}, exL[i]? = some f → f.ok K = true := fun i f hi => List.all_eq_true.mp e1 f (List.mem_of_getElem? hi)
  unfold isK at e5
  simp only [Bool.and_eq_true, List.all_eq_true, decide_eq_true_eq] at e5
  obtain ⟨k1, k2, k3⟩ := e5
  have cM : Cls K (He.ga K "Machine") := He.cls_ok (fa 88 rfl)
  have nl : NoAttr K (He.ga K "Machine") "_letters" := He.noat_ok (fa 89 rfl)
  have ns : NoAttr K (He.ga K "Machine") "_states" := He.noat_ok (fa 90 rfl)
  obtain ⟨f_letters, F_letters⟩ := fun_of c 57 rfl
  obtain ⟨f_states, F_states⟩ := fun_of c 58 rfl
  exact ⟨He.free_ok X G (fa 0 rfl), He.free_ok X G (fa 1 rfl), He.free_ok X G (fa 2 rfl), He.free_ok X G (fa 3 rfl), He.free_ok X G (fa 4 rfl), He.free_ok X G (fa 5 rfl), He.free_ok X G (fa 6 rfl), He.free_ok X G (fa 7 rfl), He.free_ok X G (fa 8 rfl), He.free_ok X G (fa 9 rfl), He.free_ok X G (fa 10 rfl), He.free_ok X G (fa 11 rfl), He.free_ok X G (fa 12 rfl), He.free_ok X G (fa 13 rfl), He.free_ok X G (fa 14 rfl), He.free_ok X G (fa 15 rfl), He.free_ok X G (fa 16 rfl), He.free_ok X G (fa 17 rfl), He.free_ok X G (fa 18 rfl), He.int_ok X G (fa 19 rfl), He.int_ok X G (fa 20 rfl), He.int_ok X G (fa 21 rfl), He.int_ok X G (fa 22 rfl), He.int_ok X G (fa 23 rfl), He.str_ok X G (fa 24 rfl), He.str_ok X G (fa 25 rfl), He.str_ok X G (fa 26 rfl), He.glo_ok X G (fa 32 rfl), He.glo_ok X G (fa 33 rfl), He.glo_ok X G (fa 34 rfl), He.glo_ok X G (fa 30 rfl), He.glo_ok X G (fa 31 rfl), He.glo_ok X G (fa 35 rfl), errB_ok eR0, errB_ok eR1, errB_ok eR2, He.glo_ok X G (fa 27 rfl), cM, isI_ok cM e4, nl, ns, getter_of cM nl e2 F_letters ⟨rfl, rfl, rfl, by decide +kernel, rfl, by decide +kernel, by decide +kernel⟩ rfl (fun _ _ _ _ _ _ us hl => match us, hl with | [_], _ => rfl), getter_of cM ns e3 F_states ⟨rfl, rfl, rfl, by decide +kernel, rfl, by decide +kernel, by decide +kernel⟩ rfl (fun _ _ _ _ _ _ us hl => match us, hl with | [_], _ => rfl), k1 _ (by decide), k1 _ (by decide), k1 _ (by decide), k1 _ (by decide), k2, fun n hn => k3 n (by
    unfold DL.kitM at hn
    split at hn
    · rename_i hh
      unfold kinds
      rcases hh with rfl | rfl | rfl | rfl | rfl | rfl | rfl <;> decide
    · cases hn)⟩
end
section
variable {P : Program} {w : World} {K : PySem.W.Frag} {mg : Str → Option Value} {h base : Heap}
theorem ok_all (X : K.In h) (G : h.Ns mainGlobals mg) (c : obK fns exK K = vaK fns) (ta : TabsAre tfs K h) : ∃ fd, (∀ (s : Shared) (u : Value), BindsTo s fd ⟨[u], []⟩ [("_law_script", u)]) ∧ ∀ (P : Program) (w : World) (base : Heap), (∀ p ∈ cTs tfs K, LamX.TabB base mg p.1 p.2) → FnG P w K mg base GK 19 (He.ga K "law") fd P_law (@spD (tabSet tfs K) K (F_law (He.ga K "Machine"))) := by
  letI : TabSet := tabSet tfs K
  have T := facts_of X G c
  have e := ex_of c
  unfold exK at e
  simp only [Bool.and_eq_true] at e
  obtain ⟨e1, e2, e3, e4, eX0, eX1, eX2, eX3, eR0, eR1, eR2, e5⟩ := e
  have fa : ∀ (i : Nat) {f : He.Fa}, exL[i]? = some f → f.ok K = true := fun i f hi => List.all_eq_true.mp e1 f (List.mem_of_getElem? hi)
  obtain ⟨d_state_row, U_state_row⟩ := fun_of c 0 rfl
  obtain ⟨d_Machine_str_, U_Machine_str_⟩ := fun_of c 1 rfl
  obtain ⟨d__law_draw, U__law_draw⟩ := fun_of c 2 rfl
  obtain ⟨d__law_pick, U__law_pick⟩ := fun_of c 3 rfl
  obtain ⟨d__law_tool, U__law_tool⟩ := fun_of c 4 rfl
  obtain ⟨d_is_letters, U_is_letters⟩ := fun_of c 5 rfl
  obtain ⟨d_is_number, U_is_number⟩ := fun_of c 6 rfl
  obtain ⟨d_is_state, U_is_state⟩ := fun_of c 7 rfl
  obtain ⟨d_first_wrong_state, U_first_wrong_state⟩ := fun_of c 8 rfl
  obtain ⟨d__law_made, U__law_made⟩ := fun_of c 9 rfl
  obtain ⟨d_Machine_len_, U_Machine_len_⟩ := fun_of c 10 rfl
  obtain ⟨d_check_machine, U_check_machine⟩ := fun_of c 11 rfl
  obtain ⟨d_arrows_of, U_arrows_of⟩ := fun_of c 12 rfl
  obtain ⟨d_colours_of, U_colours_of⟩ := fun_of c 13 rfl
  obtain ⟨d_bits_ahead, U_bits_ahead⟩ := fun_of c 14 rfl
  obtain ⟨d_greatest_loops, U_greatest_loops⟩ := fun_of c 15 rfl
  obtain ⟨d_without_wrong_top, U_without_wrong_top⟩ := fun_of c 16 rfl
  obtain ⟨d_loops_as_asked, U_loops_as_asked⟩ := fun_of c 17 rfl
  obtain ⟨d_leading_to, U_leading_to⟩ := fun_of c 18 rfl
  obtain ⟨d_leading_to_loops, U_leading_to_loops⟩ := fun_of c 19 rfl
  obtain ⟨d_live, U_live⟩ := fun_of c 20 rfl
  obtain ⟨d_dead, U_dead⟩ := fun_of c 21 rfl
  obtain ⟨d_groups_of, U_groups_of⟩ := fun_of c 22 rfl
  obtain ⟨d_words_from, U_words_from⟩ := fun_of c 23 rfl
  obtain ⟨d_guard, U_guard⟩ := fun_of c 24 rfl
  obtain ⟨d_with_colours, U_with_colours⟩ := fun_of c 25 rfl
  obtain ⟨d_hope, U_hope⟩ := fun_of c 26 rfl
  obtain ⟨d_least_colours, U_least_colours⟩ := fun_of c 27 rfl
  obtain ⟨d_opposite, U_opposite⟩ := fun_of c 28 rfl
  obtain ⟨d_first_words, U_first_words⟩ := fun_of c 29 rfl
  obtain ⟨d_reached, U_reached⟩ := fun_of c 30 rfl
  obtain ⟨d_recoloured, U_recoloured⟩ := fun_of c 31 rfl
  obtain ⟨d_has_loop, U_has_loop⟩ := fun_of c 32 rfl
  obtain ⟨d_is_guard, U_is_guard⟩ := fun_of c 33 rfl
  obtain ⟨d_is_hope, U_is_hope⟩ := fun_of c 34 rfl
  obtain ⟨d_sure, U_sure⟩ := fun_of c 35 rfl
  obtain ⟨d_is_promise, U_is_promise⟩ := fun_of c 36 rfl
  obtain ⟨d_nested_loops, U_nested_loops⟩ := fun_of c 37 rfl
  obtain ⟨d_comes_again, U_comes_again⟩ := fun_of c 38 rfl
  obtain ⟨d_does_stay, U_does_stay⟩ := fun_of c 39 rfl
  obtain ⟨d_is_duty, U_is_duty⟩ := fun_of c 40 rfl
  obtain ⟨d_depth, U_depth⟩ := fun_of c 41 rfl
  obtain ⟨d__law_of_parts, U__law_of_parts⟩ := fun_of c 42 rfl
  obtain ⟨d__law_first, U__law_first⟩ := fun_of c 43 rfl
  obtain ⟨d_check_wanted, U_check_wanted⟩ := fun_of c 44 rfl
  obtain ⟨d_top_of, U_top_of⟩ := fun_of c 45 rfl
  obtain ⟨d_word_round, U_word_round⟩ := fun_of c 46 rfl
  obtain ⟨d_turning, U_turning⟩ := fun_of c 47 rfl
  obtain ⟨d__law_right, U__law_right⟩ := fun_of c 48 rfl
  obtain ⟨d__law_purse, U__law_purse⟩ := fun_of c 49 rfl
  obtain ⟨d_law, U_law⟩ := fun_of c 50 rfl
  obtain ⟨d__law_caught, U__law_caught⟩ := fun_of c 51 rfl
  obtain ⟨d_init, U_init⟩ := fun_of c 52 rfl
  obtain ⟨dX_InvalidLetters, UX_InvalidLetters⟩ := fun_of c 53 rfl
  obtain ⟨dX_InvalidStates, UX_InvalidStates⟩ := fun_of c 54 rfl
  obtain ⟨dX_NotAMachine, UX_NotAMachine⟩ := fun_of c 55 rfl
  obtain ⟨dX_InvalidVerdict, UX_InvalidVerdict⟩ := fun_of c 56 rfl
  refine ⟨d_law, ?_, fun P w base tb => ?_⟩
  · intro s u
    obtain ⟨oc, od, kV, doc, pm, an, cdv, ct, osl, hfd, lk, hc⟩ := U_law.ex
    rw [hfd]
    exact BindsTo.of_eq rfl
  · have HX_InvalidLetters : HasX P w K mg base "InvalidLetters" "given" := ⟨excB_ok eX0 (He.glo_ok X G (fa 28 rfl)), _, _, fn_xi (g := "given") UX_InvalidLetters ⟨rfl, rfl, rfl, by decide +kernel, rfl, by decide +kernel, by decide +kernel⟩ rfl (excB_ok eX0 (He.glo_ok X G (fa 28 rfl))).T (excB_ok eX0 (He.glo_ok X G (fa 28 rfl))).no (by decide) (by decide) (fun _ => rfl), UX_InvalidLetters.binds (fun _ _ _ _ _ _ us hl => match us, hl with | [_, _], _ => rfl)⟩
    have HX_InvalidStates : HasX P w K mg base "InvalidStates" "index" := ⟨excB_ok eX1 (He.glo_ok X G (fa 29 rfl)), _, _, fn_xi (g := "index") UX_InvalidStates ⟨rfl, rfl, rfl, by decide +kernel, rfl, by decide +kernel, by decide +kernel⟩ rfl (excB_ok eX1 (He.glo_ok X G (fa 29 rfl))).T (excB_ok eX1 (He.glo_ok X G (fa 29 rfl))).no (by decide) (by decide) (fun _ => rfl), UX_InvalidStates.binds (fun _ _ _ _ _ _ us hl => match us, hl with | [_, _], _ => rfl)⟩
    have HX_NotAMachine : HasX P w K mg base "NotAMachine" "given" := ⟨excB_ok eX2 (He.glo_ok X G (fa 30 rfl)), _, _, fn_xi (g := "given") UX_NotAMachine ⟨rfl, rfl, rfl, by decide +kernel, rfl, by decide +kernel, by decide +kernel⟩ rfl (excB_ok eX2 (He.glo_ok X G (fa 30 rfl))).T (excB_ok eX2 (He.glo_ok X G (fa 30 rfl))).no (by decide) (by decide) (fun _ => rfl), UX_NotAMachine.binds (fun _ _ _ _ _ _ us hl => match us, hl with | [_, _], _ => rfl)⟩
    have HX_InvalidVerdict : HasX P w K mg base "InvalidVerdict" "given" := ⟨excB_ok eX3 (He.glo_ok X G (fa 31 rfl)), _, _, fn_xi (g := "given") UX_InvalidVerdict ⟨rfl, rfl, rfl, by decide +kernel, rfl, by decide +kernel, by decide +kernel⟩ rfl (excB_ok eX3 (He.glo_ok X G (fa 31 rfl))).T (excB_ok eX3 (He.glo_ok X G (fa 31 rfl))).no (by decide) (by decide) (fun _ => rfl), UX_InvalidVerdict.binds (fun _ _ _ _ _ _ us hl => match us, hl with | [_, _], _ => rfl)⟩
    have HA__law_caught : HasAct K mg "_law_caught" s__law_caught "_law_act" := ⟨_, _, U__law_caught, He.glo_ok X G (fa 36 rfl), U__law_caught.binds (fun _ _ _ _ _ _ us hl => match us, hl with | [_], _ => rfl)⟩
    have H_state_row : Has P w K mg base GT 1 "state_row" P_state_row (spD K (F_state_row)) := ⟨_, _, ok_state_row T U_state_row, He.glo_ok X G (fa 37 rfl), U_state_row.kp, U_state_row.binds (fun _ _ _ _ _ _ us hl => match us, hl with | [_], _ => rfl)⟩
    have H_str : HasStr P w K mg base (He.ga K "Machine") := ⟨_, _, (He.meth_ok (fa 87 rfl)).at_, (He.meth_ok (fa 87 rfl)).fn, ok_Machine_str_ T U_Machine_str_ H_state_row, U_Machine_str_.binds (fun _ _ _ _ _ _ us hl => match us, hl with | [_], _ => rfl)⟩
    have H__law_draw : Has P w K mg base GT 1 "_law_draw" P__law_draw (spD K (F__law_draw)) := ⟨_, _, ok__law_draw T U__law_draw, He.glo_ok X G (fa 38 rfl), U__law_draw.kp, U__law_draw.binds (fun _ _ _ _ _ _ us hl => match us, hl with | [_, _], _ => rfl)⟩
    have H__law_pick : Has P w K mg base GT 2 "_law_pick" P__law_pick (spD K (F__law_pick)) := ⟨_, _, ok__law_pick T U__law_pick H__law_draw, He.glo_ok X G (fa 39 rfl), U__law_pick.kp, U__law_pick.binds (fun _ _ _ _ _ _ us hl => match us, hl with | [_, _], _ => rfl)⟩
    have H__law_tool : Has P w K mg base GT 2 "_law_tool" P__law_tool (spD K (F__law_tool)) := ⟨_, _, ok__law_tool T U__law_tool H__law_draw, He.glo_ok X G (fa 40 rfl), U__law_tool.kp, U__law_tool.binds (fun _ _ _ _ _ _ us hl => match us, hl with | [_, _, _, _], _ => rfl)⟩
    have H_is_letters : Has P w K mg base GT 1 "is_letters" P_is_letters (spD K (F_is_letters (He.ga K "Machine"))) := ⟨_, _, ok_is_letters T U_is_letters, He.glo_ok X G (fa 41 rfl), U_is_letters.kp, U_is_letters.binds (fun _ _ _ _ _ _ us hl => match us, hl with | [_], _ => rfl)⟩
    have H_is_number : Has P w K mg base GT 1 "is_number" P_is_number (spD K (F_is_number (He.ga K "Machine"))) := ⟨_, _, ok_is_number T U_is_number, He.glo_ok X G (fa 42 rfl), U_is_number.kp, U_is_number.binds (fun _ _ _ _ _ _ us hl => match us, hl with | [_, _], _ => rfl)⟩
    have H_is_state : Has P w K mg base GT 2 "is_state" P_is_state (spD K (F_is_state (He.ga K "Machine"))) := ⟨_, _, ok_is_state T U_is_state H_is_number, He.glo_ok X G (fa 43 rfl), U_is_state.kp, U_is_state.binds (fun _ _ _ _ _ _ us hl => match us, hl with | [_, _, _], _ => rfl)⟩
    have H_first_wrong_state : Has P w K mg base GT 3 "first_wrong_state" P_first_wrong_state (spD K (F_first_wrong_state (He.ga K "Machine"))) := ⟨_, _, ok_first_wrong_state T U_first_wrong_state H_is_state, He.glo_ok X G (fa 44 rfl), U_first_wrong_state.kp, U_first_wrong_state.binds (fun _ _ _ _ _ _ us hl => match us, hl with | [_, _], _ => rfl)⟩
    have H_Machine : HasM P w K mg base (He.ga K "Machine") := ⟨_, _, He.mkr_ok (fa 91 rfl), ok_Machine_init T U_init H_first_wrong_state H_is_letters HX_InvalidStates HX_InvalidLetters, U_init.binds (fun _ _ _ _ _ _ us hl => match us, hl with | [_, _, _], _ => rfl)⟩
    have H__law_made : Has P w K mg base GT 6 "_law_made" P__law_made (spD K (F__law_made (He.ga K "Machine"))) := ⟨_, _, ok__law_made T U__law_made H_Machine, He.glo_ok X G (fa 45 rfl), U__law_made.kp, U__law_made.binds (fun _ _ _ _ _ _ us hl => match us, hl with | [_], _ => rfl)⟩
    have H_len : HasLen P w K mg base (He.ga K "Machine") := ⟨_, _, (He.meth_ok (fa 86 rfl)).at_, (He.meth_ok (fa 86 rfl)).fn, ok_Machine_len_ T U_Machine_len_, U_Machine_len_.binds (fun _ _ _ _ _ _ us hl => match us, hl with | [_], _ => rfl)⟩
    have H_check_machine : Has P w K mg base GT 3 "check_machine" P_check_machine (spD K (F_check_machine (He.ga K "Machine"))) := ⟨_, _, ok_check_machine T U_check_machine HX_NotAMachine, He.glo_ok X G (fa 46 rfl), U_check_machine.kp, U_check_machine.binds (fun _ _ _ _ _ _ us hl => match us, hl with | [_], _ => rfl)⟩
    have H_arrows_of : Has P w K mg base GT 3 "arrows_of" P_arrows_of (spD K (F_arrows_of (He.ga K "Machine"))) := ⟨_, _, ok_arrows_of T U_arrows_of, He.glo_ok X G (fa 47 rfl), U_arrows_of.kp, U_arrows_of.binds (fun _ _ _ _ _ _ us hl => match us, hl with | [_], _ => rfl)⟩
    have H_colours_of : Has P w K mg base GT 3 "colours_of" P_colours_of (spD K (F_colours_of (He.ga K "Machine"))) := ⟨_, _, ok_colours_of T U_colours_of, He.glo_ok X G (fa 48 rfl), U_colours_of.kp, U_colours_of.binds (fun _ _ _ _ _ _ us hl => match us, hl with | [_], _ => rfl)⟩
    have H_bits_ahead : Has P w K mg base GT 1 "bits_ahead" P_bits_ahead (spD K (F_bits_ahead)) := ⟨_, _, ok_bits_ahead T U_bits_ahead, He.glo_ok X G (fa 49 rfl), U_bits_ahead.kp, U_bits_ahead.binds (fun _ _ _ _ _ _ us hl => match us, hl with | [_, _], _ => rfl)⟩
    have H_greatest_loops : Has P w K mg base GT 2 "greatest_loops" P_greatest_loops (spD K (F_greatest_loops)) := ⟨_, _, ok_greatest_loops T U_greatest_loops H_bits_ahead, He.glo_ok X G (fa 50 rfl), U_greatest_loops.kp, U_greatest_loops.binds (fun _ _ _ _ _ _ us hl => match us, hl with | [_, _], _ => rfl)⟩
    have H_without_wrong_top : Has P w K mg base GT 1 "without_wrong_top" P_without_wrong_top (spD K (F_without_wrong_top)) := ⟨_, _, ok_without_wrong_top T U_without_wrong_top, He.glo_ok X G (fa 51 rfl), U_without_wrong_top.kp, U_without_wrong_top.binds (fun _ _ _ _ _ _ us hl => match us, hl with | [_, _], _ => rfl)⟩
    have H_loops_as_asked : Has P w K mg base GT 3 "loops_as_asked" P_loops_as_asked (spD K (F_loops_as_asked)) := ⟨_, _, ok_loops_as_asked T U_loops_as_asked H_greatest_loops H_without_wrong_top, He.glo_ok X G (fa 52 rfl), U_loops_as_asked.kp, U_loops_as_asked.binds (fun _ _ _ _ _ _ us hl => match us, hl with | [_, _, _], _ => rfl)⟩
    have H_leading_to : Has P w K mg base GT 1 "leading_to" P_leading_to (spD K (F_leading_to)) := ⟨_, _, ok_leading_to T U_leading_to, He.glo_ok X G (fa 53 rfl), U_leading_to.kp, U_leading_to.binds (fun _ _ _ _ _ _ us hl => match us, hl with | [_, _], _ => rfl)⟩
    have H_leading_to_loops : Has P w K mg base GT 4 "leading_to_loops" P_leading_to_loops (spD K (F_leading_to_loops (He.ga K "Machine"))) := ⟨_, _, ok_leading_to_loops T U_leading_to_loops H_arrows_of H_colours_of H_loops_as_asked H_leading_to H_len, He.glo_ok X G (fa 54 rfl), U_leading_to_loops.kp, U_leading_to_loops.binds (fun _ _ _ _ _ _ us hl => match us, hl with | [_, _], _ => rfl)⟩
    have H_live : Has P w K mg base GT 5 "live" P_live (spD K (F_live (He.ga K "Machine"))) := ⟨_, _, ok_live T U_live H_check_machine H_leading_to_loops, He.glo_ok X G (fa 55 rfl), U_live.kp, U_live.binds (fun _ _ _ _ _ _ us hl => match us, hl with | [_], _ => rfl)⟩
    have H_dead : Has P w K mg base GT 6 "dead" P_dead (spD K (F_dead (He.ga K "Machine"))) := ⟨_, _, ok_dead T U_dead H_live H_len, He.glo_ok X G (fa 56 rfl), U_dead.kp, U_dead.binds (fun _ _ _ _ _ _ us hl => match us, hl with | [_], _ => rfl)⟩
    have H_groups_of : Has P w K mg base GT 1 "groups_of" P_groups_of (spD K (F_groups_of)) := ⟨_, _, ok_groups_of T U_groups_of, He.glo_ok X G (fa 57 rfl), U_groups_of.kp, U_groups_of.binds (fun _ _ _ _ _ _ us hl => match us, hl with | [_, _], _ => rfl)⟩
    have H_words_from : Has P w K mg base GT 1 "words_from" P_words_from (spD K (F_words_from)) := ⟨_, _, ok_words_from T U_words_from, He.glo_ok X G (fa 58 rfl), U_words_from.kp, U_words_from.binds (fun _ _ _ _ _ _ us hl => match us, hl with | [_, _, _, _], _ => rfl)⟩
    have H_guard : Has P w K mg base GT 7 "guard" P_guard (spD K (F_guard (He.ga K "Machine"))) := ⟨_, _, ok_guard T U_guard H_check_machine H_dead H_arrows_of H_groups_of H_words_from H_len H_Machine, He.glo_ok X G (fa 59 rfl), U_guard.kp, U_guard.binds (fun _ _ _ _ _ _ us hl => match us, hl with | [_], _ => rfl)⟩
    have H_with_colours : Has P w K mg base GT 6 "with_colours" P_with_colours (spD K (F_with_colours (He.ga K "Machine"))) := ⟨_, _, ok_with_colours T U_with_colours H_Machine, He.glo_ok X G (fa 60 rfl), U_with_colours.kp, U_with_colours.binds (fun _ _ _ _ _ _ us hl => match us, hl with | [_, _], _ => rfl)⟩
    have H_hope : Has P w K mg base GT 7 "hope" P_hope (spD K (F_hope (He.ga K "Machine"))) := ⟨_, _, ok_hope T U_hope H_check_machine H_dead H_colours_of H_with_colours, He.glo_ok X G (fa 61 rfl), U_hope.kp, U_hope.binds (fun _ _ _ _ _ _ us hl => match us, hl with | [_], _ => rfl)⟩
    have K_hope : HasK P w K mg base GT 7 "hope" P_hope ["machine"] [0] (spD K (F_hope (He.ga K "Machine"))) := by
      refine ⟨_, _, ok_hope T U_hope H_check_machine H_dead H_colours_of H_with_colours, He.glo_ok X G (fa 61 rfl), U_hope.kp, ⟨fun s us ws _ h1 h2 => ?_, fun r rz => pick_vals rz [0]⟩⟩
      obtain ⟨oc, od, kV, doc, pm, an, cdv, ct, osl, hfd, lk, hc⟩ := U_hope.ex
      rw [hfd]
      match us, ws, h1, h2 with
      | [], [a], _, _ => exact BindsTo.of_eq rfl
    have R_least_colours : ∀ n, Has P w K mg base GT (2 + n) "least_colours" P_least_colours (spD K (F_least_colours_n n)) := fun n => by
      induction n with
      | zero => exact ⟨He.ga K "least_colours", d_least_colours, fng_stuck, He.glo_ok X G (fa 62 rfl), U_least_colours.kp, U_least_colours.binds (fun _ _ _ _ _ _ us hl => match us, hl with | [_, _, _], _ => rfl)⟩
      | succ n ih => exact ⟨_, _, ok_least_colours T U_least_colours (n := 2 + n) (Nat.le_add_right _ _) H_greatest_loops ih, He.glo_ok X G (fa 62 rfl), U_least_colours.kp, U_least_colours.binds (fun _ _ _ _ _ _ us hl => match us, hl with | [_, _, _], _ => rfl)⟩
    have H_least_colours : Has P w K mg base GT 10 "least_colours" P_least_colours (spD K F_least_colours) := R_least_colours 8
    have H_opposite : Has P w K mg base GT 11 "opposite" P_opposite (spD K (F_opposite (He.ga K "Machine"))) := ⟨_, _, ok_opposite T U_opposite H_check_machine H_colours_of H_arrows_of H_least_colours H_with_colours H_len, He.glo_ok X G (fa 63 rfl), U_opposite.kp, U_opposite.binds (fun _ _ _ _ _ _ us hl => match us, hl with | [_], _ => rfl)⟩
    have H_first_words : Has P w K mg base GT 4 "first_words" P_first_words (spD K (F_first_words (He.ga K "Machine"))) := ⟨_, _, ok_first_words T U_first_words H_arrows_of H_words_from H_len, He.glo_ok X G (fa 64 rfl), U_first_words.kp, U_first_words.binds (fun _ _ _ _ _ _ us hl => match us, hl with | [_], _ => rfl)⟩
    have H_reached : Has P w K mg base GT 5 "reached" P_reached (spD K (F_reached (He.ga K "Machine"))) := ⟨_, _, ok_reached T U_reached H_first_words, He.glo_ok X G (fa 65 rfl), U_reached.kp, U_reached.binds (fun _ _ _ _ _ _ us hl => match us, hl with | [_], _ => rfl)⟩
    have H_recoloured : Has P w K mg base GT 11 "recoloured" P_recoloured (spD K (F_recoloured (He.ga K "Machine"))) := ⟨_, _, ok_recoloured T U_recoloured H_check_machine H_reached H_colours_of H_arrows_of H_least_colours H_with_colours H_len, He.glo_ok X G (fa 66 rfl), U_recoloured.kp, U_recoloured.binds (fun _ _ _ _ _ _ us hl => match us, hl with | [_], _ => rfl)⟩
    have K_recoloured : HasK P w K mg base GT 11 "recoloured" P_recoloured ["machine"] [0] (spD K (F_recoloured (He.ga K "Machine"))) := by
      refine ⟨_, _, ok_recoloured T U_recoloured H_check_machine H_reached H_colours_of H_arrows_of H_least_colours H_with_colours H_len, He.glo_ok X G (fa 66 rfl), U_recoloured.kp, ⟨fun s us ws _ h1 h2 => ?_, fun r rz => pick_vals rz [0]⟩⟩
      obtain ⟨oc, od, kV, doc, pm, an, cdv, ct, osl, hfd, lk, hc⟩ := U_recoloured.ex
      rw [hfd]
      match us, ws, h1, h2 with
      | [], [a], _, _ => exact BindsTo.of_eq rfl
    have H_has_loop : Has P w K mg base GT 4 "has_loop" P_has_loop (spD K (F_has_loop (He.ga K "Machine"))) := ⟨_, _, ok_has_loop T U_has_loop H_colours_of H_arrows_of H_loops_as_asked, He.glo_ok X G (fa 67 rfl), U_has_loop.kp, U_has_loop.binds (fun _ _ _ _ _ _ us hl => match us, hl with | [_, _, _], _ => rfl)⟩
    have H_is_guard : Has P w K mg base GT 6 "is_guard" P_is_guard (spD K (F_is_guard (He.ga K "Machine"))) := ⟨_, _, ok_is_guard T U_is_guard H_check_machine H_live H_reached H_has_loop, He.glo_ok X G (fa 68 rfl), U_is_guard.kp, U_is_guard.binds (fun _ _ _ _ _ _ us hl => match us, hl with | [_], _ => rfl)⟩
    have H_is_hope : Has P w K mg base GT 6 "is_hope" P_is_hope (spD K (F_is_hope (He.ga K "Machine"))) := ⟨_, _, ok_is_hope T U_is_hope H_check_machine H_live H_reached, He.glo_ok X G (fa 69 rfl), U_is_hope.kp, U_is_hope.binds (fun _ _ _ _ _ _ us hl => match us, hl with | [_], _ => rfl)⟩
    have K_is_hope : HasK P w K mg base GT 6 "is_hope" P_is_hope ["machine"] [0] (spD K (F_is_hope (He.ga K "Machine"))) := by
      refine ⟨_, _, ok_is_hope T U_is_hope H_check_machine H_live H_reached, He.glo_ok X G (fa 69 rfl), U_is_hope.kp, ⟨fun s us ws _ h1 h2 => ?_, fun r rz => pick_vals rz [0]⟩⟩
      obtain ⟨oc, od, kV, doc, pm, an, cdv, ct, osl, hfd, lk, hc⟩ := U_is_hope.ex
      rw [hfd]
      match us, ws, h1, h2 with
      | [], [a], _, _ => exact BindsTo.of_eq rfl
    have H_sure : Has P w K mg base GT 5 "sure" P_sure (spD K (F_sure (He.ga K "Machine"))) := ⟨_, _, ok_sure T U_sure H_check_machine H_leading_to_loops H_len, He.glo_ok X G (fa 70 rfl), U_sure.kp, U_sure.binds (fun _ _ _ _ _ _ us hl => match us, hl with | [_], _ => rfl)⟩
    have H_is_promise : Has P w K mg base GT 6 "is_promise" P_is_promise (spD K (F_is_promise (He.ga K "Machine"))) := ⟨_, _, ok_is_promise T U_is_promise H_check_machine H_sure H_reached H_has_loop, He.glo_ok X G (fa 71 rfl), U_is_promise.kp, U_is_promise.binds (fun _ _ _ _ _ _ us hl => match us, hl with | [_], _ => rfl)⟩
    have H_nested_loops : Has P w K mg base GT 6 "nested_loops" P_nested_loops (spD K (F_nested_loops (He.ga K "Machine"))) := ⟨_, _, ok_nested_loops T U_nested_loops H_arrows_of H_colours_of H_reached H_loops_as_asked, He.glo_ok X G (fa 72 rfl), U_nested_loops.kp, U_nested_loops.binds (fun _ _ _ _ _ _ us hl => match us, hl with | [_, _, _], _ => rfl)⟩
    have H_comes_again : Has P w K mg base GT 7 "comes_again" P_comes_again (spD K (F_comes_again (He.ga K "Machine"))) := ⟨_, _, ok_comes_again T U_comes_again H_check_machine H_nested_loops, He.glo_ok X G (fa 73 rfl), U_comes_again.kp, U_comes_again.binds (fun _ _ _ _ _ _ us hl => match us, hl with | [_], _ => rfl)⟩
    have H_does_stay : Has P w K mg base GT 7 "does_stay" P_does_stay (spD K (F_does_stay (He.ga K "Machine"))) := ⟨_, _, ok_does_stay T U_does_stay H_check_machine H_nested_loops, He.glo_ok X G (fa 74 rfl), U_does_stay.kp, U_does_stay.binds (fun _ _ _ _ _ _ us hl => match us, hl with | [_], _ => rfl)⟩
    have K_does_stay : HasK P w K mg base GT 7 "does_stay" P_does_stay ["machine"] [0] (spD K (F_does_stay (He.ga K "Machine"))) := by
      refine ⟨_, _, ok_does_stay T U_does_stay H_check_machine H_nested_loops, He.glo_ok X G (fa 74 rfl), U_does_stay.kp, ⟨fun s us ws _ h1 h2 => ?_, fun r rz => pick_vals rz [0]⟩⟩
      obtain ⟨oc, od, kV, doc, pm, an, cdv, ct, osl, hfd, lk, hc⟩ := U_does_stay.ex
      rw [hfd]
      match us, ws, h1, h2 with
      | [], [a], _, _ => exact BindsTo.of_eq rfl
    have H_is_duty : Has P w K mg base GT 8 "is_duty" P_is_duty (spD K (F_is_duty (He.ga K "Machine"))) := ⟨_, _, ok_is_duty T U_is_duty H_comes_again H_does_stay, He.glo_ok X G (fa 75 rfl), U_is_duty.kp, U_is_duty.binds (fun _ _ _ _ _ _ us hl => match us, hl with | [_], _ => rfl)⟩
    have K_is_duty : HasK P w K mg base GT 8 "is_duty" P_is_duty ["machine"] [0] (spD K (F_is_duty (He.ga K "Machine"))) := by
      refine ⟨_, _, ok_is_duty T U_is_duty H_comes_again H_does_stay, He.glo_ok X G (fa 75 rfl), U_is_duty.kp, ⟨fun s us ws _ h1 h2 => ?_, fun r rz => pick_vals rz [0]⟩⟩
      obtain ⟨oc, od, kV, doc, pm, an, cdv, ct, osl, hfd, lk, hc⟩ := U_is_duty.ex
      rw [hfd]
      match us, ws, h1, h2 with
      | [], [a], _, _ => exact BindsTo.of_eq rfl
    have H_depth : Has P w K mg base GT 12 "depth" P_depth (spD K (F_depth (He.ga K "Machine"))) := ⟨_, _, ok_depth T U_depth H_check_machine H_recoloured H_colours_of, He.glo_ok X G (fa 76 rfl), U_depth.kp, U_depth.binds (fun _ _ _ _ _ _ us hl => match us, hl with | [_], _ => rfl)⟩
    have H__law_of_parts : Has P w K mg base GK 15 "_law_of_parts" P__law_of_parts (spD K (F__law_of_parts (He.ga K "Machine"))) := ⟨_, _, ok__law_of_parts T U__law_of_parts (lamF_of ta tb 0 rfl) H_guard H_hope H_opposite H_recoloured H_is_guard H_is_hope H_is_promise H_is_duty H_comes_again H_does_stay H_depth K_hope K_recoloured K_is_hope K_is_duty K_does_stay HA__law_caught, He.glo_ok X G (fa 77 rfl), U__law_of_parts.kp, U__law_of_parts.binds (fun _ _ _ _ _ _ us hl => match us, hl with | [_], _ => rfl)⟩
    have H__law_first : Has P w K mg base GT 1 "_law_first" P__law_first (spD K (F__law_first)) := ⟨_, _, ok__law_first T U__law_first, He.glo_ok X G (fa 78 rfl), U__law_first.kp, U__law_first.binds (fun _ _ _ _ _ _ us hl => match us, hl with | [_], _ => rfl)⟩
    have H_check_wanted : Has P w K mg base GT 3 "check_wanted" P_check_wanted (spD K (F_check_wanted (He.ga K "Machine"))) := ⟨_, _, ok_check_wanted T U_check_wanted HX_InvalidVerdict, He.glo_ok X G (fa 79 rfl), U_check_wanted.kp, U_check_wanted.binds (fun _ _ _ _ _ _ us hl => match us, hl with | [_, _], _ => rfl)⟩
    have H_top_of : Has P w K mg base GT 1 "top_of" P_top_of (spD K (F_top_of)) := ⟨_, _, ok_top_of T U_top_of, He.glo_ok X G (fa 80 rfl), U_top_of.kp, U_top_of.binds (fun _ _ _ _ _ _ us hl => match us, hl with | [_, _], _ => rfl)⟩
    have H_word_round : Has P w K mg base GT 2 "word_round" P_word_round (spD K (F_word_round)) := ⟨_, _, ok_word_round T U_word_round H_words_from, He.glo_ok X G (fa 81 rfl), U_word_round.kp, U_word_round.binds (fun _ _ _ _ _ _ us hl => match us, hl with | [_, _, _, _], _ => rfl)⟩
    have H_turning : Has P w K mg base GT 7 "turning" P_turning (spD K (F_turning (He.ga K "Machine"))) := ⟨_, _, ok_turning T U_turning H_check_machine H_check_wanted H_nested_loops H_arrows_of H_colours_of H_top_of H_word_round H_first_words, He.glo_ok X G (fa 82 rfl), U_turning.kp, U_turning.binds (fun _ _ _ _ _ _ us hl => match us, hl with | [_, _], _ => rfl)⟩
    have K_turning : HasK P w K mg base GT 7 "turning" P_turning ["wanted", "machine"] [1, 0] (spD K (F_turning (He.ga K "Machine"))) := by
      refine ⟨_, _, ok_turning T U_turning H_check_machine H_check_wanted H_nested_loops H_arrows_of H_colours_of H_top_of H_word_round H_first_words, He.glo_ok X G (fa 82 rfl), U_turning.kp, ⟨fun s us ws _ h1 h2 => ?_, fun r rz => pick_vals rz [1, 0]⟩⟩
      obtain ⟨oc, od, kV, doc, pm, an, cdv, ct, osl, hfd, lk, hc⟩ := U_turning.ex
      rw [hfd]
      match us, ws, h1, h2 with
      | [], [a, b], _, _ => exact BindsTo.of_eq rfl
    have H__law_right : Has P w K mg base GK 18 "_law_right" P__law_right (spD K (F__law_right (He.ga K "Machine"))) := ⟨_, _, ok__law_right T U__law_right (lamF_of ta tb 1 rfl) H__law_pick H__law_tool H__law_made H__law_of_parts H__law_first H_turning K_turning H_str HA__law_caught, He.glo_ok X G (fa 83 rfl), U__law_right.kp, U__law_right.binds (fun _ _ _ _ _ _ us hl => match us, hl with | [_], _ => rfl)⟩
    have H__law_purse : Has P w K mg base GT 1 "_law_purse" P__law_purse (spDF K (F__law_purse)) := ⟨_, _, ok__law_purse T U__law_purse, He.glo_ok X G (fa 84 rfl), U__law_purse.kp, U__law_purse.binds (fun _ _ _ _ _ _ us hl => match us, hl with | [_, _], _ => rfl)⟩
    exact ok_law T U_law H__law_right H__law_purse
end
theorem glo_law {K : PySem.W.Frag} (c : obK fns exK K = vaK fns) : (He.Fa.glo "law").ok K = true := by
  have e := ex_of c
  unfold exK at e
  simp only [Bool.and_eq_true] at e
  exact List.all_eq_true.mp e.1 _ (List.mem_of_getElem? (i := 85) rfl)
theorem ob_eq (s : PySem.W.SharedT) : ob s = hk.obs s.abs := obT_eq (HandSHeadRun.getT_eq s)
end DL

set_option maxHeartbeats 1000000
namespace DL
open PySem PySem.Spec PyProof.Rows L2
theorem loop_ind {g : GF} {B : SF} (I : Nat → Env → Bag → Prop) : ∀ (ds : List D) (n : Nat) (h : ∀ i d, ds[i]? = some d → ∀ ρ b, I (n + i) ρ b → ∃ z ρ2 b2, g d ρ b = some z ∧ B z.1 z.2 = .nx ρ2 b2 ∧ I (n + i + 1) ρ2 b2) (ρ : Env) (b : Bag), I n ρ b →
    ∃ ρ' b', loopD g B ds ρ b = .nx ρ' b' ∧ I (n + ds.length) ρ' b'
  | [], n, _, ρ, b, hI => ⟨ρ, b, rfl, hI⟩
  | d :: ds, n, h, ρ, b, hI => by
    obtain ⟨z, ρ2, b2, h1, h2, h3⟩ := h 0 d rfl ρ b hI
    obtain ⟨ρ', b', h4, h5⟩ := loop_ind I ds (n + 1) (fun i d hd ρ b hI => by
      have := h (i + 1) d (by simpa using hd) ρ b (by rw [show n + (i + 1) = n + 1 + i by omega]; exact hI)
      rw [show n + (i + 1) + 1 = n + 1 + i + 1 by omega] at this
      exact this) ρ2 b2 h3
    refine ⟨ρ', b', ?_, by rw [List.length_cons, show n + (ds.length + 1) = n + 1 + ds.length by omega]; exact h5⟩
    unfold loopD
    rw [h1]
    dsimp only
    rw [h2]
    exact h4
theorem lc_some {i : Nat} {F : EF} (Pr : D → Prop) : ∀ (ds : List D) (ρ : Env) (b : Bag), (∀ d ∈ ds, ∀ b, ∃ y b', F (ρ.set i (some (.sh d))) b = .ok y b' ∧ Pr y) → ∃ ys b', lcD (gN i) bYes F ds ρ b = .ok ys b' ∧ ys.length = ds.length ∧ ∀ y ∈ ys, Pr y
  | [], ρ, b, _ => ⟨[], b, rfl, rfl, fun _ h => by cases h⟩
  | d :: ds, ρ, b, h => by
    obtain ⟨y, b1, h1, h2⟩ := h d List.mem_cons_self b
    obtain ⟨ys, b2, h3, h4, h5⟩ := lc_some Pr ds ρ b1 fun d hd => h d (List.mem_cons_of_mem _ hd)
    refine ⟨y :: ys, b2, ?_, by simp [h4], fun z hz => ?_⟩
    · simp [lcD, h1, h3]
    · rcases List.mem_cons.mp hz with rfl | hz
      · exact h2
      · exact h5 z hz
theorem lc_map {g : GF} {F : EF} {f : D → D} : ∀ (ds : List D) (ρ : Env) (b : Bag), (∀ d ∈ ds, ∃ ρ', g d ρ b = some (ρ', b) ∧ F ρ' b = .ok (f d) b) → lcD g bYes F ds ρ b = .ok (ds.map f) b
  | [], ρ, b, _ => rfl
  | d :: ds, ρ, b, h => by
    obtain ⟨ρ', h0, h1⟩ := h d List.mem_cons_self
    have h3 := lc_map ds ρ b fun d hd => h d (List.mem_cons_of_mem _ hd)
    simp [lcD, h0, h1, h3]
theorem truths_all : ∀ (ks : List D), (∀ k ∈ ks, k = .bl true) → ∃ bs, truths ks = some bs ∧ bs.all id = true
  | [], _ => ⟨[], rfl, rfl⟩
  | k :: ks, h => by
    obtain ⟨bs, h1, h2⟩ := truths_all ks fun k hk => h k (List.mem_cons_of_mem _ hk)
    have := h k List.mem_cons_self
    subst this
    exact ⟨true :: bs, by simp [truths, h1], by simpa using h2⟩
theorem allF_true {ks : List D} (h : ∀ k ∈ ks, k = .bl true) : allF [.lst ks] = some (.bl true) := by
  obtain ⟨bs, h1, h2⟩ := truths_all ks h
  simp only [allF, h1, Option.map_some, h2]
/-- letters of one sort of laws: ascending, one or three apart -/
def sgsA0 : List Str := ["abe", "ad", "ade", "adg", "bc", "bcd", "bcf", "be", "bef", "beh", "c", "cd", "cde", "cdg", "cf", "cfg", "cfi", "d", "de", "def"]
def sgsA1 : List Str := ["deh", "dg", "dgh", "dgj", "e", "ef", "efg", "efi", "eh", "ehi", "ehk", "f", "fg", "fgh", "fgj", "fi", "fij", "fil", "g", "gh"]
def sgsA2 : List Str := ["ghi", "ghk", "gj", "gjk", "gjm", "h", "hi", "hij", "hil", "hk", "hkl", "hkn", "i", "ij", "ijk", "ijm", "il", "ilm", "ilo", "j"]
def sgsA3 : List Str := ["jk", "jkl", "jkn", "jm", "jmn", "jmp", "k", "kl", "klm", "klo", "kn", "kno", "knq", "l", "lm", "lmn", "lmp", "lo", "lop", "lor"]
def sgsA4 : List Str := ["m", "mn", "mnq", "mp", "mpq", "mps", "n", "no", "nop", "nor", "nq", "nqr", "nqt", "o", "op", "opq", "ops", "or", "ors", "oru"]
def sgsA5 : List Str := ["p", "pq", "pqr", "pqt", "ps", "pst", "psv", "qr", "qrs", "qru", "qt", "qtu", "qtw", "r", "rs", "rst", "rsv", "ru", "ruv", "rux"]
def sgsA6 : List Str := ["s", "st", "stu", "stw", "sv", "svw", "svy", "t", "tu", "tuv", "tux", "tw", "twx", "twz"]
def sgsA : List Str := sgsA0 ++ (sgsA1 ++ (sgsA2 ++ (sgsA3 ++ (sgsA4 ++ (sgsA5 ++ (sgsA6))))))
def sgs0 : List Str := ["ab", "a", "abc", "xz", "q", "mno", "hy", "bz", "kmx", "b", "cx", "yz", "xyz"]
def sgs : List Str := sgs0 ++ sgsA
theorem sg_len {x : Str} (h : x ∈ sgs) : 1 ≤ x.length ∧ x.length ≤ 3 := by
  have : ∀ x ∈ sgs, 1 ≤ x.length ∧ x.length ≤ 3 := by decide +kernel
  exact this x h
theorem letters_all0 (M : Addr) (b : Bag) : ∀ x ∈ sgsA0, F_is_letters M [.str x] b = .ok (.bl true) b := by
  unfold sgsA0
  repeat refine List.forall_mem_cons.mpr ⟨by kernel_rfl, ?_⟩
  exact fun x h => absurd h List.not_mem_nil
theorem letters_all1 (M : Addr) (b : Bag) : ∀ x ∈ sgsA1, F_is_letters M [.str x] b = .ok (.bl true) b := by
  unfold sgsA1
  repeat refine List.forall_mem_cons.mpr ⟨by kernel_rfl, ?_⟩
  exact fun x h => absurd h List.not_mem_nil
theorem letters_all2 (M : Addr) (b : Bag) : ∀ x ∈ sgsA2, F_is_letters M [.str x] b = .ok (.bl true) b := by
  unfold sgsA2
  repeat refine List.forall_mem_cons.mpr ⟨by kernel_rfl, ?_⟩
  exact fun x h => absurd h List.not_mem_nil
theorem letters_all3 (M : Addr) (b : Bag) : ∀ x ∈ sgsA3, F_is_letters M [.str x] b = .ok (.bl true) b := by
  unfold sgsA3
  repeat refine List.forall_mem_cons.mpr ⟨by kernel_rfl, ?_⟩
  exact fun x h => absurd h List.not_mem_nil
theorem letters_all4 (M : Addr) (b : Bag) : ∀ x ∈ sgsA4, F_is_letters M [.str x] b = .ok (.bl true) b := by
  unfold sgsA4
  repeat refine List.forall_mem_cons.mpr ⟨by kernel_rfl, ?_⟩
  exact fun x h => absurd h List.not_mem_nil
theorem letters_all5 (M : Addr) (b : Bag) : ∀ x ∈ sgsA5, F_is_letters M [.str x] b = .ok (.bl true) b := by
  unfold sgsA5
  repeat refine List.forall_mem_cons.mpr ⟨by kernel_rfl, ?_⟩
  exact fun x h => absurd h List.not_mem_nil
theorem letters_all6 (M : Addr) (b : Bag) : ∀ x ∈ sgsA6, F_is_letters M [.str x] b = .ok (.bl true) b := by
  unfold sgsA6
  repeat refine List.forall_mem_cons.mpr ⟨by kernel_rfl, ?_⟩
  exact fun x h => absurd h List.not_mem_nil
theorem letters_ok (M : Addr) (b : Bag) {x : Str} (h : x ∈ sgs) : F_is_letters M [.str x] b = .ok (.bl true) b := by
  unfold sgs at h
  rcases List.mem_append.mp h with h | h
  · simp only [sgs0, List.mem_cons, List.not_mem_nil, or_false] at h
    rcases h with rfl | rfl | rfl | rfl | rfl | rfl | rfl | rfl | rfl | rfl | rfl | rfl | rfl <;> kernel_rfl
  · unfold sgsA at h
    simp only [List.mem_append] at h
    rcases h with h | h | h | h | h | h | h
    · exact letters_all0 M b x h
    · exact letters_all1 M b x h
    · exact letters_all2 M b x h
    · exact letters_all3 M b x h
    · exact letters_all4 M b x h
    · exact letters_all5 M b x h
    · exact letters_all6 M b x h
def rowD (r : Row) : D := .tup [.int r.1, .tup (r.2.map D.int)]
def rowsD (rs : List Row) : D := .tup (rs.map rowD)
theorem isi_int (M : Addr) (i : Int) : isiF (.ty "int") (fun n => kitB n "int") (ownB M) [.int i, .obj (.ty "int")] = some (.bl true) := by kernel_rfl
theorem isi_bool (M : Addr) (i : Int) : isiF (.ty "bool") (fun n => kitB n "bool") (ownB M) [.int i, .obj (.ty "bool")] = some (.bl false) := by kernel_rfl
theorem isi_str (M : Addr) (x : Str) : isiF (.ty "str") (fun n => kitB n "str") (ownB M) [.str x, .obj (.ty "str")] = some (.bl true) := by kernel_rfl
theorem number_ok (M : Addr) (b : Bag) {i m : Int} (h0 : 0 ≤ i) (h1 : i ≤ m) : F_is_number M [.int i, .int m] b = .ok (.bl true) b := by
  unfold F_is_number G_is_number
  simp [isi_int, isi_bool, h0, h1]
theorem state_ok (M : Addr) (b : Bag) {k n : Nat} {r : Row} (hr : RowOk k n r) (hk : k ≤ 100000) : F_is_state M [rowD r, .int k, .int n] b = .ok (.bl true) b := by
  unfold F_is_state G_is_state rowD
  have hl : r.2.length ≤ 100000 := by rw [hr.len]; exact hk
  have hm : lcD (gN 5) bYes (eCall (F_is_number M) (aCons (eV 5) (aCons (e2 subF (eV 2) (eC (.int 1))) aNil))) (r.2.map D.int) [some (.sh (rowD r)), some (.sh (.int k)), some (.sh (.int n)), some (.sh (.int r.1)), some (.sh (.tup (r.2.map D.int))), none] b = .ok ((r.2.map D.int).map fun _ => .bl true) b := lc_map _ _ _ fun d hd => by
    obtain ⟨g, hg, rfl⟩ := List.mem_map.mp hd
    obtain ⟨g0, g1⟩ := hr.go g hg
    refine ⟨_, rfl, ?_⟩
    simp [number_ok M b g0 (show g ≤ (n : Int) - 1 by omega)]
  have h6 := number_ok M b (i := r.1) (m := 6) hr.c0 hr.c1
  have ha := allF_true (ks := (r.2.map D.int).map fun _ => .bl true) (fun q hq => by
    obtain ⟨_, _, rfl⟩ := List.mem_map.mp hq
    rfl)
  unfold rowD at hm
  simp only [List.map_map] at hm ha
  simp [isi_tup, h6, hr.len, hk, hm, ha]
theorem enum_get {ds : List D} {i : Nat} {d : D} (h : (enumOf ds)[i]? = some d) : ∃ e, ds[i]? = some e ∧ d = .tup [.int i, e] := by
  unfold enumOf at h
  have hl : i < ds.length := by
    have := (List.getElem?_eq_some_iff.mp h).1
    simpa using this
  rw [List.getElem?_zipWith, List.getElem?_eq_getElem hl, List.getElem?_range hl] at h
  refine ⟨ds[i], List.getElem?_eq_getElem hl, ?_⟩
  exact (Option.some.inj h).symm
theorem wrong_ok (M : Addr) (b : Bag) {x : Str} {rs : List Row} (hx : x ∈ sgs) (hr : RowsOk x.length rs) : F_first_wrong_state M [.str x, rowsD rs] b = .ok (.int (-1)) b := by
  unfold F_first_wrong_state G_first_wrong_state
  obtain ⟨l1, l2⟩ := sg_len hx
  have hl : x.length ≤ 100000 := by omega
  have h6 : ¬ 6 < rs.length := by have := hr.n1; omega
  obtain ⟨ρ', b', e1, s2, s3, e2, e3⟩ := loop_ind (g := gT 2 (gsC (gN 2) (gsC (gN 3) gsN))) (B := (sIf (bOr (bB (e2 eqF (eV 2) (eC (.int 6)))) (bNot (bB (eCall (F_is_state M) (aCons (eV 3) (aCons (eB lenF (aCons (eV 0) aNil)) (aCons (eB lenF (aCons (eV 1) aNil)) aNil))))))) (sRet (eV 2)) sNil))
    (fun _ ρ b' => ∃ s2 s3, ρ = [some (.sh (.str x)), some (.sh (rowsD rs)), s2, s3] ∧ b' = b) (enumOf (rs.map rowD)) 0 (fun i d hd ρ b' ⟨s2, s3, h1, h2⟩ => by
      subst h1 h2
      obtain ⟨e, he, rfl⟩ := enum_get hd
      rw [List.getElem?_map, Option.map_eq_some_iff] at he
      obtain ⟨r, hr1, rfl⟩ := he
      have hi : i < rs.length := (List.getElem?_eq_some_iff.mp hr1).1
      have hn6 : ¬ ((i : Int) = 6) := by have := hr.n1; omega
      have hs := state_ok M b' (hr.ok r (List.mem_of_getElem? hr1)) (by omega)
      refine ⟨([some (.sh (.str x)), some (.sh (rowsD rs)), some (.sh (.int i)), some (.sh (rowD r))], b'), [some (.sh (.str x)), some (.sh (rowsD rs)), some (.sh (.int i)), some (.sh (rowD r))], b', by simp, ?_, some (.sh (.int i)), some (.sh (rowD r)), rfl, rfl⟩
      unfold rowsD
      simp [hn6, hl, hs]) [some (.sh (.str x)), some (.sh (rowsD rs)), none, none] b ⟨none, none, rfl, rfl⟩
  subst e2 e3
  unfold rowsD at e1 ⊢
  simp [sFor, aEnumT, e1]
theorem make_ok (M : Addr) (b : Bag) {x : Str} {rs : List Row} (hx : x ∈ sgs) (hr : RowsOk x.length rs) : Fm_Machine M [.str x, rowsD rs] b = .ok (["_letters", "_states"], [.str x, rowsD rs]) b := by
  have h1 := letters_ok M b hx
  have h2 := wrong_ok M b hx hr
  have h0 : ¬ rs = [] := by
    intro h
    have := hr.n0
    rw [h] at this
    simp at this
  unfold rowsD at h2 ⊢
  simp [Fm_Machine, h1, h2, h0]
def machD (M : Addr) (x : Str) (rs : List Row) : D := .ins M ["_letters", "_states"] [.str x, rowsD rs]
end DL

set_option maxHeartbeats 1000000
namespace DL
open PySem PySem.Spec PyProof.Rows L2
theorem ints_of {P : Int → Prop} : ∀ (ys : List D), (∀ y ∈ ys, ∃ g, y = .int g ∧ P g) → ∃ gs : List Int, ys = gs.map D.int ∧ ∀ g ∈ gs, P g
  | [], _ => ⟨[], rfl, fun _ h => by cases h⟩
  | y :: ys, h => by
    obtain ⟨g, rfl, hg⟩ := h y List.mem_cons_self
    obtain ⟨gs, rfl, hgs⟩ := ints_of ys fun y hy => h y (List.mem_cons_of_mem _ hy)
    exact ⟨g :: gs, rfl, fun z hz => by
      rcases List.mem_cons.mp hz with rfl | hz
      · exact hg
      · exact hgs z hz⟩
theorem range_get {n : Nat} {i : Nat} {d : D} (h : (rangeOf (n : Int))[i]? = some d) : d = .int i ∧ i < n := by
  unfold rangeOf at h
  rw [Int.toNat_natCast] at h
  have hl : i < n := by
    have := (List.getElem?_eq_some_iff.mp h).1
    simpa using this
  rw [List.getElem?_map, List.getElem?_range hl] at h
  exact ⟨(Option.some.inj h).symm, hl⟩
theorem range_len {n : Nat} : (rangeOf (n : Int)).length = n := by simp [rangeOf]
end DL

set_option maxHeartbeats 1000000
namespace DL
open PySem PySem.Spec PyProof.Rows L2
theorem fld_l (M : Addr) (x : Str) (rs : List Row) : fldF M "_letters" (machD M x rs) = some (.str x) := by
  simp [fldF, machD, lkD]
theorem fld_s (M : Addr) (x : Str) (rs : List Row) : fldF M "_states" (machD M x rs) = some (rowsD rs) := by
  have h : ¬ ("_states" : Str) = "_letters" := by decide
  simp [fldF, machD, lkD, h]
theorem isi_M (M : Addr) (x : Str) (rs : List Row) : isiF (.ref M) kitM (ownM M) [machD M x rs, .obj (.ref M)] = some (.bl true) := by
  simp [isiF, machD, ownM]
theorem check_ok (M : Addr) (x : Str) (rs : List Row) (b : Bag) : F_check_machine M [machD M x rs] b = .ok .non b := by
  unfold F_check_machine G_check_machine
  simp [isi_M]
end DL

set_option maxHeartbeats 1000000
namespace DL
open PySem PySem.Spec PyProof.Rows L2
theorem cut_ints (ns : List Int) (lo hi : Option Int) : (∀ d ∈ cutD (ns.map D.int) lo hi, ∃ g, d = D.int g) ∧ (cutD (ns.map D.int) lo hi).length ≤ ns.length := by
  unfold cutD
  refine ⟨fun d hd => ?_, ?_⟩
  · obtain ⟨g, _, rfl⟩ := List.mem_map.mp (List.mem_of_mem_drop (List.mem_of_mem_take hd))
    exact ⟨g, rfl⟩
  · rw [List.length_take, List.length_drop, List.length_map]
    omega
theorem pow_int : (10 : Int) ^ 18 = 1000000000000000000 := by decide +kernel
theorem pow_18 : powF (.int 10) (.int 18) = some (.int 1000000000000000000) := by
  unfold powF
  dsimp only
  rw [if_pos (by decide +kernel)]
  exact congrArg (fun z => some (D.int z)) pow_int
end DL

set_option maxHeartbeats 1000000
namespace DL
open PySem PySem.Spec PyProof.Rows L2
theorem pdraw_ok (b : Bag) {m : Int} (h1 : 1 ≤ m) (h2 : m < 1073741824) : ∃ d b', F__law_draw [.bag, .int m] b = .ok (.int d) b' ∧ 0 ≤ d ∧ d < m := by
  unfold F__law_draw G__law_draw
  have hm0 : 0 < m := by omega
  have hq1 : -18446744073709551616 < b.y % 40009 + 20021 := by omega
  have hq2 : b.y % 40009 + 20021 < 18446744073709551616 := by omega
  by_cases hx : 0 < b.x
  · refine ⟨b.x % m, ⟨b.x / m, (b.y * (b.y % 40009 + 20021) + 60013 * (b.z + 1) + 11) % 2147483629, b.z + 1⟩, ?_, Int.emod_nonneg _ (by omega), Int.emod_lt_of_pos _ hm0⟩
    simp [sPar2, hq1, hq2, hx, hm0, h2]
  · refine ⟨((b.y * (b.y % 40009 + 20021) + 60013 * (b.z + 1) + 11) % 2147483629 / 89) % m, ⟨b.x, (b.y * (b.y % 40009 + 20021) + 60013 * (b.z + 1) + 11) % 2147483629, b.z + 1⟩, ?_, Int.emod_nonneg _ (by omega), Int.emod_lt_of_pos _ hm0⟩
    simp [sPar2, hq1, hq2, hx, hm0, h2]
theorem pick_ok (b : Bag) (ds : List D) (h1 : ds ≠ []) (h2 : ds.length ≤ 1000) : ∃ d ∈ ds, ∃ b', F__law_pick [.bag, .lst ds] b = .ok d b' := by
  have hl : 1 ≤ ds.length := by
    cases ds with
    | nil => exact absurd rfl h1
    | cons _ _ => simp
  obtain ⟨i, b', h3, h4, h5⟩ := pdraw_ok b (m := ds.length) (by omega) (by omega)
  obtain ⟨j, rfl⟩ : ∃ j : Nat, i = (j : Int) := ⟨i.toNat, by omega⟩
  have hj : j < ds.length := by omega
  have hg : atI ds (j : Int) = some ds[j] := atI_nat (List.getElem?_eq_getElem hj)
  refine ⟨ds[j], List.getElem_mem hj, b', ?_⟩
  have hl2 : ds.length ≤ 100000 := by omega
  unfold F__law_pick G__law_pick
  simp [h3, hg, hl2]
def bPur : SF := (sAsg (e2 modF (eB intF (aCons (e2 addF (e2 mulF (eV 4) (eC (.int 48271))) (eV 2)) aNil)) (eC (.int 2147483587))) (gN 4))
theorem pur_loop (p0 p1 p3 : Option SD) (b : Bag) : ∀ (ds : List D) (sd : Int) (s2 : Option SD), (∀ d ∈ ds, ∃ g, d = .int g) → ∃ sd' s2', loopD (gN 2) bPur ds [p0, p1, s2, p3, some (.sh (.int sd))] b = .nx [p0, p1, s2', p3, some (.sh (.int sd'))] b
  | [], sd, s2, _ => ⟨sd, s2, rfl⟩
  | d :: ds, sd, s2, h => by
    obtain ⟨g, rfl⟩ := h d List.mem_cons_self
    obtain ⟨sd', s2', h2⟩ := pur_loop p0 p1 p3 b ds ((sd * 48271 + g) % 2147483587) (some (.sh (.int g))) fun d hd => h d (List.mem_cons_of_mem _ hd)
    refine ⟨sd', s2', ?_⟩
    unfold loopD
    simp [bPur] at h2 ⊢
    exact h2
def gThen (Pw : EF) : SF := (sSeq (sAsg (eIx (eV 0) (eV 1)) (gN 2)) (sSeq (sAsg (eIf (bOr (bB (e2 ltF (eV 2) (eC (.int 0)))) (bB (e2 geF (eV 2) Pw))) (eB absF (aCons (eV 2) aNil)) (eC (.int 0))) (gN 3)) (sRetO (eLst (aCons (eV 3) (aCons (e2 modF (eB intF (aCons (e2 addF (e2 addF (e2 mulF (eV 2) (eC (.int 39373))) (e2 mulF (eC (.int 104723)) (eV 1))) (eC (.int 17))) aNil)) (eC (.int 2147483629))) (aCons (eC (.int 0)) aNil)))))))
def gElse : SF := (sSeq (sAsg (e2 addF (e2 mulF (eC (.int 86243)) (eV 1)) (eC (.int 131))) (gN 4)) (sSeq (sFor (aAny (eSl (eV 0) oNo (oSome (eC (.int 4))))) (gN 2) (sAsg (e2 modF (eB intF (aCons (e2 addF (e2 mulF (eV 4) (eC (.int 48271))) (eV 2)) aNil)) (eC (.int 2147483587))) (gN 4))) (sRetO (eLst (aCons (eC (.int 0)) (aCons (eV 4) (aCons (eC (.int 0)) aNil)))))))
def gPur (Pw : EF) : SF := (sSeq (sIf (bB (e2 ltF (eV 1) (eB lenF (aCons (eV 0) aNil)))) (gThen Pw) sNil) gElse)
theorem pu4_ok (Pw : EF) (T : Int) (hT : ∀ ρ b, Pw ρ b = .ok (.int T) b) (fg : Int) (b : Bag) (ρ : Env) (q2 : ρ[2]? = some (some (.sh (.int fg)))) : ∃ z, eIf (bOr (bB (e2 ltF (eV 2) (eC (.int 0)))) (bB (e2 geF (eV 2) Pw))) (eB absF (aCons (eV 2) aNil)) (eC (.int 0)) ρ b = .ok (.int z) b := by
  by_cases h0 : fg < 0
  · exact ⟨_, by simp [q2, hT, h0]; rfl⟩
  · by_cases ha : T ≤ fg
    · exact ⟨_, by simp [q2, hT, h0, ha]; rfl⟩
    · exact ⟨0, by simp [q2, hT, h0, ha]⟩
theorem pur_core (Pw : EF) (T : Int) (hT : ∀ ρ b, Pw ρ b = .ok (.int T) b) (ns : List Int) (hn : ns.length ≤ 63) (k : Nat) (b : Bag) : ∃ x y, runF 5 2 (gPur Pw) [.fl (ns.map D.int), .int k] b = .ok (.lst [.int x, .int y, .int 0]) b := by
  have r0 : runF 5 2 (gPur Pw) [.fl (ns.map D.int), .int k] b = (gPur Pw [some (.sh (.fl (ns.map D.int))), some (.sh (.int k)), none, none, none] b).outF := rfl
  rw [r0]
  have hl : ns.length ≤ 100000 := by omega
  have c0 : bB (e2 ltF (eV 1) (eB lenF (aCons (eV 0) aNil))) [some (.sh (.fl (ns.map D.int))), some (.sh (.int k)), none, none, none] b = .ok (decide (k < ns.length)) b := by
    by_cases hk : k < ns.length <;> simp [hk]
  by_cases hk : k < ns.length
  · have ea : atI (ns.map D.int) (k : Int) = some (.int ns[k]) := atI_nat (by rw [List.getElem?_map, List.getElem?_eq_getElem hk]; rfl)
    generalize ns[k] = fg at ea
    obtain ⟨z, g4⟩ := pu4_ok Pw T hT fg b [some (.sh (.fl (ns.map D.int))), some (.sh (.int k)), some (.sh (.int fg)), none, none] rfl
    refine ⟨z, (fg * 39373 + 104723 * k + 17) % 2147483629, ?_⟩
    have g1 : eIx (eV 0) (eV 1) [some (.sh (.fl (ns.map D.int))), some (.sh (.int k)), none, none, none] b = .ok (.int fg) b := by simp [ea]
    have g5 : eLst (aCons (eV 3) (aCons (e2 modF (eB intF (aCons (e2 addF (e2 addF (e2 mulF (eV 2) (eC (.int 39373))) (e2 mulF (eC (.int 104723)) (eV 1))) (eC (.int 17))) aNil)) (eC (.int 2147483629))) (aCons (eC (.int 0)) aNil))) [some (.sh (.fl (ns.map D.int))), some (.sh (.int k)), some (.sh (.int fg)), some (.sh (.int z)), none] b = .ok (.lst [.int z, .int ((fg * 39373 + 104723 * k + 17) % 2147483629), .int 0]) b := by simp
    have gt : gThen Pw [some (.sh (.fl (ns.map D.int))), some (.sh (.int k)), none, none, none] b = .ro (.lst [.int z, .int ((fg * 39373 + 104723 * k + 17) % 2147483629), .int 0]) b := by
      unfold gThen
      simp only [sSeq, sAsg, g1, st_ok_, gN, seq_nx_, List.set_cons_succ, List.set_cons_zero, g4, sRetO, g5]
    unfold gPur
    rw [decide_eq_true hk] at c0
    simp only [sSeq, sIf, c0, st_ok_, if_true, gt]
    rfl
  · rw [decide_eq_false hk] at c0
    obtain ⟨c1, c2⟩ := cut_ints ns none (some 4)
    obtain ⟨sd', s2', g4⟩ := pur_loop (some (.sh (.fl (ns.map D.int)))) (some (.sh (.int k))) none b (cutD (ns.map D.int) none (some 4)) (86243 * k + 131) none c1
    refine ⟨0, sd', ?_⟩
    have ge : gElse [some (.sh (.fl (ns.map D.int))), some (.sh (.int k)), none, none, none] b = .ro (.lst [.int 0, .int sd', .int 0]) b := by
      unfold gElse
      unfold bPur at g4
      have hc : (cutD (ns.map D.int) none (some 4)).length ≤ 100000 := by omega
      simp [sFor, eSl, oNo, oSome, slF] at g4 ⊢
      simp [g4, hc]
    unfold gPur
    simp only [sSeq, sIf, c0, st_ok_, sNil, seq_nx_, ge]
    simp [ge]
theorem purse_ok (ns : List Int) (hn : ns.length ≤ 63) (k : Nat) (b : Bag) : ∃ x y, F__law_purse [.fl (ns.map D.int), .int k] b = .ok (.lst [.int x, .int y, .int 0]) b :=
  pur_core (e2 powF (eC (.int 10)) (eC (.int 18))) 1000000000000000000 (fun ρ b => by
    show (Out.pureO (powF (.int 10) (.int 18)) b) = _
    rw [pow_18]
    rfl) ns hn k b
end DL

set_option maxHeartbeats 1000000
namespace DL
open PySem PySem.Spec PyProof.Rows L2
theorem app_cps (w v : Str) : (w ++ v).cps = w.cps ++ v.cps := rfl
theorem app_list (w v : Str) : (w ++ v).cps.toList = w.cps.toList ++ v.cps.toList := by rw [app_cps, Array.toList_append]
theorem app_len (w v : Str) : (w ++ v).length = w.length + v.length := by
  rw [← str_len, app_list, List.length_append, str_len, str_len]
theorem app_wd {x w v : Str} (h : Wd x w) (h' : Wd x v) : Wd x (w ++ v) := fun c hc => by
  rw [app_list] at hc
  rcases List.mem_append.mp hc with z | z
  · exact h c z
  · exact h' c z
theorem walkE_app (x : Str) (rs : List Row) : ∀ (u v : List Nat) (s : Int), walkE x rs s (u ++ v) = walkE x rs (walkE x rs s u) v
  | [], v, s => rfl
  | c :: u, v, s => walkE_app x rs u v _
theorem walkL_app (x : Str) (rs : List Row) : ∀ (u v : List Nat) (s : Int), walkL x rs s (u ++ v) = walkL x rs s u ++ walkL x rs (walkE x rs s u) v
  | [], v, s => rfl
  | c :: u, v, s => by simp only [List.cons_append, walkL, walkE, walkL_app x rs u v]
theorem colour_ok {k : Nat} {rs : List Row} (hr : RowsOk k rs) {s : Int} (h0 : 0 ≤ s) (h1 : s < rs.length) :
    ∃ r, atI (rs.map rowD) s = some (rowD r) ∧ r.1 = colour rs s ∧ 0 ≤ colour rs s ∧ colour rs s ≤ 6 := by
  obtain ⟨j, rfl⟩ : ∃ j : Nat, s = (j : Int) := ⟨s.toNat, by omega⟩
  have hj : j < rs.length := by omega
  have ok := hr.ok rs[j] (List.getElem_mem hj)
  have e : colour rs (j : Int) = rs[j].1 := by
    unfold colour
    rw [Int.toNat_natCast, List.getElem?_eq_getElem hj]
    rfl
  refine ⟨rs[j], atI_nat (by rw [List.getElem?_map, List.getElem?_eq_getElem hj]; rfl), e.symm, ?_⟩
  rw [e]
  exact ⟨ok.c0, ok.c1⟩
theorem ints_map (is : List Int) : intsD (is.map D.int) = some is := by
  induction is with
  | nil => rfl
  | cons i is ih => simp [intsD, ih]
theorem maxLF_ok {is : List Int} (h : is ≠ []) : maxLF [.lst (is.map D.int)] = some (.int (top0 is)) := by
  unfold maxLF
  simp only [ints_map, Option.bind_some]
  cases is with
  | nil => exact (h rfl).elim
  | cons i is => rfl
end DL

set_option maxHeartbeats 1000000

set_option maxHeartbeats 1000000
namespace DL
open PySem PySem.Spec PyProof.Rows L2
theorem lc_ints {ρ : Env} {b : Bag} {F : EF} {i : Nat} (f : Int → D) (is : List Int) (h : ∀ k ∈ is, F (ρ.set i (some (.sh (.int k)))) b = .ok (f k) b) : lcD (gN i) bYes F (is.map D.int) ρ b = .ok (is.map f) b := by
  have := lc_map (g := gN i) (F := F) (f := fun d => match d with | .int k => f k | _ => .non) (is.map D.int) ρ b (fun d hd => by
    obtain ⟨k, hk, rfl⟩ := List.mem_map.mp hd
    exact ⟨_, rfl, h k hk⟩)
  rw [this, List.map_map]
  congr 1
theorem flats_ints (is : List Int) : flatsD (is.map D.int) = some (is.map V.int) := by
  induction is with
  | nil => rfl
  | cons i is ih => simp [ih]
def rowAt (rs : List Row) (s : Int) : Row := (rs[s.toNat]?).getD (0, [])
theorem goal_at (rs : List Row) (s : Int) (i : Nat) : goal rs s i = ((rowAt rs s).2[i]?).getD 0 := by
  unfold goal rowAt
  cases rs[s.toNat]? <;> rfl
theorem rowAt_ok {k : Nat} {rs : List Row} (hr : RowsOk k rs) {s : Int} (h0 : 0 ≤ s) (h1 : s < rs.length) : atI (rs.map rowD) s = some (rowD (rowAt rs s)) ∧ RowOk k rs.length (rowAt rs s) := by
  obtain ⟨j, rfl⟩ : ∃ j : Nat, s = (j : Int) := ⟨s.toNat, by omega⟩
  have hj : j < rs.length := by omega
  have e : rowAt rs (j : Int) = rs[j] := by
    unfold rowAt
    rw [Int.toNat_natCast, List.getElem?_eq_getElem hj]
    rfl
  rw [e]
  exact ⟨atI_nat (by rw [List.getElem?_map, List.getElem?_eq_getElem hj]; rfl), hr.ok _ (List.getElem_mem hj)⟩
end DL

set_option maxHeartbeats 1000000
namespace DL
open PySem PySem.Spec PyProof.Rows L2
theorem len_M (M : Addr) (x : Str) (rs : List Row) (b : Bag) : F_Machine_len_ M [machD M x rs] b = .ok (.int rs.length) b := by
  unfold F_Machine_len_ G_Machine_len_
  have f2 := fld_s M x rs
  unfold rowsD at f2
  simp [f2, rowsD]
@[simp] theorem unown_map (o : Option D) (ρ : Env) : unown (o.map SD.sh :: ρ) = o.map SD.sh :: unown ρ := by cases o <;> rfl
end DL

set_option maxHeartbeats 1000000
namespace DL
open PySem PySem.Spec PyProof.Rows L2
def rn (x : Str) (rs : List Row) (α : Nat → Nat) : Nat → Int
  | 0 => 0
  | i + 1 => goal rs (rn x rs α i) (idx x (α i))
theorem top0_ge {is : List Int} : ∀ y ∈ is, y ≤ top0 is := by
  cases is with
  | nil => intro y h; cases h
  | cons i is =>
    intro y h
    obtain ⟨h1, h2, h3⟩ := topI_ge is i
    rcases List.mem_cons.mp h with rfl | h
    · exact h1
    · exact h2 y h
theorem top0_mem {is : List Int} (h : is ≠ []) : top0 is ∈ is := by
  cases is with
  | nil => exact (h rfl).elim
  | cons i is =>
    obtain ⟨h1, h2, h3⟩ := topI_ge is i
    rcases h3 with h3 | h3
    · show topI i is ∈ _
      rw [h3]; exact List.mem_cons_self
    · exact List.mem_cons_of_mem _ h3
end DL

set_option maxHeartbeats 1000000
namespace DL
open PySem PySem.Spec PyProof.Rows L2
section
variable {sc : Int → List Int} {ok ok' : Int → Prop}
theorem Pth.snoc {a b c : Int} (h : Pth sc ok a b) (h1 : c ∈ sc b) (h2 : ok c) : Pth sc ok a c := h.trans (.one h1 h2)
theorem Pth.last {a b : Int} (h : Pth sc ok a b) : ok b := by
  induction h with
  | one _ h2 => exact h2
  | step _ _ _ ih => exact ih
theorem Pth.shut {T : Int → Prop} {a b : Int} (h : Pth sc ok a b) : (∀ x ∈ sc a, ok x → T x) → (∀ y, T y → ∀ x ∈ sc y, ok x → T x) → T b := by
  induction h with
  | one h1 h2 => exact fun f _ => f _ h1 h2
  | step h1 h2 _ ih => exact fun f g => ih (g _ (f _ h1 h2)) g
/-- hangs together -/
def SC (sc : Int → List Int) (S : Int → Prop) : Prop := ∀ a b, S a → S b → Pth sc S a b
theorem SC.congr {S S' : Int → Prop} (h : SC sc S) (e : ∀ a, S a ↔ S' a) : SC sc S' := fun a b ha hb => (h a b ((e a).mpr ha) ((e b).mpr hb)).mono fun x hx => (e x).mp hx
/-- a way between two of a class stays in it -/
theorem Pth.within {a : Int} {x y : Int} (h : Pth sc ok x y) : Pth sc ok a x → Pth sc ok y a → Pth sc (fun c => ok c ∧ Pth sc ok a c ∧ Pth sc ok c a) x y := by
  induction h with
  | one h1 h2 => exact fun f g => .one h1 ⟨h2, f.snoc h1 h2, g⟩
  | step h1 h2 h3 ih => exact fun f g => .step h1 ⟨h2, f.snoc h1 h2, h3.trans g⟩ (ih (f.snoc h1 h2) g)
end
def TopIs (col : Int → Int) (S : Int → Prop) (T : Int) : Prop := (∃ a, S a ∧ col a = T) ∧ ∀ a, S a → col a ≤ T
theorem TopIs.uniq {col : Int → Int} {S : Int → Prop} {T T' : Int} (h : TopIs col S T) (h' : TopIs col S T') : T = T' := by
  obtain ⟨⟨a, a1, a2⟩, b⟩ := h
  obtain ⟨⟨c, c1, c2⟩, d⟩ := h'
  have := d a a1
  have := b c c1
  omega
theorem TopIs.congr {col : Int → Int} {S S' : Int → Prop} {T : Int} (h : TopIs col S T) (e : ∀ a, S a ↔ S' a) : TopIs col S' T := by
  obtain ⟨⟨a, a1, a2⟩, b⟩ := h
  exact ⟨⟨a, (e a).mp a1, a2⟩, fun x hx => b x ((e x).mpr hx)⟩
theorem top_is {col : Int → Int} {l : List Int} (h : l ≠ []) : TopIs col (· ∈ l) (top0 (l.map col)) := by
  have hm : l.map col ≠ [] := by simpa using h
  obtain ⟨a, a1, a2⟩ := List.mem_map.mp (top0_mem hm)
  exact ⟨⟨a, a1, a2⟩, fun x hx => top0_ge _ (List.mem_map.mpr ⟨x, hx, rfl⟩)⟩
/-- what is asked of loops: colours, and the evenness of the greatest -/
abbrev Asked := List ((Int → Int) × Int)
def GLoop (sc : Int → List Int) (as : Asked) (S : Int → Prop) : Prop := (∃ a, S a) ∧ SC sc S ∧ ∀ p ∈ as, ∃ T, TopIs p.1 S T ∧ T % 2 = p.2
theorem GLoop.congr {sc : Int → List Int} {as : Asked} {S S' : Int → Prop} (h : GLoop sc as S) (e : ∀ a, S a ↔ S' a) : GLoop sc as S' := by
  obtain ⟨⟨a, ha⟩, h1, h2⟩ := h
  refine ⟨⟨a, (e a).mp ha⟩, h1.congr e, fun p hp => ?_⟩
  obtain ⟨T, t1, t2⟩ := h2 p hp
  exact ⟨T, t1.congr e, t2⟩
theorem bnot_bnot (x : Int) : Builtin.bitNot (Builtin.bitNot x) = x := by unfold Builtin.bitNot; omega
theorem band_nat (x y : Nat) : Builtin.bitAnd (x : Int) (y : Int) = ((x &&& y : Nat) : Int) := by
  unfold Builtin.bitAnd
  rw [decide_eq_true (by omega : (0 : Int) ≤ x), decide_eq_true (by omega : (0 : Int) ≤ y)]
  rfl
theorem bor_nat (x y : Nat) : Builtin.bitOr (x : Int) (y : Int) = ((x ||| y : Nat) : Int) := by
  unfold Builtin.bitOr
  have h : ∀ z : Nat, ¬ (0 : Int) ≤ Builtin.bitNot (z : Int) := fun z => by unfold Builtin.bitNot; omega
  have e : Builtin.bitAnd (Builtin.bitNot (x : Int)) (Builtin.bitNot (y : Int)) = Builtin.bitNot (((x ||| y : Nat) : Int)) := by
    show (match decide (0 ≤ Builtin.bitNot (x : Int)), decide (0 ≤ Builtin.bitNot (y : Int)) with
      | true, true => _
      | true, false => _
      | false, true => _
      | false, false => _) = _
    rw [decide_eq_false (h x), decide_eq_false (h y)]
    show Builtin.bitNot (((Builtin.bitNot (Builtin.bitNot (x : Int))).toNat ||| (Builtin.bitNot (Builtin.bitNot (y : Int))).toNat : Nat) : Int) = _
    rw [bnot_bnot, bnot_bnot]
    rfl
  rw [e, bnot_bnot]
theorem shr_nat (x k : Nat) : (x : Int) / 2 ^ k = ((x / 2 ^ k : Nat) : Int) := by
  rw [Int.natCast_ediv]
  rfl
theorem test_bit (x k : Nat) : ((x / 2 ^ k) &&& 1 != 0) = x.testBit k := by
  rw [Nat.and_one_is_mod, Nat.testBit_eq_decide_div_mod_eq]
  rcases Nat.mod_two_eq_zero_or_one (x / 2 ^ k) with h | h <;> rw [h] <;> rfl
theorem add_pow {s k : Nat} (h : s.testBit k = false) (j : Nat) : (2 ^ k + s).testBit j = (decide (j = k) || s.testBit j) := by
  -- s = 2^(k+1) * hi + lo, lo below 2^k
  have hlo : s % 2 ^ (k + 1) < 2 ^ k := by
    have h1 : s % 2 ^ (k + 1) = s % 2 ^ k + 2 ^ k * (s / 2 ^ k % 2) := by rw [Nat.pow_succ, Nat.mod_mul]
    rw [Nat.testBit_eq_decide_div_mod_eq] at h
    have h2 : s / 2 ^ k % 2 = 0 := by
      have := Nat.mod_two_eq_zero_or_one (s / 2 ^ k)
      have h := of_decide_eq_false h
      omega
    rw [h1, h2, Nat.mul_zero, Nat.add_zero]
    exact Nat.mod_lt _ (Nat.two_pow_pos k)
  have hs : s = 2 ^ (k + 1) * (s / 2 ^ (k + 1)) + s % 2 ^ (k + 1) := (Nat.div_add_mod _ _).symm
  generalize s / 2 ^ (k + 1) = hi at hs
  generalize s % 2 ^ (k + 1) = lo at hs hlo
  subst hs
  have hp : 2 ^ (k + 1) = 2 ^ k + 2 ^ k := by rw [Nat.pow_succ]; omega
  have e : 2 ^ k + (2 ^ (k + 1) * hi + lo) = 2 ^ (k + 1) * hi + (2 ^ k * 1 + lo) := by omega
  rw [e, Nat.testBit_two_pow_mul_add hi (b := 2 ^ k * 1 + lo) (i := k + 1) (by omega) j, Nat.testBit_two_pow_mul_add 1 (b := lo) (i := k) hlo j, Nat.testBit_two_pow_mul_add hi (b := lo) (i := k + 1) (by omega) j]
  by_cases h1 : j < k
  · have : ¬ j = k := by omega
    simp [h1, this, show j < k + 1 by omega]
  · by_cases h2 : j = k
    · subst h2; simp
    · have : ¬ j < k + 1 := by omega
      simp [this, h2]
theorem sum_bits : ∀ (ks : List Nat), ks.Nodup → ∀ j, ((ks.map fun k => 2 ^ k).sum).testBit j = decide (j ∈ ks)
  | [], _, j => by simp
  | k :: ks, h, j => by
    obtain ⟨h1, h2⟩ := List.nodup_cons.mp h
    have ih := sum_bits ks h2
    rw [List.map_cons, List.sum_cons, add_pow (by rw [ih k]; simpa using h1), ih j]
    simp
end DL

set_option maxHeartbeats 1000000
namespace DL
open PySem PySem.Spec PyProof.Rows L2
def rowIs (d : D) (gs : List Int) : Prop := d = .tup (gs.map D.int) ∨ d = .lst (gs.map D.int)
structure Gr (A : List D) (n : Nat) (sc : Int → List Int) : Prop where
  len : A.length = n
  row : ∀ k : Int, 0 ≤ k → k < n → ∃ d, atI A k = some d ∧ rowIs d (sc k)
  go : ∀ k : Int, 0 ≤ k → k < n → ∀ g ∈ sc k, 0 ≤ g ∧ g < n
  few : ∀ k : Int, 0 ≤ k → k < n → (sc k).length ≤ 1000
  n1000 : n ≤ 1000
theorem inV_ints (k : Int) (gs : List Int) : inV (.int k) (gs.map V.int) = decide (k ∈ gs) := by
  unfold inV
  induction gs with
  | nil => rfl
  | cons g gs ih =>
    rw [List.map_cons, List.any_cons, ih]
    show ((g == k) || decide (k ∈ gs)) = _
    by_cases h : g = k
    · subst h; simp
    · have : ¬ k = g := fun z => h z.symm
      simp [h, this]
@[simp] theorem inQ_lst (k : Int) (gs : List Int) : inQ (.int k) (.lst (gs.map D.int)) = some (.bl (decide (k ∈ gs))) := by
  simp [flats_ints, inV_ints]
@[simp] theorem inQ_tup (k : Int) (gs : List Int) : inQ (.int k) (.tup (gs.map D.int)) = some (.bl (decide (k ∈ gs))) := by
  simp [flats_ints, inV_ints]
theorem inQ_row {d : D} {gs : List Int} (h : rowIs d gs) (k : Int) : inQ (.int k) d = some (.bl (decide (k ∈ gs))) := by
  rcases h with rfl | rfl
  · exact inQ_tup k gs
  · exact inQ_lst k gs
theorem lc_filt {ρ : Env} {b : Bag} {T : BF} {F : EF} {i : Nat} (p : Int → Bool) (f : Int → D) : ∀ (is : List Int), (∀ k ∈ is, T (ρ.set i (some (.sh (.int k)))) b = .ok (p k) b) → (∀ k ∈ is, p k = true → F (ρ.set i (some (.sh (.int k)))) b = .ok (f k) b) →
    lcD (gN i) T F (is.map D.int) ρ b = .ok ((is.filter p).map f) b
  | [], _, _ => rfl
  | k :: is, h1, h2 => by
    have ih := lc_filt p f is (fun k hk => h1 k (List.mem_cons_of_mem _ hk)) (fun k hk => h2 k (List.mem_cons_of_mem _ hk))
    have e1 := h1 k List.mem_cons_self
    rw [List.map_cons]
    unfold lcD
    simp only [gN]
    rw [e1]
    simp only [noex_ok_, bind_ok_]
    by_cases hp : p k = true
    · rw [if_pos hp, h2 k List.mem_cons_self hp, List.filter_cons_of_pos hp]
      simp [ih]
    · rw [if_neg hp, List.filter_cons_of_neg hp, ih]
abbrev dcN (ns : List Int) (f : Int → Nat) : D := .dct (ns.map Sum.inl) (ns.map fun k => .int (f k))
theorem look_map (g : Int → D) {a : Int} : ∀ {ns : List Int}, a ∈ ns → lookK (ns.map Sum.inl) (ns.map g) (Sum.inl a : Key) = some (g a)
  | [], h => by cases h
  | k :: ns, h => by
    rw [List.map_cons, List.map_cons]
    unfold lookK
    by_cases hk : k = a
    · subst hk; simp
    · have : ¬ (Sum.inl k : Key) = Sum.inl a := fun z => hk (Sum.inl.inj z)
      rw [if_neg this]
      exact look_map g ((List.mem_cons.mp h).resolve_left fun z => hk z.symm)
theorem set_map (g : Int → D) (a : Int) (e : D) : ∀ (ns : List Int), setK (ns.map Sum.inl) (ns.map g) (Sum.inl a : Key) e = ns.map fun k => if k = a then e else g k
  | [] => rfl
  | k :: ns => by
    rw [List.map_cons, List.map_cons]
    unfold setK
    rw [set_map g a e ns, List.map_cons]
    by_cases hk : k = a
    · subst hk; simp
    · have : ¬ (Sum.inl k : Key) = Sum.inl a := fun z => hk (Sum.inl.inj z)
      rw [if_neg this, if_neg hk]
theorem has_map (a : Int) (ns : List Int) : ((ns.map (Sum.inl : Int → Key)).any fun k => decide (k = Sum.inl a)) = decide (a ∈ ns) := by
  induction ns with
  | nil => rfl
  | cons k ns ih =>
    rw [List.map_cons, List.any_cons, ih]
    by_cases hk : k = a
    · subst hk; simp
    · have : ¬ (Sum.inl k : Key) = Sum.inl a := fun z => hk (Sum.inl.inj z)
      have h2 : ¬ a = k := fun z => hk z.symm
      simp [this, h2]
theorem put_new {ns : List Int} {g : Int → D} {a : Int} {e : D} (h : a ∉ ns) : putD (ns.map Sum.inl) (ns.map g) (Sum.inl a : Key) e = .dct ((ns ++ [a]).map Sum.inl) (ns.map g ++ [e]) := by
  unfold putD
  rw [has_map, if_neg (by simpa using h)]
  simp
theorem put_old {ns : List Int} {g : Int → D} {a : Int} {e : D} (h : a ∈ ns) : putD (ns.map Sum.inl) (ns.map g) (Sum.inl a : Key) e = .dct (ns.map Sum.inl) (ns.map fun k => if k = a then e else g k) := by
  unfold putD
  rw [has_map, if_pos (by simpa using h), set_map]
section
variable {sc : Int → List Int} {mid mid' : Int → Prop}
theorem via_more {m a b : Int} : Via sc (fun x => mid x ∨ x = m) a b ↔ Via sc mid a b ∨ (Via sc mid a m ∧ Via sc mid m b) := by
  refine ⟨Via.split, fun h => ?_⟩
  rcases h with h | ⟨h1, h2⟩
  · exact h.mono fun _ => .inl
  · exact (h1.mono fun _ => .inl).trans (.inr rfl) (h2.mono fun _ => .inl)
theorem via_pth {a b : Int} : Pth sc mid a b ↔ Via sc mid a b ∧ mid b := by
  constructor
  · intro h
    induction h with
    | one h1 h2 => exact ⟨.one h1, h2⟩
    | step h1 h2 _ ih => exact ⟨.step h1 h2 ih.1, ih.2⟩
  · rintro ⟨h, hb⟩
    induction h with
    | one h1 => exact .one h1 hb
    | step h1 h2 _ ih => exact .step h1 h2 (ih hb)
theorem via_none {a b : Int} : Via sc (fun _ => False) a b ↔ b ∈ sc a := by
  constructor
  · intro h
    cases h with
    | one h1 => exact h1
    | step _ h2 _ => exact h2.elim
  · exact .one
end
theorem sum_cast (ks : List Nat) : (ks.map fun k => ((2 ^ k : Nat) : Int)).sum = ((ks.map fun k => 2 ^ k).sum : Nat) := by
  induction ks with
  | nil => rfl
  | cons k ks ih => rw [List.map_cons, List.sum_cons, ih, List.map_cons, List.sum_cons]; omega
end DL

set_option maxHeartbeats 1000000
namespace DL
open PySem PySem.Spec PyProof.Rows L2
theorem nd_take : ∀ {l : List Int} {i : Nat} {k : Int}, l.Nodup → l[i]? = some k → k ∉ l.take i
  | [], _, _, _, h => by simp at h
  | a :: l, 0, _, _, _ => by simp
  | a :: l, i + 1, k, nd, h => by
    obtain ⟨h1, h2⟩ := List.nodup_cons.mp nd
    have h3 : l[i]? = some k := by simpa using h
    rw [List.take_succ_cons]
    intro hm
    rcases List.mem_cons.mp hm with rfl | hm
    · exact h1 (List.mem_of_getElem? h3)
    · exact nd_take h2 h3 hm
section
variable {A : List D} {n : Nat} {sc : Int → List Int} (G : Gr A n sc) {ns : List Int} (N : Ns n ns)
include G N
/-- the bits of the next numbers -/
def bit0 (sc : Int → List Int) (ns : List Int) (k : Int) : Nat := ((ns.filter fun j => decide (j ∈ sc k)).map fun j => 2 ^ j.toNat).sum
omit G in
theorem bit0_ok {k j : Int} (hj : 0 ≤ j) : (bit0 sc ns k).testBit j.toNat = decide (j ∈ ns ∧ j ∈ sc k) := by
  have nd : ((ns.filter fun j => decide (j ∈ sc k)).map Int.toNat).Nodup := by
    have h1 : (ns.filter fun j => decide (j ∈ sc k)).Nodup := N.nd.filter _
    have h2 : ∀ x ∈ (ns.filter fun j => decide (j ∈ sc k)), 0 ≤ x := fun x hx => (N.lo x (List.mem_filter.mp hx).1).1
    clear N
    generalize ns.filter (fun j => decide (j ∈ sc k)) = l at h1 h2
    induction l with
    | nil => exact List.nodup_nil
    | cons a l ih =>
      obtain ⟨p, q⟩ := List.nodup_cons.mp h1
      rw [List.map_cons]
      refine List.nodup_cons.mpr ⟨fun hm => ?_, ih q fun x hx => h2 x (List.mem_cons_of_mem _ hx)⟩
      obtain ⟨y, hy, e⟩ := List.mem_map.mp hm
      have z1 := h2 a List.mem_cons_self
      have z2 := h2 y (List.mem_cons_of_mem _ hy)
      have : y = a := by omega
      subst this
      exact p hy
  have e : bit0 sc ns k = (((ns.filter fun j => decide (j ∈ sc k)).map Int.toNat).map fun j => 2 ^ j).sum := by
    unfold bit0
    rw [List.map_map]
    rfl
  rw [e, sum_bits _ nd]
  by_cases h : j ∈ ns ∧ j ∈ sc k
  · rw [decide_eq_true h, decide_eq_true]
    exact List.mem_map.mpr ⟨j, List.mem_filter.mpr ⟨h.1, by simpa using h.2⟩, rfl⟩
  · rw [decide_eq_false h, decide_eq_false]
    intro hm
    obtain ⟨i, hi, e⟩ := List.mem_map.mp hm
    obtain ⟨i1, i2⟩ := List.mem_filter.mp hi
    have := (N.lo i i1).1
    have : i = j := by omega
    subst this
    exact h ⟨i1, by simpa using i2⟩
theorem bits1_ok (o3 : Option D) (b : Bag) : ∃ o3' : Option D, loopD (gN 3) (sDput 2 (eV 3) (eB sumF (aCons (eLc (aAny (eV 1)) [5] (gN 5) (bB (e2 inQ (eV 5) (eIx (eV 0) (eV 3)))) (e2 shlF (eC (.int 1)) (eV 5))) aNil))) (ns.map D.int) [some (.sh (.lst A)), some (.sh (.lst (ns.map D.int))), some (.ow (.dct [] [])), o3.map SD.sh, none, none] b =
    .nx [some (.sh (.lst A)), some (.sh (.lst (ns.map D.int))), some (.ow (dcN ns (bit0 sc ns))), o3'.map SD.sh, none, none] b := by
  have hnl := N.len
  have n1000 := G.n1000
  obtain ⟨ρ', b', f1, o3', f2, f3⟩ := loop_ind (g := gN 3) (B := (sDput 2 (eV 3) (eB sumF (aCons (eLc (aAny (eV 1)) [5] (gN 5) (bB (e2 inQ (eV 5) (eIx (eV 0) (eV 3)))) (e2 shlF (eC (.int 1)) (eV 5))) aNil))))
    (fun i ρ b' => ∃ o3 : Option D, ρ = [some (.sh (.lst A)), some (.sh (.lst (ns.map D.int))), some (.ow (dcN (ns.take i) (bit0 sc ns))), o3.map SD.sh, none, none] ∧ b' = b)
    (ns.map D.int) 0 (fun i d hd ρ b' ⟨o3, g1, g2⟩ => by
      subst g1 g2
      rw [List.getElem?_map, Option.map_eq_some_iff] at hd
      obtain ⟨k, hk, rfl⟩ := hd
      simp only [Nat.zero_add]
      have hkm := List.mem_of_getElem? hk
      obtain ⟨k0, k1⟩ := N.lo k hkm
      obtain ⟨dr, r1, r2⟩ := G.row k k0 k1
      have hf := lc_filt (i := 5) (b := b') (ρ := [some (.sh (.lst A)), some (.sh (.lst (ns.map D.int))), none, some (.sh (.int k)), none, none])
        (T := (bB (e2 inQ (eV 5) (eIx (eV 0) (eV 3))))) (F := (e2 shlF (eC (.int 1)) (eV 5))) (fun j => decide (j ∈ sc k)) (fun j => .int (2 ^ j.toNat)) ns (fun j hj => by
          have := inQ_row r2 j
          simp [-inQ, r1, this]) (fun j hj _ => by
          obtain ⟨j0, j1⟩ := N.lo j hj
          have : j ≤ 1000 := by omega
          simp [j0, this])
      have hs : sumF [.lst ((ns.filter fun j => decide (j ∈ sc k)).map fun j => D.int (2 ^ j.toNat))] = some (.int (bit0 sc ns k)) := by
        unfold sumF bit0
        have e1 : (ns.filter fun j => decide (j ∈ sc k)).map (fun j => D.int (2 ^ j.toNat)) = ((ns.filter fun j => decide (j ∈ sc k)).map fun j => (2 : Int) ^ j.toNat).map D.int := by rw [List.map_map]; rfl
        rw [e1]
        show ((intsD (List.map D.int _)).map fun is => D.int is.sum) = _
        rw [ints_map, Option.map_some]
        congr 2
        generalize (ns.filter fun j => decide (j ∈ sc k)) = l
        have := sum_cast (l.map Int.toNat)
        rw [List.map_map, List.map_map] at this
        rw [show (l.map fun j => (2 : Int) ^ j.toNat) = l.map ((fun k => ((2 ^ k : Nat) : Int)) ∘ Int.toNat) from List.map_congr_left fun j _ => by show (2 : Int) ^ j.toNat = ((2 ^ j.toNat : Nat) : Int); rw [Int.natCast_pow]; rfl]
        rw [this]
        rfl
      have hnew : k ∉ ns.take i := nd_take N.nd hk
      have hp := put_new (g := fun k => D.int (bit0 sc ns k)) (e := .int (bit0 sc ns k)) hnew
      have et : ns.take (i + 1) = ns.take i ++ [k] := by rw [List.take_add_one, hk]; rfl
      have hl1 : ns.length ≤ 100000 := by omega
      have hl2 : (ns.take i).length ≤ 100000 := by rw [List.length_take]; omega
      have hl3 : min i ns.length ≤ 100000 := by omega
      refine ⟨_, _, b', rfl, ?_, some (.int k), rfl, rfl⟩
      rw [et]
      simp [-inQ, -List.map_take, hl1, hl3, hf, hs]
      rw [hp]
      simp) [some (.sh (.lst A)), some (.sh (.lst (ns.map D.int))), some (.ow (.dct [] [])), o3.map SD.sh, none, none] b ⟨o3, by simp, rfl⟩
  subst f2 f3
  refine ⟨o3', ?_⟩
  rw [f1]
  simp
end
end DL

set_option maxHeartbeats 1000000
namespace DL
open PySem PySem.Spec PyProof.Rows L2
theorem dcN_congr {ns : List Int} {f g : Int → Nat} (h : ∀ k ∈ ns, f k = g k) : dcN ns f = dcN ns g := by
  unfold dcN
  congr 1
  exact List.map_congr_left fun k hk => by rw [h k hk]
def updB (β : Int → Nat) (m : Int) (k : Int) : Nat := if (β k).testBit m.toNat = true then β k ||| β m else β k
theorem updB_self (β : Int → Nat) (m : Int) : updB β m m = β m := by
  unfold updB
  split
  · exact Nat.or_self _
  · rfl
def bInn : SF := (sIf (bT (e2 bandF (e2 shrF (eDgOw 2 (eV 3)) (eV 4)) (eC (.int 1)))) (sDput 2 (eV 3) (e2 borF (eDgOw 2 (eV 3)) (eDgOw 2 (eV 4)))) sNil)
theorem bits_step (s0 s1 : Option SD) (b : Bag) {ns : List Int} (hl : ns.length ≤ 100000) (γ : Int → Nat) {k m : Int} (hk : k ∈ ns) (hm : m ∈ ns) (m0 : 0 ≤ m) : bInn [s0, s1, some (.ow (dcN ns γ)), some (.sh (.int k)), some (.sh (.int m)), none] b =
    .nx [s0, s1, some (.ow (dcN ns (fun j => if j = k then updB γ m k else γ j))), some (.sh (.int k)), some (.sh (.int m)), none] b := by
  have l1 := look_map (fun k => D.int (γ k)) hk
  have l2 := look_map (fun k => D.int (γ k)) hm
  have hb := shr_nat (γ k) m.toNat
  have ha := band_nat (γ k / 2 ^ m.toNat) 1
  have ho := bor_nat (γ k) (γ m)
  have ht := test_bit (γ k) m.toNat
  have e1 : (Builtin.bitAnd ((γ k : Int) / 2 ^ m.toNat) 1) = (((γ k / 2 ^ m.toNat) &&& 1 : Nat) : Int) := by rw [hb]; exact ha
  have e2' : ((((γ k / 2 ^ m.toNat) &&& 1 : Nat) : Int) != 0) = (γ k).testBit m.toNat := by
    rw [← ht]
    generalize (γ k / 2 ^ m.toNat) &&& 1 = z
    cases z <;> rfl
  have hmod : (γ k : Int) / 2 ^ m.toNat % 2 = ((γ k / 2 ^ m.toNat % 2 : Nat) : Int) := by rw [hb]; rfl
  by_cases hbit : (γ k).testBit m.toNat = true
  · have hm1 : (γ k : Int) / 2 ^ m.toNat % 2 = 1 := by
      rw [Nat.testBit_eq_decide_div_mod_eq] at hbit
      rw [hmod, of_decide_eq_true hbit]; rfl
    have hp := put_old (g := fun k => D.int (γ k)) (e := .int ((γ k ||| γ m : Nat) : Int)) hk
    have hd : dcN ns (fun j => if j = k then updB γ m k else γ j) = .dct (ns.map Sum.inl) (ns.map fun j => if j = k then .int ((γ k ||| γ m : Nat) : Int) else .int (γ j)) := by
      unfold dcN
      congr 1
      apply List.map_congr_left
      intro j _
      by_cases hj : j = k
      · subst hj
        have : updB γ m j = γ j ||| γ m := by unfold updB; rw [if_pos hbit]
        simp [this]
      · simp [hj]
    rw [hd]
    unfold bInn
    simp [l1, l2, m0, e1, hm1, ho, hl, hp]
  · have hbit : (γ k).testBit m.toNat = false := by simpa using hbit
    have hm1 : (γ k : Int) / 2 ^ m.toNat % 2 = 0 := by
      have h := hbit
      rw [Nat.testBit_eq_decide_div_mod_eq] at h
      have h := of_decide_eq_false h
      have := Nat.mod_two_eq_zero_or_one (γ k / 2 ^ m.toNat)
      rw [hmod, show γ k / 2 ^ m.toNat % 2 = 0 by omega]; rfl
    have hd : dcN ns (fun j => if j = k then updB γ m k else γ j) = dcN ns γ := dcN_congr fun j _ => by
      by_cases hj : j = k
      · subst hj
        have : updB γ m j = γ j := by unfold updB; rw [if_neg (by rw [hbit]; decide)]
        simp [this]
      · simp [hj]
    rw [hd]
    unfold bInn
    simp [l1, l2, m0, e1, hm1]
section
variable {A : List D} {n : Nat} {sc : Int → List Int} (G : Gr A n sc) {ns : List Int} (N : Ns n ns)
include N G
theorem bits2_ok (β : Int → Nat) {m : Int} (hm : m ∈ ns) (o3 : Option D) (b : Bag) : ∃ o3' : Option D, loopD (gN 3) bInn (ns.map D.int) [some (.sh (.lst A)), some (.sh (.lst (ns.map D.int))), some (.ow (dcN ns β)), o3.map SD.sh, some (.sh (.int m)), none] b =
    .nx [some (.sh (.lst A)), some (.sh (.lst (ns.map D.int))), some (.ow (dcN ns (updB β m))), o3'.map SD.sh, some (.sh (.int m)), none] b := by
  obtain ⟨m0, m1⟩ := N.lo m hm
  have hl : ns.length ≤ 100000 := by have := N.len; have := G.n1000; omega
  obtain ⟨ρ', b', f1, ⟨o3', γ, f2, f4⟩, f3⟩ := loop_ind (g := gN 3) (B := bInn)
    (fun i ρ b' => (∃ (o3 : Option D) (γ : Int → Nat), ρ = [some (.sh (.lst A)), some (.sh (.lst (ns.map D.int))), some (.ow (dcN ns γ)), o3.map SD.sh, some (.sh (.int m)), none] ∧ ∀ k ∈ ns, γ k = if k ∈ ns.take i then updB β m k else β k) ∧ b' = b)
    (ns.map D.int) 0 (fun i d hd ρ b' ⟨⟨o3, γ, g1, g3⟩, g2⟩ => by
      subst g1 g2
      rw [List.getElem?_map, Option.map_eq_some_iff] at hd
      obtain ⟨k, hk, rfl⟩ := hd
      rw [Nat.zero_add] at g3 ⊢
      have hkm := List.mem_of_getElem? hk
      have hnew : k ∉ ns.take i := nd_take N.nd hk
      have et : ns.take (i + 1) = ns.take i ++ [k] := by rw [List.take_add_one, hk]; rfl
      have ek : γ k = β k := by rw [g3 k hkm, if_neg hnew]
      have em : γ m = β m := by rw [g3 m hm, updB_self]; split <;> rfl
      refine ⟨_, _, b', rfl, bits_step _ _ b' hl γ hkm hm m0, ⟨some (.int k), _, rfl, fun j hj => ?_⟩, rfl⟩
      show (if j = k then updB γ m k else γ j) = _
      rw [et]
      by_cases hjk : j = k
      · subst hjk
        have : updB γ m j = updB β m j := by unfold updB; rw [ek, em]
        simp [this]
      · rw [if_neg hjk, g3 j hj]
        simp [hjk]) _ b ⟨⟨o3, β, rfl, fun k hk => by simp⟩, rfl⟩
  subst f2 f3
  refine ⟨o3', ?_⟩
  rw [f1]
  have : dcN ns γ = dcN ns (updB β m) := dcN_congr fun k hk => by
    rw [f4 k hk, Nat.zero_add, List.length_map, List.take_length, if_pos hk]
  rw [this]
theorem bits_ok (b : Bag) : ∃ β : Int → Nat, F_bits_ahead [.lst A, .lst (ns.map D.int)] b = .ok (dcN ns β) b ∧ ∀ k ∈ ns, ∀ j ∈ ns, ((β k).testBit j.toNat = true ↔ Pth sc (· ∈ ns) k j) := by
  obtain ⟨o3, h1⟩ := bits1_ok G N none b
  obtain ⟨ρ', b', f1, ⟨o3', o4', β, f2, f4⟩, f3⟩ := loop_ind (g := gN 4) (B := sFor (aAny (eV 1)) (gN 3) bInn)
    (fun i ρ b' => (∃ (o3 o4 : Option D) (β : Int → Nat), ρ = [some (.sh (.lst A)), some (.sh (.lst (ns.map D.int))), some (.ow (dcN ns β)), o3.map SD.sh, o4.map SD.sh, none] ∧ ∀ k ∈ ns, ∀ j ∈ ns, ((β k).testBit j.toNat = true ↔ Via sc (· ∈ ns.take i) k j)) ∧ b' = b)
    (ns.map D.int) 0 (fun i d hd ρ b' ⟨⟨o3, o4, β, g1, g3⟩, g2⟩ => by
      subst g1 g2
      rw [List.getElem?_map, Option.map_eq_some_iff] at hd
      obtain ⟨m, hm, rfl⟩ := hd
      rw [Nat.zero_add] at g3 ⊢
      have hmm := List.mem_of_getElem? hm
      have et : ns.take (i + 1) = ns.take i ++ [m] := by rw [List.take_add_one, hm]; rfl
      obtain ⟨o3', h2⟩ := bits2_ok G N β hmm o3 b'
      refine ⟨_, _, b', rfl, ?_, ⟨o3', some (.int m), updB β m, rfl, fun k hk j hj => ?_⟩, rfl⟩
      · simp [sFor]
        exact h2
      · have e : Via sc (· ∈ ns.take (i + 1)) k j ↔ Via sc (fun x => x ∈ ns.take i ∨ x = m) k j := by
          rw [et]
          exact ⟨fun h => h.mono fun x hx => by simpa using hx, fun h => h.mono fun x hx => by simpa using hx⟩
        rw [e, via_more]
        unfold updB
        have a1 := g3 k hk j hj
        have a2 := g3 k hk m hmm
        have a3 := g3 m hmm j hj
        by_cases hb : (β k).testBit m.toNat = true
        · rw [if_pos hb, Nat.testBit_or, Bool.or_eq_true, a1, a3]
          have := a2.mp hb
          exact ⟨fun h => h.elim .inl fun z => .inr ⟨this, z⟩, fun h => h.elim .inl fun z => .inr z.2⟩
        · rw [if_neg hb, a1]
          exact ⟨.inl, fun h => h.elim id fun z => absurd (a2.mpr z.1) hb⟩) _ b ⟨⟨o3, none, bit0 sc ns, rfl, fun k hk j hj => by
        rw [bit0_ok N (N.lo j hj).1]
        have : Via sc (· ∈ ns.take 0) k j ↔ Via sc (fun _ => False) k j := ⟨fun h => h.mono fun x hx => by simp at hx, fun h => h.mono fun _ hx => hx.elim⟩
        rw [this, via_none]
        simp [hj]⟩, rfl⟩
  subst f2 f3
  refine ⟨β, ?_, fun k hk j hj => ?_⟩
  · unfold F_bits_ahead G_bits_ahead
    unfold bInn at f1
    simp [sFor] at h1 f1 ⊢
    simp [h1]
    simp [sFor, f1]
  · rw [f4 k hk j hj, Nat.zero_add, List.length_map, List.take_length, via_pth]
    exact ⟨fun h => ⟨h, hj⟩, fun h => h.1⟩
end
end DL

set_option maxHeartbeats 1000000
namespace DL
open PySem PySem.Spec PyProof.Rows L2
def hds (ns : List Int) (β : Int → Nat) : List Int := ns.filter fun a => decide ((cls ns β a).head? = some a)
structure GLs (sc : Int → List Int) (ns : List Int) (Ls : List (List Int)) : Prop where
  ne : ∀ l ∈ Ls, l ≠ []
  sub : ∀ l ∈ Ls, ∀ x ∈ l, x ∈ ns
  nd : ∀ l ∈ Ls, l.Nodup
  hang : ∀ l ∈ Ls, SC sc (· ∈ l)
  all : ∀ S : Int → Prop, (∃ a, S a) → SC sc S → (∀ a, S a → a ∈ ns) → ∃ l ∈ Ls, ∀ a, S a → a ∈ l
  few : (Ls.map List.length).sum ≤ ns.length
theorem filt_one {p : Int → Bool} : ∀ {hs : List Int}, hs.Nodup → (∀ a ∈ hs, ∀ a' ∈ hs, p a = true → p a' = true → a = a') → (hs.filter p).length ≤ 1
  | [], _, _ => by simp
  | a :: hs, nd, h => by
    obtain ⟨h1, h2⟩ := List.nodup_cons.mp nd
    by_cases hp : p a = true
    · rw [List.filter_cons_of_pos hp]
      have : hs.filter p = [] := by
        rw [List.filter_eq_nil_iff]
        intro b hb hpb
        have := h a List.mem_cons_self b (List.mem_cons_of_mem _ hb) hp hpb
        subst this
        exact h1 hb
      rw [this]
      simp
    · rw [List.filter_cons_of_neg hp]
      exact filt_one h2 fun b hb c hc => h b (List.mem_cons_of_mem _ hb) c (List.mem_cons_of_mem _ hc)
theorem sum_step (f : Int → Int → Bool) (k : Int) (ns : List Int) : ∀ hs : List Int, (hs.map fun a => ((k :: ns).filter (f a)).length).sum = (hs.map fun a => (ns.filter (f a)).length).sum + (hs.filter fun a => f a k).length
  | [] => rfl
  | a :: hs => by
    rw [List.map_cons, List.sum_cons, sum_step f k ns hs, List.map_cons, List.sum_cons]
    by_cases hp : f a k = true
    · rw [List.filter_cons_of_pos hp, List.filter_cons_of_pos (p := fun a => f a k) hp, List.length_cons, List.length_cons]; omega
    · rw [List.filter_cons_of_neg hp, List.filter_cons_of_neg (p := fun a => f a k) hp]; omega
theorem sum_cls (f : Int → Int → Bool) {hs : List Int} (nd : hs.Nodup) : ∀ ns : List Int, (∀ k ∈ ns, ∀ a ∈ hs, ∀ a' ∈ hs, f a k = true → f a' k = true → a = a') → (hs.map fun a => (ns.filter (f a)).length).sum ≤ ns.length
  | [], _ => by
    have : ∀ hs : List Int, (hs.map fun a => (([] : List Int).filter (f a)).length).sum = 0 := fun hs => by
      induction hs with
      | nil => rfl
      | cons a hs ih => rw [List.map_cons, List.sum_cons, ih]; rfl
    rw [this]
    exact Nat.zero_le _
  | k :: ns, h => by
    rw [sum_step, List.length_cons]
    have h1 := sum_cls f nd ns fun j hj => h j (List.mem_cons_of_mem _ hj)
    have h2 := filt_one (p := fun a => f a k) nd (h k List.mem_cons_self)
    omega
theorem gls_of {n : Nat} {sc : Int → List Int} {ns : List Int} (N : Ns n ns) {β : Int → Nat} (hβ : ∀ k ∈ ns, ∀ j ∈ ns, ((β k).testBit j.toNat = true ↔ Pth sc (· ∈ ns) k j)) : GLs sc ns ((hds ns β).map (cls ns β)) := by
  have hb : ∀ a ∈ ns, ∀ k ∈ ns, (bth β a k = true ↔ Pth sc (· ∈ ns) a k ∧ Pth sc (· ∈ ns) k a) := fun a ha k hk => by
    unfold bth
    rw [Bool.and_eq_true, hβ a ha k hk, hβ k hk a ha]
  have hm : ∀ a ∈ ns, ∀ k, (k ∈ cls ns β a ↔ k ∈ ns ∧ Pth sc (· ∈ ns) a k ∧ Pth sc (· ∈ ns) k a) := fun a ha k => by
    unfold cls
    rw [List.mem_filter]
    exact ⟨fun h => ⟨h.1, (hb a ha k h.1).mp h.2⟩, fun h => ⟨h.1, (hb a ha k h.1).mpr h.2⟩⟩
  have hsame : ∀ a ∈ ns, ∀ c ∈ cls ns β a, cls ns β c = cls ns β a := fun a ha c hc => by
    obtain ⟨c1, c2, c3⟩ := (hm a ha c).mp hc
    unfold cls
    apply List.filter_congr
    intro k hk
    rw [Bool.eq_iff_iff, hb c c1 k hk, hb a ha k hk]
    exact ⟨fun h => ⟨c2.trans h.1, h.2.trans c3⟩, fun h => ⟨c3.trans h.1, h.2.trans c2⟩⟩
  have hh : ∀ a, a ∈ hds ns β ↔ a ∈ ns ∧ (cls ns β a).head? = some a := fun a => by
    unfold hds
    rw [List.mem_filter, decide_eq_true_eq]
  have hself : ∀ a ∈ hds ns β, a ∈ ns ∧ a ∈ cls ns β a := fun a ha => by
    obtain ⟨h1, h2⟩ := (hh a).mp ha
    exact ⟨h1, List.mem_of_mem_head? h2⟩
  have hl : ∀ l ∈ (hds ns β).map (cls ns β), ∃ a, a ∈ ns ∧ a ∈ cls ns β a ∧ l = cls ns β a := fun l h => by
    obtain ⟨a, ha, rfl⟩ := List.mem_map.mp h
    obtain ⟨h1, h2⟩ := hself a ha
    exact ⟨a, h1, h2, rfl⟩
  refine ⟨fun l h e => ?_, fun l h x hx => ?_, fun l h => ?_, fun l h x y hx hy => ?_, fun S ⟨a, ha⟩ hS hSn => ?_, ?_⟩
  · obtain ⟨a, _, h2, rfl⟩ := hl l h
    rw [e] at h2
    cases h2
  · obtain ⟨a, h1, _, rfl⟩ := hl l h
    exact ((hm a h1 x).mp hx).1
  · obtain ⟨a, h1, _, rfl⟩ := hl l h
    exact N.nd.filter _
  · obtain ⟨a, h1, _, rfl⟩ := hl l h
    obtain ⟨_, x2, x3⟩ := (hm a h1 x).mp hx
    obtain ⟨_, y2, y3⟩ := (hm a h1 y).mp hy
    exact ((x3.trans y2).within x2 y3).mono fun c hc => (hm a h1 c).mpr hc
  · have han := hSn a ha
    have hin : ∀ b, S b → b ∈ cls ns β a := fun b hb => (hm a han b).mpr ⟨hSn b hb, (hS a b ha hb).mono hSn, (hS b a hb ha).mono hSn⟩
    have hne : cls ns β a ≠ [] := fun e => by
      have := hin a ha
      rw [e] at this
      cases this
    obtain ⟨c, hc⟩ : ∃ c, (cls ns β a).head? = some c := by
      cases h : cls ns β a with
      | nil => exact absurd h hne
      | cons c l => exact ⟨c, rfl⟩
    have hcm := List.mem_of_mem_head? hc
    have e := hsame a han c hcm
    have hcn := ((hm a han c).mp hcm).1
    refine ⟨cls ns β c, List.mem_map.mpr ⟨c, (hh c).mpr ⟨hcn, by rw [e]; exact hc⟩, rfl⟩, fun b hb => ?_⟩
    rw [e]
    exact hin b hb
  · rw [List.map_map]
    refine sum_cls (bth β) (N.nd.filter _) ns fun k hk a ha a' ha' h1 h2 => ?_
    obtain ⟨a1, a2⟩ := (hh a).mp ha
    obtain ⟨b1, b2⟩ := (hh a').mp ha'
    have ka : k ∈ cls ns β a := List.mem_filter.mpr ⟨hk, h1⟩
    have kb : k ∈ cls ns β a' := List.mem_filter.mpr ⟨hk, h2⟩
    have e : cls ns β a = cls ns β a' := by rw [← hsame a a1 k ka, hsame a' b1 k kb]
    rw [e, b2] at a2
    exact (Option.some.inj a2).symm
def bGL : SF := (sSeq (sAsg (eLc (aAny (eV 1)) [6] (gN 6) (bT (e2 bandF (e2 bandF (e2 shrF (eDg (eV 2) (eV 4)) (eV 6)) (e2 shrF (eDg (eV 2) (eV 6)) (eV 4))) (eC (.int 1)))) (eV 6)) (gN 5)) (sIf (bAnd (bT (eV 5)) (bB (e2 eqF (eIx (eV 5) (eC (.int 0))) (eV 4)))) (sPush 3 (eV 5)) sNil))
def lD (l : List Int) : D := .lst (l.map D.int)
theorem and_bit (x y i j : Nat) : (((x / 2 ^ i) &&& (y / 2 ^ j)) % 2 = 1) ↔ (x.testBit i && y.testBit j) = true := by
  have h := Nat.testBit_and (x / 2 ^ i) (y / 2 ^ j) 0
  rw [Nat.testBit_eq_decide_div_mod_eq, Nat.testBit_div_two_pow, Nat.testBit_div_two_pow, Nat.pow_zero, Nat.div_one, Nat.zero_add, Nat.zero_add] at h
  rw [← h, decide_eq_true_eq]
section
variable {A : List D} {n : Nat} {sc : Int → List Int} (G : Gr A n sc) {ns : List Int} (N : Ns n ns)
include N G
theorem gl_step (β : Int → Nat) {a : Int} (ha : a ∈ ns) (fs : List (List Int)) (hf : fs.length ≤ 100000) (o5 : Option D) (b : Bag) : bGL [some (.sh (.lst A)), some (.sh (.lst (ns.map D.int))), some (.sh (dcN ns β)), some (.ow (.lst (fs.map lD))), some (.sh (.int a)), o5.map SD.sh, none] b =
    .nx [some (.sh (.lst A)), some (.sh (.lst (ns.map D.int))), some (.sh (dcN ns β)), some (.ow (.lst ((fs ++ if (cls ns β a).head? = some a then [cls ns β a] else []).map lD))), some (.sh (.int a)), some (.sh (lD (cls ns β a))), none] b := by
  obtain ⟨a0, a1⟩ := N.lo a ha
  have hl : ns.length ≤ 100000 := by have := N.len; have := G.n1000; omega
  have h := lc_filt (i := 6) (b := b) (ρ := [some (.sh (.lst A)), some (.sh (.lst (ns.map D.int))), some (.sh (dcN ns β)), none, some (.sh (.int a)), o5.map SD.sh, none])
    (T := (bT (e2 bandF (e2 bandF (e2 shrF (eDg (eV 2) (eV 4)) (eV 6)) (e2 shrF (eDg (eV 2) (eV 6)) (eV 4))) (eC (.int 1))))) (F := (eV 6)) (bth β a) D.int ns (fun k hk => by
      obtain ⟨k0, k1⟩ := N.lo k hk
      have l1 := look_map (fun k => D.int (β k)) ha
      have l2 := look_map (fun k => D.int (β k)) hk
      have h1 := shr_nat (β a) k.toNat
      have h2 := shr_nat (β k) a.toNat
      have h3 := band_nat (β a / 2 ^ k.toNat) (β k / 2 ^ a.toNat)
      have h4 := band_nat ((β a / 2 ^ k.toNat) &&& (β k / 2 ^ a.toNat)) 1
      have e : Builtin.bitAnd (Builtin.bitAnd ((β a : Int) / 2 ^ k.toNat) ((β k : Int) / 2 ^ a.toNat)) 1 = ((((β a / 2 ^ k.toNat) &&& (β k / 2 ^ a.toNat)) % 2 : Nat) : Int) := by
        rw [h1, h2, h3, ← Nat.and_one_is_mod]
        exact h4
      have e5 : ((((((β a / 2 ^ k.toNat) &&& (β k / 2 ^ a.toNat)) % 2 : Nat) : Int)) != 0) = bth β a k := by
        rw [Bool.eq_iff_iff]
        have := and_bit (β a) (β k) k.toNat a.toNat
        unfold bth
        rw [← this]
        have := Nat.mod_two_eq_zero_or_one ((β a / 2 ^ k.toNat) &&& (β k / 2 ^ a.toNat))
        rcases this with h | h <;> rw [h] <;> simp
      show (((e2 bandF (e2 bandF (e2 shrF (eDg (eV 2) (eV 4)) (eV 6)) (e2 shrF (eDg (eV 2) (eV 6)) (eV 4))) (eC (.int 1))) _ b).bind _) = _
      rw [show (e2 bandF (e2 bandF (e2 shrF (eDg (eV 2) (eV 4)) (eV 6)) (e2 shrF (eDg (eV 2) (eV 6)) (eV 4))) (eC (.int 1))) ([some (.sh (.lst A)), some (.sh (.lst (ns.map D.int))), some (.sh (dcN ns β)), none, some (.sh (.int a)), o5.map SD.sh, none].set 6 (some (.sh (.int k)))) b = .ok (.int ((((β a / 2 ^ k.toNat) &&& (β k / 2 ^ a.toNat)) % 2 : Nat) : Int)) b by
        rw [← e]
        simp [l1, l2, a0, k0]]
      rw [← e5]
      rfl) (fun k hk _ => by simp)
  have hcl : (ns.filter (bth β a)) = cls ns β a := rfl
  rw [hcl] at h
  unfold bGL lD
  cases hc : cls ns β a with
  | nil =>
    rw [hc] at h
    simp [hl, h]
  | cons c l =>
    rw [hc] at h
    by_cases hca : c = a
    · subst hca
      simp [hl, h, hf]
    · simp [hl, h, hca]
theorem gls_ok (b : Bag) : ∃ Ls, F_greatest_loops [.lst A, .lst (ns.map D.int)] b = .ok (.lst (Ls.map lD)) b ∧ GLs sc ns Ls := by
  obtain ⟨β, h1, h2⟩ := bits_ok G N b
  have hl : ns.length ≤ 1000 := by have := N.len; have := G.n1000; omega
  obtain ⟨ρ', b', f1, ⟨o4, o5, f2⟩, f3⟩ := loop_ind (g := gN 4) (B := bGL)
    (fun i ρ b' => (∃ (o4 o5 : Option D), ρ = [some (.sh (.lst A)), some (.sh (.lst (ns.map D.int))), some (.sh (dcN ns β)), some (.ow (.lst ((((ns.take i).filter fun a => decide ((cls ns β a).head? = some a)).map (cls ns β)).map lD))), o4.map SD.sh, o5.map SD.sh, none]) ∧ b' = b)
    (ns.map D.int) 0 (fun i d hd ρ b' ⟨⟨o4, o5, g1⟩, g2⟩ => by
      subst g1 g2
      rw [List.getElem?_map, Option.map_eq_some_iff] at hd
      obtain ⟨a, ha, rfl⟩ := hd
      rw [Nat.zero_add]
      have ham := List.mem_of_getElem? ha
      have et : ns.take (i + 1) = ns.take i ++ [a] := by rw [List.take_add_one, ha]; rfl
      have hs := gl_step G N β ham (((ns.take i).filter fun a => decide ((cls ns β a).head? = some a)).map (cls ns β)) (by
        rw [List.length_map]
        have := List.length_filter_le (fun a => decide ((cls ns β a).head? = some a)) (ns.take i)
        rw [List.length_take] at this
        omega) o5 b'
      refine ⟨_, _, b', rfl, hs, ⟨some (.int a), some (lD (cls ns β a)), ?_⟩, rfl⟩
      rw [et, List.filter_append, List.map_append]
      by_cases hh : (cls ns β a).head? = some a
      · simp [hh]
      · simp [hh]) [some (.sh (.lst A)), some (.sh (.lst (ns.map D.int))), some (.sh (dcN ns β)), some (.ow (.lst [])), none, none, none] b ⟨⟨none, none, by simp⟩, rfl⟩
  subst f2 f3
  refine ⟨(hds ns β).map (cls ns β), ?_, gls_of N h2⟩
  unfold F_greatest_loops G_greatest_loops
  rw [Nat.zero_add, List.length_map, List.take_length] at f1
  unfold bGL at f1
  simp [h1]
  simp [sFor] at f1 ⊢
  simp [f1, hds]
end
end DL

set_option maxHeartbeats 1000000
namespace DL
open PySem PySem.Spec PyProof.Rows L2
def colL (cs : List Int) (k : Int) : Int := (cs[k.toNat]?).getD 0
theorem colL_at {cs : List Int} {k : Int} (h0 : 0 ≤ k) (h1 : k < cs.length) : atI (cs.map D.int) k = some (.int (colL cs k)) := by
  obtain ⟨j, rfl⟩ : ∃ j : Nat, k = (j : Int) := ⟨k.toNat, by omega⟩
  have hj : j < cs.length := by omega
  refine atI_nat ?_
  unfold colL
  rw [Int.toNat_natCast, List.getElem?_map, List.getElem?_eq_getElem hj]
  rfl
abbrev Ask := List (List Int × Int)
def askD (p : List Int × Int) : D := .tup [.lst (p.1.map D.int), .int p.2]
def asOf (as : Ask) : Asked := as.map fun p => (colL p.1, p.2)
def wwt : Ask → List Int → List Int
  | [], l => l
  | p :: as, l => if top0 (l.map (colL p.1)) % 2 = p.2 then wwt as l else l.filter fun k => decide (colL p.1 k < top0 (l.map (colL p.1)))
theorem lc_ints' {ρ : Env} {b : Bag} {F : EF} {i : Nat} (f : Int → Int) (is : List Int) (h : ∀ k ∈ is, F (ρ.set i (some (.sh (.int k)))) b = .ok (.int (f k)) b) : lcD (gN i) bYes F (is.map D.int) ρ b = .ok ((is.map f).map D.int) b := by
  rw [lc_ints (fun k => .int (f k)) is h, List.map_map]
  rfl
def bWwt : SF := (sSeq (sAsg (eB maxLF (aCons (eLc (aAny (eV 0)) [5] (gN 5) bYes (eIx (eV 2) (eV 5))) aNil)) (gN 4)) (sIf (bB (e2 neF (e2 modF (eV 4) (eC (.int 2))) (eV 3))) (sRet (eLc (aAny (eV 0)) [5] (gN 5) (bB (e2 ltF (eIx (eV 2) (eV 5)) (eV 4))) (eV 5))) sNil))
theorem wwt_loop {n : Nat} {l : List Int} (hl0 : l ≠ []) (hlo : ∀ k ∈ l, 0 ≤ k ∧ k < n) (hll : l.length ≤ 1000) (a1 : D) (b : Bag) : ∀ (as : Ask), (∀ p ∈ as, p.1.length = n) → ∀ (o2 o3 o4 : Option D),
    ((loopD (gT 2 (gsC (gN 2) (gsC (gN 3) gsN))) bWwt (as.map askD) [some (.sh (lD l)), some (.sh a1), o2.map SD.sh, o3.map SD.sh, o4.map SD.sh, none] b).seq (sRet (eV 0))).out = .ok (lD (wwt as l)) b
  | [], _, o2, o3, o4 => by simp [loopD, wwt]
  | p :: as, h, o2, o3, o4 => by
    obtain ⟨cs, ev⟩ := p
    have hc : cs.length = n := h (cs, ev) List.mem_cons_self
    have ih := wwt_loop hl0 hlo hll a1 b as (fun p hp => h p (List.mem_cons_of_mem _ hp)) (some (.lst (cs.map D.int))) (some (.int ev)) (some (.int (top0 (l.map (colL cs)))))
    have h1 := lc_ints' (i := 5) (b := b) (ρ := [some (.sh (lD l)), some (.sh a1), some (.sh (.lst (cs.map D.int))), some (.sh (.int ev)), o4.map SD.sh, none]) (F := (eIx (eV 2) (eV 5))) (colL cs) l (fun k hk => by
      obtain ⟨k0, k1⟩ := hlo k hk
      have := colL_at (cs := cs) k0 (by omega)
      simp [this])
    have hm := maxLF_ok (is := l.map (colL cs)) (by simpa using hl0)
    have hl : l.length ≤ 100000 := by omega
    rw [List.map_cons]
    unfold loopD
    have e : askD (cs, ev) = .tup [.lst (cs.map D.int), .int ev] := rfl
    rw [e]
    simp only [List.map_map] at h1 hm
    by_cases ht : top0 (l.map (colL cs)) % 2 = ev
    · have ew : wwt ((cs, ev) :: as) l = wwt as l := by
        show (if top0 (l.map (colL cs)) % 2 = ev then _ else _) = _
        rw [if_pos ht]
      rw [ew]
      unfold lD at h1 ih ⊢
      simp [bWwt, hl, h1, hm, ht] at ih ⊢
      exact ih
    · have ew : wwt ((cs, ev) :: as) l = l.filter fun k => decide (colL cs k < top0 (l.map (colL cs))) := by
        show (if top0 (l.map (colL cs)) % 2 = ev then _ else _) = _
        rw [if_neg ht]
      have h3 := lc_filt (i := 5) (b := b) (ρ := [some (.sh (lD l)), some (.sh a1), some (.sh (.lst (cs.map D.int))), some (.sh (.int ev)), some (.sh (.int (top0 (l.map (colL cs))))), none])
        (T := (bB (e2 ltF (eIx (eV 2) (eV 5)) (eV 4)))) (F := (eV 5)) (fun k => decide (colL cs k < top0 (l.map (colL cs)))) D.int l (fun k hk => by
          obtain ⟨k0, k1⟩ := hlo k hk
          have := colL_at (cs := cs) k0 (by omega)
          simp [this]) (fun k hk _ => by simp)
      rw [ew]
      unfold lD at h1 h3 ⊢
      simp [bWwt, hl, h1, hm, ht, h3]
theorem wwt_ok {n : Nat} {l : List Int} (hl0 : l ≠ []) (hlo : ∀ k ∈ l, 0 ≤ k ∧ k < n) (hll : l.length ≤ 1000) (as : Ask) (ha : ∀ p ∈ as, p.1.length = n) (b : Bag) : F_without_wrong_top [lD l, .lst (as.map askD)] b = .ok (lD (wwt as l)) b := by
  have h := wwt_loop hl0 hlo hll (.lst (as.map askD)) b as ha none none none
  unfold F_without_wrong_top G_without_wrong_top
  unfold bWwt at h
  simp [sFor] at h ⊢
  exact h
theorem wwt_sub (as : Ask) (l : List Int) : ∀ k ∈ wwt as l, k ∈ l := by
  induction as with
  | nil => exact fun k h => h
  | cons p as ih =>
    intro k h
    unfold wwt at h
    split at h
    · exact ih k h
    · exact (List.mem_filter.mp h).1
theorem wwt_nd (as : Ask) {l : List Int} (nd : l.Nodup) : (wwt as l).Nodup := by
  induction as with
  | nil => exact nd
  | cons p as ih =>
    unfold wwt
    split
    · exact ih
    · exact nd.filter _
theorem filter_lt {p : Int → Bool} : ∀ {l : List Int}, (∃ a ∈ l, p a = false) → (l.filter p).length < l.length
  | [], h => by obtain ⟨_, h, _⟩ := h; cases h
  | b :: l, h => by
    obtain ⟨a, ha, hp⟩ := h
    by_cases hb : p b = true
    · rw [List.filter_cons_of_pos hb, List.length_cons, List.length_cons]
      have : a ∈ l := by
        rcases List.mem_cons.mp ha with rfl | h
        · rw [hb] at hp; cases hp
        · exact h
      have := filter_lt ⟨a, this, hp⟩
      omega
    · rw [List.filter_cons_of_neg hb, List.length_cons]
      have := List.length_filter_le p l
      omega
/-- nothing is left out just if all is as asked; else less is left -/
theorem wwt_len (as : Ask) {l : List Int} (h0 : l ≠ []) : ((wwt as l).length = l.length ∧ ∀ p ∈ as, top0 (l.map (colL p.1)) % 2 = p.2) ∨ (wwt as l).length < l.length := by
  induction as with
  | nil => exact .inl ⟨rfl, fun p hp => by cases hp⟩
  | cons p as ih =>
    unfold wwt
    split
    · rename_i ht
      rcases ih with ⟨h1, h2⟩ | h
      · exact .inl ⟨h1, fun q hq => (List.mem_cons.mp hq).elim (fun e => by rw [e]; exact ht) (h2 q)⟩
      · exact .inr h
    · right
      obtain ⟨a, a1, a2⟩ := List.mem_map.mp (top0_mem (is := l.map (colL p.1)) (by simpa using h0))
      exact filter_lt ⟨a, a1, by rw [a2]; simp⟩
/-- no loop that is asked for loses anything -/
theorem wwt_keeps (sc : Int → List Int) {as : Ask} {l : List Int} {S : Int → Prop} (hS : GLoop sc (asOf as) S) (hl : ∀ a, S a → a ∈ l) : ∀ a, S a → a ∈ wwt as l := by
  obtain ⟨_, _, hS⟩ := hS
  induction as with
  | nil => exact hl
  | cons p as ih =>
    have ih := ih fun q hq => hS q (List.mem_cons_of_mem _ hq)
    unfold wwt
    split
    · exact ih
    · rename_i ht
      obtain ⟨T, ⟨⟨c, c1, c2⟩, t1⟩, t2⟩ := hS (colL p.1, p.2) List.mem_cons_self
      intro a ha
      refine List.mem_filter.mpr ⟨hl a ha, ?_⟩
      have h1 : colL p.1 a ≤ T := t1 a ha
      have h2 : T ≤ top0 (l.map (colL p.1)) := by
        rw [← c2]
        exact top0_ge _ (List.mem_map.mpr ⟨c, hl c c1, rfl⟩)
      have h3 : T ≠ top0 (l.map (colL p.1)) := fun e => ht (by rw [← e]; exact t2)
      simp
      omega
theorem good_of {sc : Int → List Int} {as : Ask} {l : List Int} (h0 : l ≠ []) (hs : SC sc (· ∈ l)) (h : ∀ p ∈ as, top0 (l.map (colL p.1)) % 2 = p.2) : GLoop sc (asOf as) (· ∈ l) := by
  refine ⟨?_, hs, fun q hq => ?_⟩
  · cases l with
    | nil => exact (h0 rfl).elim
    | cons a l => exact ⟨a, List.mem_cons_self⟩
  · obtain ⟨p, hp, rfl⟩ := List.mem_map.mp hq
    exact ⟨_, top_is h0, h p hp⟩
def mu (ws : List (List Int)) : Nat := (ws.map fun w => 1 + 2 * w.length).sum
structure LInv (sc : Int → List Int) (n : Nat) (as : Ask) (ns : List Int) (fs ws : List (List Int)) : Prop where
  fsub : ∀ l ∈ fs, ∀ k ∈ l, k ∈ ns
  fnd : ∀ l ∈ fs, l.Nodup
  fgood : ∀ l ∈ fs, GLoop sc (asOf as) (· ∈ l)
  wns : ∀ w ∈ ws, Ns n w
  wsub : ∀ w ∈ ws, ∀ k ∈ w, k ∈ ns
  all : ∀ S : Int → Prop, GLoop sc (asOf as) S → (∀ a, S a → a ∈ ns) → (∃ l ∈ fs, ∀ a, S a → a ∈ l) ∨ ∃ w ∈ ws, ∀ a, S a → a ∈ w
def bLaa1 : SF := (sSeq (sAsg (eCall (F_without_wrong_top) (aCons (eV 6) (aCons (eV 2) aNil))) (gN 7)) (sIf (bB (e2 eqF (eB lenF (aCons (eV 7) aNil)) (eB lenF (aCons (eV 6) aNil)))) (sPush 3 (eV 6)) (sPush 4 (eV 7))))
def goodB (as : Ask) (l : List Int) : Bool := decide ((wwt as l).length = l.length)
theorem laa1_ok {n : Nat} (hn : n ≤ 1000) (s0 s1 s5 : Option SD) (as : Ask) (ha : ∀ p ∈ as, p.1.length = n) (b : Bag) : ∀ (Ls fs ws : List (List Int)), (∀ l ∈ Ls, l ≠ [] ∧ (∀ k ∈ l, 0 ≤ k ∧ k < n) ∧ l.length ≤ 1000) → fs.length + ws.length + Ls.length ≤ 100000 → ∀ (o6 o7 : Option D), ∃ o6' o7' : Option D,
    loopD (gN 6) bLaa1 (Ls.map lD) [s0, s1, some (.sh (.lst (as.map askD))), some (.ow (.lst (fs.map lD))), some (.ow (.lst (ws.map lD))), s5, o6.map SD.sh, o7.map SD.sh] b =
    .nx [s0, s1, some (.sh (.lst (as.map askD))), some (.ow (.lst ((fs ++ Ls.filter (goodB as)).map lD))), some (.ow (.lst ((ws ++ (Ls.filter fun l => !goodB as l).map (wwt as)).map lD))), s5, o6'.map SD.sh, o7'.map SD.sh] b
  | [], fs, ws, _, _, o6, o7 => ⟨o6, o7, by simp [loopD]⟩
  | l :: Ls, fs, ws, h, hlen, o6, o7 => by
    obtain ⟨h0, hlo, hll⟩ := h l List.mem_cons_self
    have hw := wwt_ok h0 hlo hll as ha b
    rw [List.length_cons] at hlen
    by_cases hg : (wwt as l).length = l.length
    · obtain ⟨o6', o7', ih⟩ := laa1_ok hn s0 s1 s5 as ha b Ls (fs ++ [l]) ws (fun m hm => h m (List.mem_cons_of_mem _ hm)) (by simp; omega) (some (lD l)) (some (lD (wwt as l)))
      refine ⟨o6', o7', ?_⟩
      have hfl : fs.length ≤ 100000 := by omega
      have e1 : (l :: Ls).filter (goodB as) = l :: Ls.filter (goodB as) := List.filter_cons_of_pos (by simp [goodB, hg])
      have e2 : (l :: Ls).filter (fun l => !goodB as l) = Ls.filter fun l => !goodB as l := List.filter_cons_of_neg (by simp [goodB, hg])
      rw [e1, e2, List.map_cons]
      unfold loopD
      unfold lD at hw ih ⊢
      simp [bLaa1, hw, hg, hfl] at ih ⊢
      exact ih
    · obtain ⟨o6', o7', ih⟩ := laa1_ok hn s0 s1 s5 as ha b Ls fs (ws ++ [wwt as l]) (fun m hm => h m (List.mem_cons_of_mem _ hm)) (by simp; omega) (some (lD l)) (some (lD (wwt as l)))
      refine ⟨o6', o7', ?_⟩
      have hfl : ws.length ≤ 100000 := by omega
      have hg' : ¬ ((wwt as l).length : Int) = (l.length : Int) := by omega
      have e1 : (l :: Ls).filter (goodB as) = Ls.filter (goodB as) := List.filter_cons_of_neg (by simp [goodB, hg])
      have e2 : (l :: Ls).filter (fun l => !goodB as l) = l :: Ls.filter fun l => !goodB as l := List.filter_cons_of_pos (by simp [goodB, hg])
      rw [e1, e2, List.map_cons]
      unfold loopD
      unfold lD at hw ih ⊢
      simp [bLaa1, hw, hg', hfl] at ih ⊢
      exact ih
theorem mu_app (a c : List (List Int)) : mu (a ++ c) = mu a + mu c := by simp [mu]
theorem mu_bad (as : Ask) : ∀ Ls : List (List Int), (∀ l ∈ Ls, l ≠ []) → (Ls.filter (goodB as)).length + mu ((Ls.filter fun l => !goodB as l).map (wwt as)) ≤ 2 * (Ls.map List.length).sum
  | [], _ => by simp [mu]
  | l :: Ls, h => by
    have ih := mu_bad as Ls fun m hm => h m (List.mem_cons_of_mem _ hm)
    have h0 := h l List.mem_cons_self
    have hl : 0 < l.length := List.length_pos_iff.mpr h0
    rw [List.map_cons, List.sum_cons]
    by_cases hg : (wwt as l).length = l.length
    · have e1 : (l :: Ls).filter (goodB as) = l :: Ls.filter (goodB as) := List.filter_cons_of_pos (by simp [goodB, hg])
      have ew : (l :: Ls).filter (fun l => !goodB as l) = Ls.filter fun l => !goodB as l := List.filter_cons_of_neg (by simp [goodB, hg])
      rw [e1, ew, List.length_cons]
      omega
    · have e1 : (l :: Ls).filter (goodB as) = Ls.filter (goodB as) := List.filter_cons_of_neg (by simp [goodB, hg])
      have ew : (l :: Ls).filter (fun l => !goodB as l) = l :: Ls.filter fun l => !goodB as l := List.filter_cons_of_pos (by simp [goodB, hg])
      rw [e1, ew, List.map_cons]
      have : mu (wwt as l :: (Ls.filter fun l => !goodB as l).map (wwt as)) = 1 + 2 * (wwt as l).length + mu ((Ls.filter fun l => !goodB as l).map (wwt as)) := rfl
      rw [this]
      have := (wwt_len as h0).resolve_left fun z => hg z.1
      omega
def bLaa : SF := (sSeq (sPop 4 5) (sFor (aAny (eCall (F_greatest_loops) (aCons (eV 0) (aCons (eV 5) aNil)))) (gN 6) bLaa1))
section
variable {A : List D} {n : Nat} {sc : Int → List Int} (G : Gr A n sc)
include G
theorem laa2_ok (ns : List Int) (s1 : Option SD) (as : Ask) (ha : ∀ p ∈ as, p.1.length = n) (b : Bag) : ∀ (fuel : Nat) (fs ws : List (List Int)), LInv sc n as ns fs ws → fs.length + mu ws < fuel → fs.length + mu ws ≤ 5000 → ∀ (o5 o6 o7 : Option D), ∃ (fs' : List (List Int)) (o5' o6' o7' : Option D),
    whileD (bOw 4) bLaa fuel [some (.sh (.lst A)), s1, some (.sh (.lst (as.map askD))), some (.ow (.lst (fs.map lD))), some (.ow (.lst (ws.map lD))), o5.map SD.sh, o6.map SD.sh, o7.map SD.sh] b =
    .nx [some (.sh (.lst A)), s1, some (.sh (.lst (as.map askD))), some (.ow (.lst (fs'.map lD))), some (.ow (.lst [])), o5'.map SD.sh, o6'.map SD.sh, o7'.map SD.sh] b ∧ LInv sc n as ns fs' [] ∧ fs'.length ≤ fs.length + mu ws
  | 0, fs, ws, _, h, _, _, _, _ => by omega
  | fuel + 1, fs, ws, I, h, hbig, o5, o6, o7 => by
    have hn := G.n1000
    rcases List.eq_nil_or_concat ws with rfl | ⟨ws0, w, rfl⟩
    · exact ⟨fs, o5, o6, o7, by unfold whileD; simp, I, by omega⟩
    · rw [List.concat_eq_append] at I h hbig ⊢
      have hwm : w ∈ ws0 ++ [w] := by simp
      have Nw := I.wns w hwm
      obtain ⟨Ls, h1, hG⟩ := gls_ok G Nw b
      have hmu : mu (ws0 ++ [w]) = mu ws0 + (1 + 2 * w.length) := by rw [mu_app]; rfl
      have hws0 : ws0.length ≤ mu ws0 := by
        clear I h hbig hwm hmu
        induction ws0 with
        | nil => exact Nat.le_refl _
        | cons v ws0 ih =>
          have : mu (v :: ws0) = 1 + 2 * v.length + mu ws0 := rfl
          rw [List.length_cons, this]
          omega
      have hbad := mu_bad as Ls hG.ne
      have hfew := hG.few
      have hLl : Ls.length ≤ (Ls.map List.length).sum := by
        have := hG.ne
        clear h1 hG hbad hfew
        induction Ls with
        | nil => exact Nat.le_refl _
        | cons l Ls ih =>
          have h0 := List.length_pos_iff.mpr (this l List.mem_cons_self)
          have := ih fun m hm => this m (List.mem_cons_of_mem _ hm)
          rw [List.length_cons, List.map_cons, List.sum_cons]
          omega
      obtain ⟨o6', o7', h2⟩ := laa1_ok hn (some (.sh (.lst A))) s1 (some (.sh (lD w))) as ha b Ls fs ws0 (fun l hl => by
        refine ⟨hG.ne l hl, fun k hk => Nw.lo k (hG.sub l hl k hk), ?_⟩
        have : Ns n l := ⟨hG.nd l hl, fun k hk => Nw.lo k (hG.sub l hl k hk)⟩
        have := this.len
        omega) (by have := Nw.len; omega) o6 o7
      have I2 : LInv sc n as ns (fs ++ Ls.filter (goodB as)) (ws0 ++ (Ls.filter fun l => !goodB as l).map (wwt as)) := by
        refine ⟨fun l hl k hk => ?_, fun l hl => ?_, fun l hl => ?_, fun v hv => ?_, fun v hv k hk => ?_, fun S hS hSn => ?_⟩
        · rcases List.mem_append.mp hl with hl | hl
          · exact I.fsub l hl k hk
          · exact I.wsub w hwm k (hG.sub l (List.mem_filter.mp hl).1 k hk)
        · rcases List.mem_append.mp hl with hl | hl
          · exact I.fnd l hl
          · exact hG.nd l (List.mem_filter.mp hl).1
        · rcases List.mem_append.mp hl with hl | hl
          · exact I.fgood l hl
          · obtain ⟨hl1, hl2⟩ := List.mem_filter.mp hl
            have hl2 : (wwt as l).length = l.length := by simpa [goodB] using hl2
            have h0 := hG.ne l hl1
            rcases wwt_len as h0 with ⟨_, h⟩ | h
            · exact good_of h0 (hG.hang l hl1) h
            · omega
        · rcases List.mem_append.mp hv with hv | hv
          · exact I.wns v (List.mem_append_left _ hv)
          · obtain ⟨l, hl, rfl⟩ := List.mem_map.mp hv
            have hl := (List.mem_filter.mp hl).1
            exact ⟨wwt_nd as (hG.nd l hl), fun k hk => Nw.lo k (hG.sub l hl k (wwt_sub as l k hk))⟩
        · rcases List.mem_append.mp hv with hv | hv
          · exact I.wsub v (List.mem_append_left _ hv) k hk
          · obtain ⟨l, hl, rfl⟩ := List.mem_map.mp hv
            have hl := (List.mem_filter.mp hl).1
            exact I.wsub w hwm k (hG.sub l hl k (wwt_sub as l k hk))
        · rcases I.all S hS hSn with ⟨l, hl, h⟩ | ⟨v, hv, hin⟩
          · exact .inl ⟨l, List.mem_append_left _ hl, h⟩
          · rcases List.mem_append.mp hv with hv | hv
            · exact .inr ⟨v, List.mem_append_left _ hv, hin⟩
            · have : v = w := List.mem_singleton.mp hv
              subst this
              obtain ⟨l, hl, h⟩ := hG.all S hS.1 hS.2.1 hin
              by_cases hg : goodB as l = true
              · exact .inl ⟨l, List.mem_append_right _ (List.mem_filter.mpr ⟨hl, hg⟩), h⟩
              · exact .inr ⟨wwt as l, List.mem_append_right _ (List.mem_map.mpr ⟨l, List.mem_filter.mpr ⟨hl, by simpa using hg⟩, rfl⟩), wwt_keeps sc hS h⟩
      have hdec : (fs ++ Ls.filter (goodB as)).length + mu (ws0 ++ (Ls.filter fun l => !goodB as l).map (wwt as)) + 1 ≤ fs.length + mu (ws0 ++ [w]) := by
        rw [List.length_append, mu_app, hmu]
        omega
      obtain ⟨fs', o5', o6'', o7'', h3, h4, h5⟩ := laa2_ok ns s1 as ha b fuel _ _ I2 (by omega) (by omega) (some (lD w)) o6' o7'
      refine ⟨fs', o5', o6'', o7'', ?_, h4, by omega⟩
      unfold whileD
      unfold lD at h1 h2 h3 ⊢
      simp [bLaa, sFor, h1] at h2 h3 ⊢
      simp [h2]
      exact h3
theorem laa_ok {ns : List Int} (N : Ns n ns) (as : Ask) (ha : ∀ p ∈ as, p.1.length = n) (b : Bag) : ∃ Ls, F_loops_as_asked [.lst A, .lst (ns.map D.int), .lst (as.map askD)] b = .ok (.lst (Ls.map lD)) b ∧ LInv sc n as ns Ls [] ∧ Ls.length ≤ 1 + 2 * n := by
  have hn := G.n1000
  have hl := N.len
  have hm : mu [ns] = 1 + 2 * ns.length + 0 := rfl
  obtain ⟨fs', o5, o6, o7, h1, h2, h3⟩ := laa2_ok G ns (some (.sh (.lst (ns.map D.int)))) as ha b 100000 [] [ns] ⟨by simp, by simp, by simp, fun w hw => by
    have : w = ns := by simpa using hw
    subst this; exact N, fun w hw k hk => by
    have : w = ns := by simpa using hw
    subst this; exact hk, fun S hS hSn => .inr ⟨ns, by simp, hSn⟩⟩ (by rw [hm, List.length_nil]; omega) (by rw [hm, List.length_nil]; omega) none none none
  refine ⟨fs', ?_, h2, by rw [hm, List.length_nil] at h3; omega⟩
  unfold F_loops_as_asked G_loops_as_asked
  unfold bLaa bLaa1 at h1
  unfold lD at h1 ⊢
  simp [sWhile] at h1 ⊢
  simp [h1]
end
end DL

set_option maxHeartbeats 1000000
namespace DL
open PySem PySem.Spec PyProof.Rows L2
def nums (n : Nat) : List Int := (List.range n).map fun (k : Nat) => (k : Int)
theorem range_nums (n : Nat) : rangeOf (n : Int) = (nums n).map D.int := by
  unfold rangeOf nums
  rw [Int.toNat_natCast, List.map_map]
  rfl
theorem mem_nums {n : Nat} {k : Int} : k ∈ nums n ↔ 0 ≤ k ∧ k < n := by
  unfold nums
  constructor
  · intro h
    obtain ⟨j, hj, rfl⟩ := List.mem_map.mp h
    have := List.mem_range.mp hj
    omega
  · intro h
    exact List.mem_map.mpr ⟨k.toNat, List.mem_range.mpr (by omega), by omega⟩
theorem len_nums (n : Nat) : (nums n).length = n := by simp [nums]
theorem nd_nums (n : Nat) : (nums n).Nodup := by
  unfold nums
  rw [List.nodup_iff_pairwise_ne, List.pairwise_map]
  exact (List.nodup_range (n := n)).imp fun h e => h (by omega)
theorem ns_nums (n : Nat) : Ns n (nums n) := ⟨nd_nums n, fun k hk => mem_nums.mp hk⟩
theorem at_nums {α : Type} {n : Nat} (f : Int → α) {k : Int} (h0 : 0 ≤ k) (h1 : k < n) : atI ((nums n).map f) k = some (f k) := by
  obtain ⟨j, rfl⟩ : ∃ j : Nat, k = (j : Int) := ⟨k.toNat, by omega⟩
  refine atI_nat ?_
  unfold nums
  rw [List.getElem?_map, List.getElem?_map, List.getElem?_range (by omega)]
  rfl
def ldI (sc : Int → List Int) (gs : List Int) : Nat → Int → Bool
  | 0, k => decide (k ∈ gs)
  | t + 1, k => ldI sc gs t k || (sc k).any (ldI sc gs t)
def Rch (sc : Int → List Int) (gs : List Int) (k : Int) : Prop := k ∈ gs ∨ ∃ g ∈ gs, Pth sc (fun _ => True) k g
theorem filt_mono {p q : Int → Bool} : ∀ {l : List Int}, (∀ a ∈ l, p a = true → q a = true) → (l.filter p).length ≤ (l.filter q).length ∧ ((∃ a ∈ l, q a = true ∧ p a = false) → (l.filter p).length < (l.filter q).length)
  | [], _ => ⟨Nat.le_refl _, fun ⟨_, h, _⟩ => by cases h⟩
  | b :: l, h => by
    obtain ⟨i1, i2⟩ := filt_mono (p := p) (q := q) fun a ha => h a (List.mem_cons_of_mem _ ha)
    by_cases hp : p b = true
    · have hq := h b List.mem_cons_self hp
      rw [List.filter_cons_of_pos hp, List.filter_cons_of_pos hq, List.length_cons, List.length_cons]
      refine ⟨by omega, fun ⟨a, ha, a1, a2⟩ => ?_⟩
      have : a ∈ l := (List.mem_cons.mp ha).resolve_left fun e => by rw [e, hp] at a2; cases a2
      have := i2 ⟨a, this, a1, a2⟩
      omega
    · rw [List.filter_cons_of_neg hp]
      by_cases hq : q b = true
      · rw [List.filter_cons_of_pos hq, List.length_cons]
        exact ⟨by omega, fun _ => by omega⟩
      · rw [List.filter_cons_of_neg hq]
        refine ⟨i1, fun ⟨a, ha, a1, a2⟩ => ?_⟩
        have : a ∈ l := (List.mem_cons.mp ha).resolve_left fun e => by rw [e] at a1; exact hq a1
        exact i2 ⟨a, this, a1, a2⟩
section
variable {sc : Int → List Int} {gs : List Int} {n : Nat} (hgo : ∀ k : Int, 0 ≤ k → k < n → ∀ g ∈ sc k, 0 ≤ g ∧ g < n)
theorem it_mono {t : Nat} {k : Int} (h : ldI sc gs t k = true) : ldI sc gs (t + 1) k = true := by
  unfold ldI
  rw [h]
  rfl
theorem it_sound : ∀ {t : Nat} {k : Int}, ldI sc gs t k = true → Rch sc gs k
  | 0, k, h => .inl (by simpa [ldI] using h)
  | t + 1, k, h => by
    unfold ldI at h
    rw [Bool.or_eq_true] at h
    rcases h with h | h
    · exact it_sound h
    · obtain ⟨j, hj, h2⟩ := List.any_eq_true.mp h
      rcases it_sound h2 with h3 | ⟨g, hg, h3⟩
      · exact .inr ⟨j, h3, .one hj trivial⟩
      · exact .inr ⟨g, hg, .step hj trivial h3⟩
include hgo
theorem it_fix {t : Nat} (h : ∀ k ∈ nums n, ldI sc gs (t + 1) k = ldI sc gs t k) : ∀ m, ∀ k ∈ nums n, ldI sc gs (t + m) k = ldI sc gs t k
  | 0, k, _ => rfl
  | m + 1, k, hk => by
    have ih := it_fix h m
    show (ldI sc gs (t + m) k || (sc k).any (ldI sc gs (t + m))) = _
    have e : (sc k).any (ldI sc gs (t + m)) = (sc k).any (ldI sc gs t) := by
      rw [Bool.eq_iff_iff, List.any_eq_true, List.any_eq_true]
      have hin : ∀ j ∈ sc k, j ∈ nums n := fun j hj => by
        have := mem_nums.mp hk
        exact mem_nums.mpr (hgo k this.1 this.2 j hj)
      exact ⟨fun ⟨j, hj, z⟩ => ⟨j, hj, by rw [← ih j (hin j hj)]; exact z⟩, fun ⟨j, hj, z⟩ => ⟨j, hj, by rw [ih j (hin j hj)]; exact z⟩⟩
    rw [e, ih k hk]
    exact h k hk
theorem it_all : ∀ k ∈ nums n, ldI sc gs (n + 1) k = ldI sc gs n k := by
  have step : ∀ t, (∃ s, s ≤ t ∧ ∀ k ∈ nums n, ldI sc gs (s + 1) k = ldI sc gs s k) ∨ t ≤ ((nums n).filter (ldI sc gs t)).length := fun t => by
    induction t with
    | zero => exact .inr (Nat.zero_le _)
    | succ t ih =>
      rcases ih with ⟨s, h1, h2⟩ | ih
      · exact .inl ⟨s, by omega, h2⟩
      · by_cases hf : ∀ k ∈ nums n, ldI sc gs (t + 1) k = ldI sc gs t k
        · exact .inl ⟨t, by omega, hf⟩
        · right
          have : ∃ k ∈ nums n, ldI sc gs (t + 1) k = true ∧ ldI sc gs t k = false := by
            apply Classical.byContradiction
            intro hn
            apply hf
            intro k hk
            cases h1 : ldI sc gs t k with
            | true => exact it_mono h1
            | false =>
              cases h2 : ldI sc gs (t + 1) k with
              | false => rfl
              | true => exact absurd ⟨k, hk, h2, h1⟩ hn
          have := (filt_mono (p := ldI sc gs t) (q := ldI sc gs (t + 1)) (l := nums n) fun a _ => it_mono).2 this
          omega
  rcases step n with ⟨s, h1, h2⟩ | h
  · intro k hk
    have a := it_fix hgo h2 (n - s) k hk
    have b := it_fix hgo h2 (n + 1 - s) k hk
    rw [show s + (n - s) = n by omega] at a
    rw [show s + (n + 1 - s) = n + 1 by omega] at b
    rw [a, b]
  · have all : ∀ k ∈ nums n, ldI sc gs n k = true := by
      intro k hk
      cases hf : ldI sc gs n k with
      | true => rfl
      | false =>
        have := filter_lt (p := ldI sc gs n) ⟨k, hk, hf⟩
        rw [len_nums] at this
        omega
    intro k hk
    rw [all k hk, it_mono (all k hk)]
theorem it_iff {k : Int} (hk : k ∈ nums n) : ldI sc gs n k = true ↔ Rch sc gs k := by
  refine ⟨it_sound, fun h => ?_⟩
  have up : ∀ j ∈ nums n, j ∈ gs → ldI sc gs n j = true := fun j _ hj => by
    have : ∀ t, ldI sc gs t j = true := fun t => by
      induction t with
      | zero => simpa [ldI] using hj
      | succ t ih => exact it_mono ih
    exact this n
  have back : ∀ j ∈ nums n, ∀ i ∈ sc j, ldI sc gs n i = true → ldI sc gs n j = true := fun j hj i hi h => by
    rw [← it_all hgo j hj]
    unfold ldI
    rw [Bool.or_eq_true]
    exact .inr (List.any_eq_true.mpr ⟨i, hi, h⟩)
  have inr : ∀ j ∈ nums n, ∀ i ∈ sc j, i ∈ nums n := fun j hj i hi => by
    have := mem_nums.mp hj
    exact mem_nums.mpr (hgo j this.1 this.2 i hi)
  rcases h with h | ⟨g, hg, h⟩
  · exact up k hk h
  · have : ∀ a b, Pth sc (fun _ => True) a b → b ∈ gs → a ∈ nums n → ldI sc gs n a = true := fun a b h => by
      induction h with
      | one h1 _ => exact fun hb ha => back _ ha _ h1 (up _ (inr _ ha _ h1) hb)
      | step h1 _ _ ih => exact fun hb ha => back _ ha _ h1 (ih hb (inr _ ha _ h1))
    exact this k g h hg hk
end
theorem truths_bl (bs : List Bool) : truths (bs.map D.bl) = some bs := by
  induction bs with
  | nil => rfl
  | cons k bs ih => simp [truths, ih]
theorem anyF_bl (bs : List Bool) : anyF [.lst (bs.map D.bl)] = some (.bl (bs.any id)) := by
  show ((truths (bs.map D.bl)).map fun ks => D.bl (ks.any id)) = _
  rw [truths_bl]
  rfl
theorem row_all {d : D} {gs : List Int} (h : rowIs d gs) : allOf d = some (gs.map D.int) := by
  rcases h with rfl | rfl <;> rfl
def bLead : SF := (sAsg (eLc (aRng (aCons (eB lenF (aCons (eV 0) aNil)) aNil)) [4] (gN 4) bYes (eOr (eIx (eV 2) (eV 4)) (eB anyF (aCons (eLc (aAny (eIx (eV 0) (eV 4))) [5] (gN 5) bYes (eIx (eV 2) (eV 5))) aNil)))) (gN 2))
section
variable {A : List D} {n : Nat} {sc : Int → List Int} (G : Gr A n sc)
include G
theorem lead_step (s1 : Option D) (o3 : Option D) (L : Int → Bool) (b : Bag) : bLead [some (.sh (.lst A)), s1.map SD.sh, some (.sh (.lst ((nums n).map fun k => D.bl (L k)))), o3.map SD.sh, none, none] b =
    .nx [some (.sh (.lst A)), s1.map SD.sh, some (.sh (.lst ((nums n).map fun k => D.bl (L k || (sc k).any L)))), o3.map SD.sh, none, none] b := by
  have hn := G.n1000
  have hA := G.len
  have h := lc_ints (i := 4) (b := b) (ρ := [some (.sh (.lst A)), s1.map SD.sh, some (.sh (.lst ((nums n).map fun k => D.bl (L k)))), o3.map SD.sh, none, none])
    (F := (eOr (eIx (eV 2) (eV 4)) (eB anyF (aCons (eLc (aAny (eIx (eV 0) (eV 4))) [5] (gN 5) bYes (eIx (eV 2) (eV 5))) aNil)))) (fun k => D.bl (L k || (sc k).any L)) (nums n) (fun k hk => by
      obtain ⟨k0, k1⟩ := mem_nums.mp hk
      have e1 := at_nums (fun k => D.bl (L k)) k0 k1
      obtain ⟨d, r1, r2⟩ := G.row k k0 k1
      have ra := row_all r2
      have hf := G.few k k0 k1
      have hi := lc_ints (i := 5) (b := b) (ρ := [some (.sh (.lst A)), s1.map SD.sh, some (.sh (.lst ((nums n).map fun k => D.bl (L k)))), o3.map SD.sh, some (.sh (.int k)), none]) (F := (eIx (eV 2) (eV 5))) (fun j => D.bl (L j)) (sc k) (fun j hj => by
        obtain ⟨j0, j1⟩ := G.go k k0 k1 j hj
        have := at_nums (fun k => D.bl (L k)) j0 j1
        simp [this])
      have ha := anyF_bl ((sc k).map L)
      rw [List.map_map, List.any_map] at ha
      have ha : anyF [.lst ((sc k).map fun j => D.bl (L j))] = some (.bl ((sc k).any L)) := ha
      have hl : (sc k).length ≤ 100000 := by omega
      cases hL : L k with
      | true => simp [e1, hL]
      | false => simp [-allOf, e1, hL, r1, ra, hl, hi, ha])
  have hn1 : (n : Int) ≤ 1000000 := by omega
  have hn2 : (nums n).length ≤ 100000 := by rw [len_nums]; omega
  unfold bLead
  simp [aRng, hA, hn1, range_nums, hn2, h]
theorem lead_ok (gs : List Int) (b : Bag) : F_leading_to [.lst A, .lst (gs.map D.int)] b = .ok (.lst (((nums n).filter (ldI sc gs n)).map D.int)) b := by
  have hn := G.n1000
  have hA := G.len
  have hn1 : (n : Int) ≤ 1000000 := by omega
  have hn2 : (nums n).length ≤ 100000 := by rw [len_nums]; omega
  have h0 := lc_ints (i := 4) (b := b) (ρ := [some (.sh (.lst A)), some (.sh (.lst (gs.map D.int))), none, none, none, none]) (F := (e2 inQ (eV 4) (eV 1))) (fun k => D.bl (ldI sc gs 0 k)) (nums n) (fun k hk => by
    have := inQ_lst k gs
    simp [-inQ, this, ldI])
  obtain ⟨ρ', b', f1, ⟨o3, f2⟩, f3⟩ := loop_ind (g := gN 3) (B := bLead)
    (fun i ρ b' => (∃ o3 : Option D, ρ = [some (.sh (.lst A)), (some (.lst (gs.map D.int))).map SD.sh, some (.sh (.lst ((nums n).map fun k => D.bl (ldI sc gs i k)))), o3.map SD.sh, none, none]) ∧ b' = b)
    A 0 (fun i d hd ρ b' ⟨⟨o3, g1⟩, g2⟩ => by
      subst g1 g2
      exact ⟨_, _, b', rfl, lead_step G (some (.lst (gs.map D.int))) (some d) _ b', ⟨some d, rfl⟩, rfl⟩) [some (.sh (.lst A)), some (.sh (.lst (gs.map D.int))), some (.sh (.lst ((nums n).map fun k => D.bl (ldI sc gs 0 k)))), none, none, none] b ⟨⟨none, rfl⟩, rfl⟩
  subst f2 f3
  rw [Nat.zero_add, hA] at f1
  have h9 := lc_filt (i := 4) (b := b') (ρ := [some (.sh (.lst A)), some (.sh (.lst (gs.map D.int))), some (.sh (.lst ((nums n).map fun k => D.bl (ldI sc gs n k)))), o3.map SD.sh, none, none]) (T := bB (eIx (eV 2) (eV 4))) (F := eV 4) (ldI sc gs n) D.int (nums n) (fun k hk => by
    obtain ⟨k0, k1⟩ := mem_nums.mp hk
    have := at_nums (fun k => D.bl (ldI sc gs n k)) k0 k1
    simp [this]) (fun k hk _ => by simp)
  unfold F_leading_to G_leading_to
  unfold bLead at f1
  simp [aRng, hA, hn1, range_nums, hn2, h0, sFor] at f1 ⊢
  simp [f1, aRng, hA, hn1, range_nums, hn2, h9]
end
end DL

set_option maxHeartbeats 1000000
namespace DL
open PySem PySem.Spec PyProof.Rows L2
def scM (rs : List Row) (k : Int) : List Int := (rowAt rs k).2
def arrD (rs : List Row) : List D := rs.map fun r => .tup (r.2.map D.int)
def colM (rs : List Row) : List Int := rs.map (·.1)
theorem gr_M {k : Nat} {rs : List Row} (hr : RowsOk k rs) (hk : k ≤ 1000) : Gr (arrD rs) rs.length (scM rs) := by
  have n1 := hr.n1
  refine ⟨by simp [arrD], fun j j0 j1 => ?_, fun j j0 j1 g hg => ?_, fun j j0 j1 => ?_, by omega⟩
  · refine ⟨.tup ((scM rs j).map D.int), ?_, .inl rfl⟩
    obtain ⟨i, rfl⟩ : ∃ i : Nat, j = (i : Int) := ⟨j.toNat, by omega⟩
    have hi : i < rs.length := by omega
    refine atI_nat ?_
    unfold arrD scM rowAt
    rw [List.getElem?_map, Int.toNat_natCast, List.getElem?_eq_getElem hi]
    rfl
  · exact (rowAt_ok hr j0 j1).2.go g hg
  · show (rowAt rs j).2.length ≤ 1000
    rw [(rowAt_ok hr j0 j1).2.len]
    exact hk
theorem colL_M (rs : List Row) (k : Int) : colL (colM rs) k = colour rs k := by
  unfold colL colM colour
  rw [List.getElem?_map]
theorem arrows_ok (M : Addr) {x : Str} {rs : List Row} (hr : RowsOk x.length rs) (b : Bag) : F_arrows_of M [machD M x rs] b = .ok (.lst (arrD rs)) b := by
  have n1 := hr.n1
  have f2 := fld_s M x rs
  have hl : rs.length ≤ 100000 := by omega
  have h := lc_map (g := gN 1) (F := eIx (eV 1) (eC (.int 1))) (f := fun d => match d with | .tup [_, y] => y | _ => .non) (rs.map rowD) [some (.sh (machD M x rs)), none] b (fun d hd => by
    obtain ⟨r, hr1, rfl⟩ := List.mem_map.mp hd
    exact ⟨_, rfl, by simp [rowD]⟩)
  have e : (rs.map rowD).map (fun d => match d with | .tup [_, y] => y | _ => D.non) = arrD rs := by
    rw [List.map_map]
    rfl
  rw [e] at h
  unfold F_arrows_of G_arrows_of
  unfold rowsD at f2
  simp [f2, hl, h]
theorem colours_ok (M : Addr) {x : Str} {rs : List Row} (hr : RowsOk x.length rs) (b : Bag) : F_colours_of M [machD M x rs] b = .ok (.lst ((colM rs).map D.int)) b := by
  have n1 := hr.n1
  have f2 := fld_s M x rs
  have hl : rs.length ≤ 100000 := by omega
  have h := lc_map (g := gN 1) (F := eIx (eV 1) (eC (.int 0))) (f := fun d => match d with | .tup [y, _] => y | _ => .non) (rs.map rowD) [some (.sh (machD M x rs)), none] b (fun d hd => by
    obtain ⟨r, hr1, rfl⟩ := List.mem_map.mp hd
    exact ⟨_, rfl, by simp [rowD]⟩)
  have e : (rs.map rowD).map (fun d => match d with | .tup [y, _] => y | _ => D.non) = (colM rs).map D.int := by
    unfold colM
    rw [List.map_map, List.map_map]
    rfl
  rw [e] at h
  unfold F_colours_of G_colours_of
  unfold rowsD at f2
  simp [f2, hl, h]
def LoopM (rs : List Row) (ev : Int) (S : Int → Prop) : Prop := GLoop (scM rs) [(colour rs, ev)] S ∧ ∀ a, S a → a ∈ nums rs.length
/-- it leads to a loop of this evenness -/
def LeadP (rs : List Row) (ev : Int) (k : Int) : Prop := (∃ S, LoopM rs ev S ∧ S k) ∨ ∃ S g, LoopM rs ev S ∧ S g ∧ Pth (scM rs) (fun _ => True) k g
open Classical in
noncomputable def leadL (rs : List Row) (ev : Int) : List Int := (nums rs.length).filter fun k => decide (LeadP rs ev k)
theorem flat_lc2 (s0 s1 s2 : Option SD) (b : Bag) (o3 : D) (h0 : unown [s0, s1, s2] = [s0, s1, s2]) : ∀ (Ls : List (List Int)), lc2D (gN 4) (aAny (eV 4)) [5] (gN 5) (eV 5) (Ls.map lD) [s0, s1, s2, some (.sh o3), none, none] b = .ok (Ls.flatten.map D.int) b
  | [] => rfl
  | l :: Ls => by
    have ih := flat_lc2 s0 s1 s2 b o3 h0 Ls
    rw [List.map_cons]
    unfold lc2D
    have hu : unown ([s0, s1, s2, some (.sh o3), none, none].set 4 (some (.sh (lD l)))) = [s0, s1, s2, some (.sh o3), some (.sh (lD l)), none] := by
      have : ∀ (a c e : Option SD) (ρ : Env), unown [a, c, e] = [a, c, e] → unown (a :: c :: e :: ρ) = a :: c :: e :: unown ρ := by
        intro a c e ρ h
        rcases a with _ | (a | a) <;> rcases c with _ | (c | c) <;> rcases e with _ | (e | e) <;> first | rfl | (simp [unown] at h)
      exact this s0 s1 s2 _ h0
    simp only [gN, hu]
    have h2 := lc_ints (i := 5) (b := b) (ρ := [s0, s1, s2, some (.sh o3), some (.sh (lD l)), none]) (F := eV 5) D.int l (fun k _ => by simp)
    simp only [lD] at h2 ih ⊢
    simp [h2, ih]
theorem sum_len (n : Nat) : ∀ Ls : List (List Int), (∀ l ∈ Ls, l.length ≤ n) → Ls.flatten.length ≤ Ls.length * n
  | [], _ => by simp
  | l :: Ls, h => by
    have ih := sum_len n Ls fun m hm => h m (List.mem_cons_of_mem _ hm)
    have := h l List.mem_cons_self
    rw [List.flatten_cons, List.length_append, List.length_cons, Nat.add_mul, Nat.one_mul]
    omega
open Classical in
theorem leads_ok (M : Addr) {x : Str} {rs : List Row} (hr : RowsOk x.length rs) (hx : x.length ≤ 1000) (ev : Int) (b : Bag) : F_leading_to_loops M [machD M x rs, .int ev] b = .ok (.lst ((leadL rs ev).map D.int)) b := by
  have n1 := hr.n1
  have G := gr_M hr hx
  have h1 := arrows_ok M hr b
  have h2 := colours_ok M hr b
  have h3 := len_M M x rs b
  obtain ⟨Ls, h4, I, hLn⟩ := laa_ok G (ns_nums rs.length) [(colM rs, ev)] (fun p hp => by
    have : p = (colM rs, ev) := by simpa using hp
    subst this
    simp [colM]) b
  have hf := flat_lc2 (some (.sh (machD M x rs))) (some (.sh (.int ev))) (some (.sh (.lst (arrD rs)))) b (.lst (Ls.map lD)) rfl Ls
  have h5 := lead_ok G Ls.flatten b
  have hfl : Ls.flatten.length ≤ 100000 := by
    have := sum_len rs.length Ls fun l hl => by
      have : Ns rs.length l := ⟨I.fnd l hl, fun k hk => mem_nums.mp (I.fsub l hl k hk)⟩
      exact this.len
    have h6 : Ls.length * rs.length ≤ 13 * 6 := Nat.mul_le_mul (by omega) n1
    omega
  have easked : asOf [(colM rs, ev)] = [(colour rs, ev)] := by
    show [(colL (colM rs), ev)] = _
    rw [show colL (colM rs) = colour rs from funext fun k => colL_M rs k]
  -- the goals are the loops
  have hg : ∀ k, k ∈ Ls.flatten ↔ ∃ S, LoopM rs ev S ∧ S k := fun k => by
    rw [List.mem_flatten]
    constructor
    · rintro ⟨l, hl, hk⟩
      refine ⟨(· ∈ l), ⟨?_, fun a ha => I.fsub l hl a ha⟩, hk⟩
      have := I.fgood l hl
      rw [easked] at this
      exact this
    · rintro ⟨S, ⟨h1, h2⟩, hk⟩
      rw [← easked] at h1
      rcases I.all S h1 h2 with ⟨l, hl, h⟩ | ⟨w, hw, _⟩
      · exact ⟨l, hl, h k hk⟩
      · cases hw
  have e : (nums rs.length).filter (ldI (scM rs) Ls.flatten rs.length) = leadL rs ev := by
    unfold leadL
    apply List.filter_congr
    intro k hk
    rw [Bool.eq_iff_iff, it_iff G.go hk, decide_eq_true_eq]
    unfold Rch LeadP
    constructor
    · rintro (h | ⟨g, h, hp⟩)
      · exact .inl ((hg k).mp h)
      · obtain ⟨S, hS, hSg⟩ := (hg g).mp h
        exact .inr ⟨S, g, hS, hSg, hp⟩
    · rintro (h | ⟨S, g, hS, hSg, hp⟩)
      · exact .inl ((hg k).mpr h)
      · exact .inr ⟨g, (hg g).mpr ⟨S, hS, hSg⟩, hp⟩
  rw [e] at h5
  have hn0 : (0 : Int) ≤ rs.length := by omega
  have hn1 : (rs.length : Int) ≤ 100000 := by omega
  have hn1' : rs.length ≤ 100000 := by omega
  have hn2 : (rs.length : Int) < 9223372036854775808 := by omega
  have hn3 : rs.length < 9223372036854775808 := by omega
  unfold F_leading_to_loops G_leading_to_loops
  unfold machD at h1 h2 h3 hf ⊢
  have hask : ([(colM rs, ev)] : Ask).map askD = [.tup [.lst ((colM rs).map D.int), .int ev]] := rfl
  rw [hask] at h4
  simp [h1, h2, h3, hn0, hn1, hn1', hn2, hn3, range_nums, h4]
  simp [-List.map_flatten, -List.length_flatten, hf, hfl, h5]
end DL

set_option maxHeartbeats 1000000
namespace DL
open PySem PySem.Spec PyProof.Rows L2
theorem nd_sub : ∀ {a c : List Int}, a.Nodup → (∀ x ∈ a, x ∈ c) → a.length ≤ c.length
  | [], _, _, _ => Nat.zero_le _
  | x :: a, c, nd, h => by
    obtain ⟨h1, h2⟩ := List.nodup_cons.mp nd
    have hx := h x List.mem_cons_self
    have := nd_sub (a := a) (c := c.erase x) h2 fun y hy => by
      have hyx : y ≠ x := fun e => h1 (by rw [← e]; exact hy)
      exact (List.mem_erase_of_ne hyx).mpr (h y (List.mem_cons_of_mem _ hy))
    rw [List.length_erase_of_mem hx] at this
    have := List.length_pos_of_mem hx
    rw [List.length_cons]
    omega
def addN (ins : List Int) (f : List Int) (g : Int) : List Int := if g ∈ ins ∧ g ∉ f then f ++ [g] else f
theorem addN_spec (ins : List Int) : ∀ (gs f : List Int), f.Nodup → (gs.foldl (addN ins) f).Nodup ∧ (∀ x, x ∈ gs.foldl (addN ins) f ↔ x ∈ f ∨ (x ∈ gs ∧ x ∈ ins)) ∧ ∃ t, gs.foldl (addN ins) f = f ++ t
  | [], f, nd => ⟨nd, fun x => by simp, [], by simp⟩
  | g :: gs, f, nd => by
    have nd2 : (addN ins f g).Nodup := by
      unfold addN
      split
      · rename_i h
        rw [List.nodup_append]
        exact ⟨nd, by simp, fun a ha b hb => by
          have : b = g := by simpa using hb
          rw [this]
          intro e
          exact h.2 (by rw [← e]; exact ha)⟩
      · exact nd
    obtain ⟨h1, h2, t, h3⟩ := addN_spec ins gs (addN ins f g) nd2
    have hm : ∀ x, x ∈ addN ins f g ↔ x ∈ f ∨ (x = g ∧ x ∈ ins) := fun x => by
      unfold addN
      split
      · rename_i h
        constructor
        · intro hx
          rcases List.mem_append.mp hx with hx | hx
          · exact .inl hx
          · have : x = g := by simpa using hx
            subst this
            exact .inr ⟨rfl, h.1⟩
        · rintro (hx | ⟨rfl, _⟩)
          · exact List.mem_append_left _ hx
          · simp
      · rename_i h
        constructor
        · exact .inl
        · rintro (hx | ⟨rfl, hx⟩)
          · exact hx
          · exact Classical.byContradiction fun hn => h ⟨hx, hn⟩
    refine ⟨h1, fun x => ?_, ?_⟩
    · rw [List.foldl_cons, h2, hm]
      constructor
      · rintro ((h | ⟨rfl, h⟩) | ⟨ha, hb⟩)
        · exact .inl h
        · exact .inr ⟨List.mem_cons_self, h⟩
        · exact .inr ⟨List.mem_cons_of_mem _ ha, hb⟩
      · rintro (h | ⟨h, hb⟩)
        · exact .inl (.inl h)
        · rcases List.mem_cons.mp h with rfl | h
          · exact .inl (.inr ⟨rfl, hb⟩)
          · exact .inr ⟨h, hb⟩
    · rw [List.foldl_cons, h3]
      unfold addN
      split
      · exact ⟨[g] ++ t, by simp⟩
      · exact ⟨t, rfl⟩
end DL

set_option maxHeartbeats 1000000
namespace DL
open PySem PySem.Spec PyProof.Rows L2
theorem pds_ints (is : List Int) : pds (is.map D.int) = some (is.map PyData.int) := by
  induction is with
  | nil => rfl
  | cons i is ih => simp [pds, D.pd, ih]
theorem lay_ints (is : List Int) : PyData.canLayAll0 (is.map PyData.int) = true ∧ PyData.depthAll (is.map PyData.int) = 0 := by
  induction is with
  | nil => exact ⟨by simp [PyData.canLayAll0], by simp [PyData.depthAll]⟩
  | cons i is ih => exact ⟨by simp [PyData.canLayAll0, PyData.canLay0, ih.1], by simp [PyData.depthAll, PyData.depth, ih.2]⟩
end DL

set_option maxHeartbeats 1000000

set_option maxHeartbeats 1000000

set_option maxHeartbeats 1000000
namespace DL
open PySem PySem.Spec PyProof.Rows L2
theorem live_ok (M : Addr) {x : Str} {rs : List Row} (hr : RowsOk x.length rs) (hx : x.length ≤ 1000) (b : Bag) : F_live M [machD M x rs] b = .ok (.tup ((leadL rs 0).map D.int)) b := by
  have h1 := check_ok M x rs b
  have h2 := leads_ok M hr hx 0 b
  unfold F_live G_live
  unfold machD at h1 h2 ⊢
  simp [h1, h2, tupleF]
theorem seq_step {G Gr : SF} {ρ ρ' : Env} {b b' : Bag} (h : G ρ b = .nx ρ' b') : sSeq G Gr ρ b = Gr ρ' b' := by
  show (G ρ b).seq Gr = _
  rw [h]
  rfl
end DL

set_option maxHeartbeats 1000000
namespace DL
open PySem PySem.Spec PyProof.Rows L2
@[simp] theorem ninQ_lst (k : Int) (gs : List Int) : ninQ (.int k) (.lst (gs.map D.int)) = some (.bl (!decide (k ∈ gs))) := by
  simp [flats_ints, inV_ints]
@[simp] theorem ninQ_tup (k : Int) (gs : List Int) : ninQ (.int k) (.tup (gs.map D.int)) = some (.bl (!decide (k ∈ gs))) := by
  simp [flats_ints, inV_ints]
noncomputable def sureL (rs : List Row) : List Int := (nums rs.length).filter fun k => !decide (k ∈ leadL rs 1)
theorem sure_ok (M : Addr) {x : Str} {rs : List Row} (hr : RowsOk x.length rs) (hx : x.length ≤ 1000) (b : Bag) : F_sure M [machD M x rs] b = .ok (.tup ((sureL rs).map D.int)) b := by
  have n1 := hr.n1
  have h1 := check_ok M x rs b
  have h2 := leads_ok M hr hx 1 b
  have h3 := len_M M x rs b
  have h4 := lc_filt (i := 2) (b := b) (ρ := [some (.sh (machD M x rs)), some (.sh (lD (leadL rs 1))), none]) (T := (bB (e2 ninQ (eV 2) (eV 1)))) (F := eV 2) (fun k => !decide (k ∈ leadL rs 1)) D.int (nums rs.length) (fun k hk => by
    have := ninQ_lst k (leadL rs 1)
    unfold lD
    simp [-ninQ, this]) (fun k _ _ => by simp)
  have hn : (rs.length : Int) ≤ 1000000 := by omega
  have hn' : rs.length ≤ 1000000 := by omega
  have hn0 : (0 : Int) ≤ rs.length := by omega
  have hn2 : (rs.length : Int) < 9223372036854775808 := by omega
  have hn3 : rs.length < 9223372036854775808 := by omega
  have hl : (nums rs.length).length ≤ 100000 := by rw [len_nums]; omega
  have el : (nums rs.length).filter (fun k => !decide (k ∈ leadL rs 1)) = sureL rs := rfl
  rw [el] at h4
  unfold F_sure G_sure
  unfold machD lD at h4
  unfold machD at h1 h2 h3 ⊢
  simp [h1, h2, aRng, h3, hn0, hn, hn', hn2, hn3, range_nums, hl, h4, tupleF]
end DL

set_option maxHeartbeats 1000000
namespace DL
open PySem PySem.Spec PyProof.Rows L2
noncomputable def deadL (rs : List Row) : List Int := (nums rs.length).filter fun k => !decide (k ∈ leadL rs 0)
theorem dead_ok (M : Addr) {x : Str} {rs : List Row} (hr : RowsOk x.length rs) (hx : x.length ≤ 1000) (b : Bag) : F_dead M [machD M x rs] b = .ok (.lst ((deadL rs).map D.int)) b := by
  have n1 := hr.n1
  have h2 := live_ok M hr hx b
  have h3 := len_M M x rs b
  have h4 := lc_filt (i := 2) (b := b) (ρ := [some (.sh (machD M x rs)), some (.sh (.tup ((leadL rs 0).map D.int))), none]) (T := (bB (e2 ninQ (eV 2) (eV 1)))) (F := eV 2) (fun k => !decide (k ∈ leadL rs 0)) D.int (nums rs.length) (fun k hk => by
    have := ninQ_tup k (leadL rs 0)
    simp [-ninQ, this]) (fun k _ _ => by simp)
  have hn : (rs.length : Int) ≤ 1000000 := by omega
  have hn' : rs.length ≤ 1000000 := by omega
  have hn0 : (0 : Int) ≤ rs.length := by omega
  have hn2 : (rs.length : Int) < 9223372036854775808 := by omega
  have hn3 : rs.length < 9223372036854775808 := by omega
  have hl : (nums rs.length).length ≤ 100000 := by rw [len_nums]; omega
  have el : (nums rs.length).filter (fun k => !decide (k ∈ leadL rs 0)) = deadL rs := rfl
  rw [el] at h4
  unfold F_dead G_dead
  unfold machD at h2 h3 h4 ⊢
  simp [h2, aRng, h3, hn0, hn, hn', hn2, hn3, range_nums, hl, h4]
end DL

set_option maxHeartbeats 1000000
namespace DL
open PySem PySem.Spec PyProof.Rows L2
abbrev dcS (f : List Int) (wd : Int → Str) : D := .dct (f.map Sum.inl) (f.map fun k => .str (wd k))
def pairD (p : Nat × Int) : D := .tup [.str (one p.1), .int p.2]
def bWf : SF := (sIf (bAnd (bB (e2 inQ (eV 10) (eV 3))) (bB (eInDOw true 4 (eV 10)))) (sSeq (sDput 4 (eV 10) (e2 addF (eDgOw 4 (eV 7)) (eV 9))) (sPush 5 (eV 10))) sNil)
theorem wf_inner (s0 s1 s2 s6 s8 : Option SD) (ins : List Int) {num : Int} (b : Bag) : ∀ (ps : List (Nat × Int)) (f : List Int) (wd : Int → Str), num ∈ f → f.Nodup → f.length + ps.length ≤ 1000 → (∀ k ∈ f, (wd k).length ≤ f.length) → ∀ (o9 o10 : Option D), ∃ (wd' : Int → Str) (o9' o10' : Option D),
    loopD (gT 2 (gsC (gN 9) (gsC (gN 10) gsN))) bWf (ps.map pairD) [s0, s1, s2, some (.sh (lD ins)), some (.ow (dcS f wd)), some (.ow (lD f)), s6, some (.sh (.int num)), s8, o9.map SD.sh, o10.map SD.sh] b =
    .nx [s0, s1, s2, some (.sh (lD ins)), some (.ow (dcS ((ps.map (·.2)).foldl (addN ins) f) wd')), some (.ow (lD ((ps.map (·.2)).foldl (addN ins) f))), s6, some (.sh (.int num)), s8, o9'.map SD.sh, o10'.map SD.sh] b ∧
    (∀ k ∈ f, wd' k = wd k) ∧ (∀ k ∈ (ps.map (·.2)).foldl (addN ins) f, (wd' k).length ≤ ((ps.map (·.2)).foldl (addN ins) f).length) ∧ ∀ k ∈ (ps.map (·.2)).foldl (addN ins) f, k ∈ f ∨ ∃ p ∈ ps, p.2 = k ∧ wd' k = wd num ++ one p.1
  | [], f, wd, _, _, _, hw, o9, o10 => ⟨wd, o9, o10, rfl, fun _ _ => rfl, hw, fun k hk => .inl hk⟩
  | (c, g) :: ps, f, wd, hn, nd, hl, hw, o9, o10 => by
    rw [List.length_cons] at hl
    by_cases hin : g ∈ ins ∧ g ∉ f
    · obtain ⟨h1, h2⟩ := hin
      have ea : addN ins f g = f ++ [g] := by unfold addN; rw [if_pos ⟨h1, h2⟩]
      have hone : (one c).length = 1 := rfl
      have nd2 : (f ++ [g]).Nodup := by
        rw [List.nodup_append]
        exact ⟨nd, by simp, fun a ha d hd => by
          have : d = g := by simpa using hd
          rw [this]
          intro e
          exact h2 (by rw [← e]; exact ha)⟩
      have hwn := hw num hn
      obtain ⟨wd', o9', o10', i1, i2, i3, i4⟩ := wf_inner s0 s1 s2 s6 s8 ins b ps (f ++ [g]) (fun k => if k = g then wd num ++ one c else wd k) (List.mem_append_left _ hn) nd2 (by rw [List.length_append, List.length_singleton]; omega) (fun k hk => by
        rw [List.length_append, List.length_singleton]
        show (if k = g then wd num ++ one c else wd k).length ≤ _
        split
        · rw [app_len, hone]; omega
        · rename_i hkg
          rcases List.mem_append.mp hk with hk | hk
          · have := hw k hk; omega
          · exact absurd (by simpa using hk) hkg) (some (.str (one c))) (some (.int g))
      refine ⟨wd', o9', o10', ?_, fun k hk => ?_, ?_, fun k hk => ?_⟩
      · rw [List.map_cons, List.map_cons, List.foldl_cons, ea]
        unfold loopD
        have m1 := inQ_lst g ins
        have m2 := has_map g f
        have l1 := look_map (fun k => D.str (wd k)) hn
        have hp := put_new (g := fun k => D.str (wd k)) (e := .str (wd num ++ one c)) h2
        have e2 : dcS (f ++ [g]) (fun k => if k = g then wd num ++ one c else wd k) = .dct ((f ++ [g]).map Sum.inl) (f.map (fun k => D.str (wd k)) ++ [.str (wd num ++ one c)]) := by
          unfold dcS
          congr 1
          rw [List.map_append]
          congr 1
          · exact List.map_congr_left fun k hk => by
              have : ¬ k = g := fun e => h2 (by rw [← e]; exact hk)
              simp [this]
          · simp
        rw [e2] at i1
        have hlen : (wd num).length + (one c).length ≤ 100000 := by omega
        have hfl : f.length ≤ 100000 := by omega
        have hnum : ¬ num = g := fun e => h2 (by rw [← e]; exact hn)
        have h2d : decide (g ∈ f) = false := by simpa using h2
        rw [h2d] at m2
        unfold lD at i1 ⊢
        have hP : (∀ (x : Int), x ∈ f → ¬x = g) = True := eq_true fun x hx e => h2 (by rw [← e]; exact hx)
        simp [-inQ, -List.map_append, pairD, bWf, m1, h1, hP, l1, hlen, hfl, hp] at i1 ⊢
        simp only [List.map_append, List.map_cons, List.map_nil] at i1 ⊢
        exact i1
      · have := i2 k (List.mem_append_left _ hk)
        rw [this]
        have hkg : ¬ k = g := fun e => h2 (by rw [← e]; exact hk)
        simp [hkg]
      · rw [List.map_cons, List.foldl_cons, ea]; exact i3
      · rw [List.map_cons, List.foldl_cons, ea] at hk
        rcases i4 k hk with h | ⟨p, hp, hpk, e⟩
        · rcases List.mem_append.mp h with h | h
          · exact .inl h
          · right
            have hkg : k = g := by simpa using h
            refine ⟨(c, g), List.mem_cons_self, hkg.symm, ?_⟩
            rw [i2 k (by rw [hkg]; simp), hkg]
            simp
        · right
          refine ⟨p, List.mem_cons_of_mem _ hp, hpk, ?_⟩
          rw [e]
          have : ¬ num = g := fun e => h2 (by rw [← e]; exact hn)
          simp [this]
    · have ea : addN ins f g = f := by unfold addN; rw [if_neg hin]
      obtain ⟨wd', o9', o10', i1, i2, i3, i4⟩ := wf_inner s0 s1 s2 s6 s8 ins b ps f wd hn nd (by omega) hw (some (.str (one c))) (some (.int g))
      refine ⟨wd', o9', o10', ?_, i2, by rw [List.map_cons, List.foldl_cons, ea]; exact i3, fun k hk => by
        rw [List.map_cons, List.foldl_cons, ea] at hk
        rcases i4 k hk with h | ⟨p, hp, h⟩
        · exact .inl h
        · exact .inr ⟨p, List.mem_cons_of_mem _ hp, h⟩⟩
      rw [List.map_cons, List.map_cons, List.foldl_cons, ea]
      unfold loopD
      have m1 := inQ_lst g ins
      have m2 := has_map g f
      unfold lD at i1 ⊢
      by_cases h1 : g ∈ ins
      · have h2 : g ∈ f := Classical.byContradiction fun h => hin ⟨h1, h⟩
        have h2d : decide (g ∈ f) = true := by simpa using h2
        rw [h2d] at m2
        have hP : (∀ (x : Int), x ∈ f → ¬x = g) = False := eq_false fun h => h g h2 rfl
        simp [-inQ, pairD, bWf, m1, h1, hP] at i1 ⊢
        exact i1
      · simp [-inQ, pairD, bWf, m1, h1] at i1 ⊢
        exact i1
def bWfW : SF := (sSeq (sAsg (eIxOw 5 (eV 6)) (gN 7)) (sSeq (sAsg (eIx (eV 1) (eV 7)) (gN 8)) (sSeq (sFor (aZipX (aCons (eV 0) (aCons (eV 8) aNil))) (gT 2 (gsC (gN 9) (gsC (gN 10) gsN))) bWf) (sAug 6 (eC (.int 1))))))
structure WInv (sc : Int → List Int) (ins : List Int) (bg : Int) (f : List Int) (s : Nat) : Prop where
  nd : f.Nodup
  hd : f[0]? = some bg
  path : ∀ x ∈ f, x = bg ∨ Pth sc (· ∈ ins) bg x
  more : ∀ (i : Nat) (y : Int), i < s → f[i]? = some y → ∀ j ∈ sc y, j ∈ ins → j ∈ f
  le : s ≤ f.length
theorem zip_pairs (x : Str) (gs : List Int) : zipOf (signsOf x) (gs.map D.int) = (x.cps.toList.zip gs).map pairD := by
  unfold zipOf signsOf
  generalize x.cps.toList = cs
  induction cs generalizing gs with
  | nil => rfl
  | cons c cs ih =>
    cases gs with
    | nil => rfl
    | cons g gs =>
      rw [List.map_cons, List.map_cons, List.zipWith_cons_cons, ih, List.zip_cons_cons, List.map_cons]
      rfl
/-- the order in which numbers are met -/
def bfsW (sc : Int → List Int) (ins : List Int) : Nat → List Int → Nat → List Int
  | 0, f, _ => f
  | fuel + 1, f, s => if s = f.length then f else bfsW sc ins fuel ((sc (f.getD s 0)).foldl (addN ins) f) (s + 1)
section
variable {A : List D} {n : Nat} {sc : Int → List Int} (G : Gr A n sc) {x : Str} (hw : ∀ k : Int, 0 ≤ k → k < n → (sc k).length = x.length) (hx : x.length ≤ 100) {ins : List Int} (N : NsW n ins) {bg : Int} (b0 : 0 ≤ bg) (b1 : bg < n) (hbi : bg ∈ ins) (hn8 : n ≤ 800)
include G hw hx N b0 b1 hbi hn8
theorem wf_loop {R : Int → Str → Prop} (hR : ∀ (y : Int) (w : Str), 0 ≤ y → y < n → y ∈ ins → R y w → ∀ p ∈ x.cps.toList.zip (sc y), p.2 ∈ ins → R p.2 (w ++ one p.1)) (b : Bag) : ∀ (fuel : Nat) (f : List Int) (wd : Int → Str) (s : Nat), WInv sc ins bg f s → (∀ k ∈ f, R k (wd k)) → (∀ k ∈ f, (wd k).length ≤ f.length) → n + 1 ≤ fuel + s → ∀ (o7 o8 o9 o10 : Option D), ∃ (f' : List Int) (wd' : Int → Str) (o7' o8' o9' o10' : Option D),
    whileD (bB (e2 ltF (eV 6) (eLenOw 5))) bWfW fuel [some (.sh (.str x)), some (.sh (.lst A)), some (.sh (.int bg)), some (.sh (lD ins)), some (.ow (dcS f wd)), some (.ow (lD f)), some (.sh (.int s)), o7.map SD.sh, o8.map SD.sh, o9.map SD.sh, o10.map SD.sh] b =
    .nx [some (.sh (.str x)), some (.sh (.lst A)), some (.sh (.int bg)), some (.sh (lD ins)), some (.ow (dcS f' wd')), some (.ow (lD f')), some (.sh (.int f'.length)), o7'.map SD.sh, o8'.map SD.sh, o9'.map SD.sh, o10'.map SD.sh] b ∧ WInv sc ins bg f' f'.length ∧ (∀ k ∈ f', R k (wd' k)) ∧ (∀ k ∈ f', (wd' k).length ≤ f'.length) ∧ f' = bfsW sc ins fuel f s
  | 0, f, wd, s, I, _, _, h, _, _, _, _ => by
    have hfl : f.length ≤ ins.length := nd_sub I.nd fun y hy => (I.path y hy).elim (fun e => by rw [e]; exact hbi) (·.last)
    have := N.len
    have := I.le
    omega
  | fuel + 1, f, wd, s, I, hRf, hwd, h, o7, o8, o9, o10 => by
    have hfl : f.length ≤ n := Nat.le_trans (nd_sub I.nd fun y hy => (I.path y hy).elim (fun e => by rw [e]; exact hbi) (·.last)) N.len
    by_cases hs : s = f.length
    · subst hs
      refine ⟨f, wd, o7, o8, o9, o10, ?_, I, hRf, hwd, by unfold bfsW; rw [if_pos rfl]⟩
      unfold whileD
      unfold lD
      simp
    · have hs : s < f.length := by have := I.le; omega
      have hfs : f[s]? = some f[s] := List.getElem?_eq_getElem hs
      have hm := List.getElem_mem hs
      generalize hy : f[s] = y at hfs hm
      have hyp := I.path y hm
      have hyi : y ∈ ins := hyp.elim (fun e => by rw [e]; exact hbi) (·.last)
      obtain ⟨y0, y1⟩ := N.lo y hyi
      obtain ⟨d, r1, r2⟩ := G.row y y0 y1
      have hlen := hw y y0 y1
      obtain ⟨wd', o9', o10', h1, h2, h3, h4⟩ := wf_inner (some (.sh (.str x))) (some (.sh (.lst A))) (some (.sh (.int bg))) (some (.sh (.int s))) (some (.sh d)) ins (num := y) b (x.cps.toList.zip (sc y)) f wd hm I.nd (by
        rw [List.length_zip, str_len, hlen]; omega) hwd o9 o10
      have ez : (x.cps.toList.zip (sc y)).map (·.2) = sc y := by
        have := List.map_snd_zip (l₁ := x.cps.toList) (l₂ := sc y) (by rw [str_len, hlen]; exact Nat.le_refl _)
        exact this
      rw [ez] at h1 h3 h4
      obtain ⟨d1, d2, t, d4⟩ := addN_spec ins (sc y) f I.nd
      have I2 : WInv sc ins bg ((sc y).foldl (addN ins) f) (s + 1) := by
        refine ⟨d1, ?_, fun z hz => ?_, fun i z hi hz j hj hji => ?_, ?_⟩
        · rw [d4, List.getElem?_append_left (by omega)]; exact I.hd
        · rcases (d2 z).mp hz with hz | ⟨hz, hzi⟩
          · exact I.path z hz
          · right
            rcases hyp with rfl | hp
            · exact .one hz hzi
            · exact hp.snoc hz hzi
        · have hz2 : f[i]? = some z := by
            rw [d4, List.getElem?_append_left (by omega)] at hz
            exact hz
          by_cases hi2 : i < s
          · exact (d2 j).mpr (.inl (I.more i z hi2 hz2 j hj hji))
          · have : i = s := by omega
            subst this
            rw [hfs] at hz2
            cases hz2
            exact (d2 j).mpr (.inr ⟨hj, hji⟩)
        · rw [d4, List.length_append]; omega
      have hR2 : ∀ k ∈ (sc y).foldl (addN ins) f, R k (wd' k) := fun k hk => by
        rcases h4 k hk with hf | ⟨p, hp, hpk, e⟩
        · rw [h2 k hf]; exact hRf k hf
        · rw [e, ← hpk]
          exact hR y (wd y) y0 y1 hyi (hRf y hm) p hp (by
            have := I2.path k hk
            rw [hpk]
            exact this.elim (fun e => by rw [e]; exact hbi) (·.last))
      obtain ⟨f', wd'', p7, p8, p9, p10, h5, h6⟩ := wf_loop hR b fuel _ wd' (s + 1) I2 hR2 h3 (by omega) (some (.int y)) (some d) o9' o10'
      refine ⟨f', wd'', p7, p8, p9, p10, ?_, h6.1, h6.2.1, h6.2.2.1, ?_⟩
      rotate_left
      · rw [h6.2.2.2]
        have e : bfsW sc ins (fuel + 1) f s = bfsW sc ins fuel ((sc (f.getD s 0)).foldl (addN ins) f) (s + 1) := by
          rw [bfsW]
          rw [if_neg (by omega)]
        rw [e, List.getD_eq_getElem?_getD, hfs]
        rfl
      unfold whileD
      have hlt : (s : Int) < (f.length : Int) := by omega
      have hix : atI (f.map D.int) (s : Int) = some (.int y) := atI_nat (by rw [List.getElem?_map, hfs]; rfl)
      have e1 : ((s + 1 : Nat) : Int) = (s : Int) + 1 := by omega
      rw [e1] at h5
      have hz : aZipX (aCons (eV 0) (aCons (eV 8) aNil)) [some (.sh (.str x)), some (.sh (.lst A)), some (.sh (.int bg)), some (.sh (lD ins)), some (.ow (dcS f wd)), some (.ow (lD f)), some (.sh (.int s)), some (.sh (.int y)), some (.sh d), o9.map SD.sh, o10.map SD.sh] b = .ok ((x.cps.toList.zip (sc y)).map pairD) b := by
        rw [← zip_pairs]
        rcases r2 with rfl | rfl <;> simp [aZipX]
      unfold lD at h1 h5 hz ⊢
      simp only [bOw, bB, e2, eV, eLenOw, List.getElem?_cons_succ, List.getElem?_cons_zero, bind_ok_, ltF, List.length_map, hs, decide_true, pureO_some_, st_ok_, if_true, decide_eq_true hlt]
      unfold bWfW
      simp only [sSeq, sAsg, eIxOw, eV, eIx, List.getElem?_cons_succ, List.getElem?_cons_zero, bind_ok_, hix, pureO_some_, st_ok_, gN, List.set_cons_succ, List.set_cons_zero, seq_nx_, ixF, r1, sFor]
      rw [hz]
      simp only [st_ok_]
      rw [h1]
      simp only [seq_nx_, sAug, List.getElem?_cons_succ, List.getElem?_cons_zero, eC, st_ok_, List.set_cons_succ, List.set_cons_zero]
      exact h5
theorem words_okE {R : Int → Str → Prop} (hR : ∀ (y : Int) (w : Str), 0 ≤ y → y < n → y ∈ ins → R y w → ∀ p ∈ x.cps.toList.zip (sc y), p.2 ∈ ins → R p.2 (w ++ one p.1)) (hR0 : R bg "") (b : Bag) : ∃ (f : List Int) (wd : Int → Str), F_words_from [.str x, .lst A, .int bg, lD ins] b = .ok (dcS f wd) b ∧ f.Nodup ∧ f[0]? = some bg ∧ (∀ k, k ∈ f ↔ (k = bg ∨ Pth sc (· ∈ ins) bg k)) ∧ (∀ k ∈ f, R k (wd k)) ∧ (∀ k ∈ f, (wd k).length ≤ f.length) ∧ f = bfsW sc ins 100000 [bg] 0 := by
  have e0 : ("" : Str).length = 0 := by decide +kernel
  obtain ⟨f, wd, o7, o8, o9, o10, h1, I, IR, IL, IE⟩ := wf_loop G hw hx N b0 b1 hbi hn8 hR b 100000 [bg] (fun _ => "") 0 ⟨by simp, rfl, fun y hy => .inl (by simpa using hy), fun i y h => by omega, by simp⟩ (fun k hk => (by simpa using hk : k = bg) ▸ hR0) (fun k hk => by rw [e0]; exact Nat.zero_le _) (by omega) none none none none
  refine ⟨f, wd, ?_, I.nd, I.hd, fun k => ⟨I.path k, fun h => ?_⟩, IR, IL, IE⟩
  · unfold F_words_from G_words_from
    unfold bWfW bWf at h1
    unfold lD at h1 ⊢
    have ed : dcS [bg] (fun _ => "") = .dct [.inl bg] [.str ""] := rfl
    rw [ed] at h1
    simp [eDone, sWhile] at h1 ⊢
    simp [h1]
  · have h0 : bg ∈ f := List.mem_of_getElem? I.hd
    have cl : ∀ y ∈ f, ∀ j ∈ sc y, j ∈ ins → j ∈ f := fun y hy => by
      obtain ⟨i, hi, e⟩ := List.mem_iff_getElem.mp hy
      exact I.more i y hi (by rw [List.getElem?_eq_getElem hi, e])
    rcases h with rfl | h
    · exact h0
    · exact h.shut (fun y hy hyi => cl bg h0 y hy hyi) (fun y hy z hz hzi => cl y hy z hz hzi)
theorem words_okRW {R : Int → Str → Prop} (hR : ∀ (y : Int) (w : Str), 0 ≤ y → y < n → y ∈ ins → R y w → ∀ p ∈ x.cps.toList.zip (sc y), p.2 ∈ ins → R p.2 (w ++ one p.1)) (hR0 : R bg "") (b : Bag) : ∃ (f : List Int) (wd : Int → Str), F_words_from [.str x, .lst A, .int bg, lD ins] b = .ok (dcS f wd) b ∧ f.Nodup ∧ f[0]? = some bg ∧ (∀ k, k ∈ f ↔ (k = bg ∨ Pth sc (· ∈ ins) bg k)) ∧ (∀ k ∈ f, R k (wd k)) ∧ ∀ k ∈ f, (wd k).length ≤ f.length := by
  obtain ⟨f, wd, h1, h2, h3, h4, h5, h6, _⟩ := words_okE G hw hx N b0 b1 hbi hn8 hR hR0 b
  exact ⟨f, wd, h1, h2, h3, h4, h5, h6⟩
theorem words_okW (b : Bag) : ∃ (f : List Int) (wd : Int → Str), F_words_from [.str x, .lst A, .int bg, lD ins] b = .ok (dcS f wd) b ∧ f.Nodup ∧ f[0]? = some bg ∧ ∀ k, k ∈ f ↔ (k = bg ∨ Pth sc (· ∈ ins) bg k) := by
  obtain ⟨f, wd, h1, h2, h3, h4, _⟩ := words_okRW (R := fun _ _ => True) G hw hx N b0 b1 hbi hn8 (fun _ _ _ _ _ _ _ _ _ => trivial) trivial b
  exact ⟨f, wd, h1, h2, h3, h4⟩
end
section
variable {A : List D} {n : Nat} {sc : Int → List Int} (G : Gr A n sc) {x : Str} (hw : ∀ k : Int, 0 ≤ k → k < n → (sc k).length = x.length) (hx : x.length ≤ 100) {ins : List Int} (N : Ns n ins) {bg : Int} (b0 : 0 ≤ bg) (b1 : bg < n) (hbi : bg ∈ ins) (hn8 : n ≤ 800)
include G hw hx N b0 b1 hbi hn8
theorem words_okR {R : Int → Str → Prop} (hR : ∀ (y : Int) (w : Str), 0 ≤ y → y < n → y ∈ ins → R y w → ∀ p ∈ x.cps.toList.zip (sc y), p.2 ∈ ins → R p.2 (w ++ one p.1)) (hR0 : R bg "") (b : Bag) : ∃ (f : List Int) (wd : Int → Str), F_words_from [.str x, .lst A, .int bg, lD ins] b = .ok (dcS f wd) b ∧ f.Nodup ∧ f[0]? = some bg ∧ (∀ k, k ∈ f ↔ (k = bg ∨ Pth sc (· ∈ ins) bg k)) ∧ (∀ k ∈ f, R k (wd k)) ∧ ∀ k ∈ f, (wd k).length ≤ f.length :=
  words_okRW G hw hx N.w b0 b1 hbi hn8 hR hR0 b
theorem words_ok (b : Bag) : ∃ (f : List Int) (wd : Int → Str), F_words_from [.str x, .lst A, .int bg, lD ins] b = .ok (dcS f wd) b ∧ f.Nodup ∧ f[0]? = some bg ∧ ∀ k, k ∈ f ↔ (k = bg ∨ Pth sc (· ∈ ins) bg k) :=
  words_okW G hw hx N.w b0 b1 hbi hn8 b
end
end DL

set_option maxHeartbeats 1000000
namespace DL
open PySem PySem.Spec PyProof.Rows L2
theorem row_len {k : Nat} {rs : List Row} (hr : RowsOk k rs) {y : Int} (y0 : 0 ≤ y) (y1 : y < rs.length) : (scM rs y).length = k := (rowAt_ok hr y0 y1).2.len
theorem pth_all {k : Nat} {rs : List Row} (hr : RowsOk k rs) (hk : k ≤ 1000) {a g : Int} (a0 : 0 ≤ a) (a1 : a < rs.length) : Pth (scM rs) (· ∈ nums rs.length) a g ↔ Pth (scM rs) (fun _ => True) a g := by
  have G := gr_M hr hk
  constructor
  · exact fun h => h.mono fun _ _ => trivial
  · intro h
    induction h with
    | one h1 _ => exact .one h1 (mem_nums.mpr (G.go _ a0 a1 _ h1))
    | step h1 _ _ ih =>
      obtain ⟨c0, c1⟩ := G.go _ a0 a1 _ h1
      exact .step h1 (mem_nums.mpr ⟨c0, c1⟩) (ih c0 c1)
/-- the states that are reached -/
def Reach (rs : List Row) (k : Int) : Prop := k = 0 ∨ Pth (scM rs) (fun _ => True) 0 k
theorem reach_in {k : Nat} {rs : List Row} (hr : RowsOk k rs) (hk : k ≤ 1000) {a : Int} (h : Reach rs a) : 0 ≤ a ∧ a < rs.length := by
  have n0 := hr.n0
  rcases h with rfl | h
  · omega
  · exact mem_nums.mp ((pth_all hr hk (by omega) (by omega)).mpr h).last
theorem first_ok (M : Addr) {x : Str} {rs : List Row} (hr : RowsOk x.length rs) (hx : x.length ≤ 100) (b : Bag) : ∃ (f : List Int) (wd : Int → Str), F_first_words M [machD M x rs] b = .ok (dcS f wd) b ∧ f.Nodup ∧ f[0]? = some 0 ∧ ∀ k, k ∈ f ↔ Reach rs k := by
  have n0 := hr.n0
  have n1 := hr.n1
  have G := gr_M hr (by omega : x.length ≤ 1000)
  obtain ⟨f, wd, h1, h2, h3, h4⟩ := words_ok G (x := x) (fun y y0 y1 => row_len hr y0 y1) hx (ns_nums rs.length) (bg := 0) (by decide) (by omega) (mem_nums.mpr ⟨by decide, by omega⟩) (by omega) b
  refine ⟨f, wd, ?_, h2, h3, fun k => ?_⟩
  · have a1 := arrows_ok M hr b
    have a2 := len_M M x rs b
    have a3 := fld_l M x rs
    have hn0 : (0 : Int) ≤ rs.length := by omega
    have hn1 : (rs.length : Int) ≤ 100000 := by omega
    have hn1' : rs.length ≤ 100000 := by omega
    have hn2 : (rs.length : Int) < 9223372036854775808 := by omega
    have hn3 : rs.length < 9223372036854775808 := by omega
    unfold F_first_words G_first_words
    unfold machD at a1 a2 a3 ⊢
    unfold lD at h1
    simp [a1, a2, a3, hn0, hn1, hn1', hn2, hn3, range_nums, h1]
  · rw [h4]
    unfold Reach
    rw [pth_all hr (by omega) (by decide) (by omega)]
theorem reached_ok (M : Addr) {x : Str} {rs : List Row} (hr : RowsOk x.length rs) (hx : x.length ≤ 100) (b : Bag) : ∃ (f : List Int), F_reached M [machD M x rs] b = .ok (lD f) b ∧ f.Nodup ∧ ∀ k, k ∈ f ↔ Reach rs k := by
  obtain ⟨f, wd, h1, h2, h3, h4⟩ := first_ok M hr hx b
  refine ⟨f, ?_, h2, h4⟩
  unfold F_reached G_reached
  unfold machD at h1 ⊢
  unfold dcS at h1
  unfold lD
  simp [h1]
theorem allF_bl (bs : List Bool) : allF [.lst (bs.map D.bl)] = some (.bl (bs.all id)) := by
  show ((truths (bs.map D.bl)).map fun ks => D.bl (ks.all id)) = _
  rw [truths_bl]
  rfl
end DL

set_option maxHeartbeats 1000000
namespace DL
open PySem PySem.Spec PyProof.Rows L2
abbrev toolD (x : Str) (rs : List Row) : D := .lst [.str x, rowsD rs]
def bTool : SF := (sSeq (sAsg (eB tupleF (aCons (eLc (aAny (eV 1)) [8] (gN 8) bYes (eCall (F__law_draw) (aCons (eV 0) (aCons (eV 4) aNil)))) aNil)) (gN 7)) (sPush 5 (eTup (aCons (eCall (F__law_draw) (aCons (eV 0) (aCons (e2 addF (eV 3) (eC (.int 1))) aNil))) (aCons (eV 7) aNil)))))
theorem pgoals_ok {x : Str} {n : Nat} (hn : 1 ≤ n) (hn6 : n ≤ 6) (ρ : Env) (b : Bag) (e0 : ρ[0]? = some (some (.sh .bag))) (e4 : ρ[4]? = some (some (.sh (.int n)))) :
    ∃ (gs : List Int) (b' : Bag), lcD (gN 8) bYes (eCall (F__law_draw) (aCons (eV 0) (aCons (eV 4) aNil))) (signsOf x) ρ b = .ok (gs.map D.int) b' ∧ gs.length = x.length ∧ ∀ g ∈ gs, 0 ≤ g ∧ g < n := by
  obtain ⟨ys, b', h2, h3, h4⟩ := lc_some (i := 8) (F := (eCall (F__law_draw) (aCons (eV 0) (aCons (eV 4) aNil)))) (fun y => ∃ g : Int, y = .int g ∧ (0 ≤ g ∧ g < n)) (signsOf x) ρ b (fun d hd b => by
    obtain ⟨g, b', h5, h6, h7⟩ := pdraw_ok b (m := n) (by omega) (by omega)
    refine ⟨.int g, b', ?_, g, rfl, h6, h7⟩
    simp [e0, e4, h5])
  obtain ⟨gs, rfl, hg⟩ := ints_of ys h4
  refine ⟨gs, b', h2, ?_, hg⟩
  rw [List.length_map] at h3
  rw [h3]
  simp [signsOf, Str.length]
theorem tool_step {x : Str} {n : Nat} {top : Int} (hx : x ∈ sgs) (hn : 1 ≤ n) (hn6 : n ≤ 6) (ht : 0 ≤ top) (ht6 : top ≤ 6) (o2 : Option D) (rows : List D) (hrows : rows.length ≤ 100) (o6 : Option D) (o7 : Option D) (b : Bag) :
    ∃ r b' w7, bTool [some (.sh .bag), some (.sh (.str x)), o2.map SD.sh, some (.sh (.int top)), some (.sh (.int n)), some (.ow (.lst rows)), o6.map SD.sh, o7.map SD.sh, none] b =
      .nx [some (.sh .bag), some (.sh (.str x)), o2.map SD.sh, some (.sh (.int top)), some (.sh (.int n)), some (.ow (.lst (rows ++ [rowD r]))), o6.map SD.sh, (some w7).map SD.sh, none] b' ∧ RowOk x.length n r := by
  obtain ⟨gs, b1, hg, hgl, hgo⟩ := pgoals_ok (x := x) hn hn6 [some (.sh .bag), some (.sh (.str x)), o2.map SD.sh, some (.sh (.int top)), some (.sh (.int n)), none, o6.map SD.sh, o7.map SD.sh, none] b rfl rfl
  obtain ⟨col, b2, hc, c0, c1⟩ := pdraw_ok b1 (m := top + 1) (by omega) (by omega)
  obtain ⟨l1, l2⟩ := sg_len hx
  have hsl : (signsOf x).length ≤ 100000 := by
    have : (signsOf x).length = x.length := by simp [signsOf, Str.length]
    omega
  have hr1000 : rows.length ≤ 100000 := by omega
  refine ⟨(col, gs), b2, .tup (gs.map D.int), ?_, ⟨c0, by show col ≤ 6; omega, hgl, hgo⟩⟩
  unfold bTool rowD
  cases o7 <;> cases o2 <;> cases o6 <;> simp [hsl] at hg ⊢ <;> simp [hg, hc, tupleF, hr1000]
theorem tool_ok (b : Bag) {x : Str} (hx : x ∈ sgs) {most : Nat} (hm : 1 ≤ most) (hm6 : most ≤ 6) {top : Int} (t0 : 0 ≤ top) (t6 : top ≤ 6) : ∃ rs b', F__law_tool [.bag, .str x, .int most, .int top] b = .ok (toolD x rs) b' ∧ RowsOk x.length rs := by
  obtain ⟨m, b1, hmm, m0, m1⟩ := pdraw_ok b (m := most) (by omega) (by omega)
  obtain ⟨n, hn⟩ : ∃ n : Nat, 1 + m = (n : Int) := ⟨(1 + m).toNat, by omega⟩
  have hn1 : 1 ≤ n := by omega
  have hn6 : n ≤ 6 := by omega
  obtain ⟨ρ', b', e1, rs, o6, o7, e2, e3, e4⟩ := loop_ind (g := gN 6) (B := bTool)
    (fun i ρ b => ∃ (rs : List Row) (o6 o7 : Option D), ρ = [some (.sh .bag), some (.sh (.str x)), some (.sh (.int most)), some (.sh (.int top)), some (.sh (.int n)), some (.ow (.lst (rs.map rowD))), o6.map SD.sh, o7.map SD.sh, none] ∧ rs.length = i ∧ ∀ r ∈ rs, RowOk x.length n r)
    (rangeOf (n : Int)) 0 (fun i d hd ρ b ⟨rs, o6, o7, h1, h2, h3⟩ => by
      subst h1
      obtain ⟨rfl, hi⟩ := range_get hd
      obtain ⟨r, b', w7, h4, h5⟩ := tool_step (n := n) hx hn1 hn6 t0 t6 (some (.int most)) (rs.map rowD) (by rw [List.length_map]; omega) (some (.int i)) o7 b
      refine ⟨_, _, b', rfl, h4, rs ++ [r], some (.int i), some w7, ?_, ?_, ?_⟩
      · rw [List.map_append]; rfl
      · rw [List.length_append, h2]; rfl
      · intro q hq
        rcases List.mem_append.mp hq with hq | hq
        · exact h3 q hq
        · have : q = r := by simpa using hq
          subst this
          exact h5) [some (.sh .bag), some (.sh (.str x)), some (.sh (.int most)), some (.sh (.int top)), some (.sh (.int n)), some (.ow (.lst [])), none, none, none] b1 ⟨[], none, none, rfl, rfl, fun _ h => by cases h⟩
  rw [range_len, Nat.zero_add] at e3
  refine ⟨rs, b', ?_, ⟨by omega, by omega, fun r hr => by rw [e3]; exact e4 r hr⟩⟩
  subst e2
  unfold F__law_tool G__law_tool
  unfold bTool at e1
  have hn9 : (n : Int) ≤ 1000000 := by omega
  cases o6 <;> simp [hmm, hn, sFor, aRng, e1, tupleF, rowsD, hn9]
theorem made_ok (M : Addr) (b : Bag) {x : Str} {rs : List Row} (hx : x ∈ sgs) (hr : RowsOk x.length rs) : F__law_made M [toolD x rs] b = .ok (machD M x rs) b := by
  have h := make_ok M b hx hr
  unfold F__law_made G__law_made
  unfold machD toolD
  have hrow : rowsD rs = .tup (rs.map rowD) := rfl
  rw [hrow] at h ⊢
  simp [eMake, h]
/-- a law that goes through its purses by a loop -/
theorem law_for (Q : DFn) (c : Nat) (hc : 2 ≤ c) (hc2 : c ≤ 1000) (hQ : ∀ x y : Int, ∃ b', Q [.bag] ⟨x, y, 0⟩ = .ok (.bl true) b') (ns : List Int) (h : ns.length ≤ 63) :
    ∃ b', runD 2 1 (sSeq (sFor (aRng (aCons (eB maxF (aCons (eC (.int 2)) (aCons (eB minF (aCons (eB lenF (aCons (eV 0) aNil)) (aCons (eC (.int c)) aNil))) aNil))) aNil)) (gN 1) (sIf (bNot (bB (eBag Q F__law_purse (aCons (eV 0) (aCons (eV 1) aNil))))) (sRet (eC (.bl false))) sNil)) (sRet (eC (.bl true)))) [.fl (ns.map D.int)] ⟨0, 0, 0⟩ = .ok (.bl true) b' := by
  obtain ⟨n, hn, hn5⟩ : ∃ n : Nat, (if 2 < (if c < ns.length then (c : Int) else (ns.length : Int)) then (if c < ns.length then (c : Int) else (ns.length : Int)) else 2) = (n : Int) ∧ n ≤ c := by
    by_cases h1 : c < ns.length
    · rw [if_pos h1]
      by_cases h2 : (2 : Int) < c
      · exact ⟨c, by rw [if_pos h2], by omega⟩
      · exact ⟨2, by rw [if_neg h2]; rfl, by omega⟩
    · rw [if_neg h1]
      by_cases h2 : (2 : Int) < ns.length
      · exact ⟨ns.length, by rw [if_pos h2], by omega⟩
      · exact ⟨2, by rw [if_neg h2]; rfl, by omega⟩
  obtain ⟨ρ', b', e1, o1, e2⟩ := loop_ind (g := gN 1) (B := (sIf (bNot (bB (eBag Q F__law_purse (aCons (eV 0) (aCons (eV 1) aNil))))) (sRet (eC (.bl false))) sNil))
    (fun i ρ b => ∃ o1 : Option D, ρ = [some (.sh (.fl (ns.map D.int))), o1.map SD.sh])
    (rangeOf (n : Int)) 0 (fun i d hd ρ b ⟨o1, h1⟩ => by
      subst h1
      obtain ⟨rfl, hi⟩ := range_get hd
      obtain ⟨x, y, h5⟩ := purse_ok ns h i b
      obtain ⟨b2, h6⟩ := hQ x y
      refine ⟨_, [some (.sh (.fl (ns.map D.int))), some (.sh (.int i))], b, rfl, ?_, some (.int i), rfl⟩
      simp [eBag, h5, h6]) [some (.sh (.fl (ns.map D.int))), none] ⟨0, 0, 0⟩ ⟨none, rfl⟩
  subst e2
  have hn9 : (n : Int) ≤ 1000000 := by omega
  refine ⟨b', ?_⟩
  have hl : ns.length ≤ 100000 := by omega
  have hh : aRng (aCons (eB maxF (aCons (eC (.int 2)) (aCons (eB minF (aCons (eB lenF (aCons (eV 0) aNil)) (aCons (eC (.int c)) aNil))) aNil))) aNil) [some (.sh (.fl (ns.map D.int))), none] ⟨0, 0, 0⟩ = .ok (rangeOf (n : Int)) ⟨0, 0, 0⟩ := by
    simp [minF, maxF, aRng]
    rw [hn]
    simp [hn9]
  have hs : startE 2 [.fl (ns.map D.int)] = [some (.sh (.fl (ns.map D.int))), none] := rfl
  simp only [runD, List.length_singleton, if_true, hs, sSeq, sFor, hh, st_ok_, e1, seq_nx_]
  rfl
end DL

set_option maxHeartbeats 1000000
namespace DL
open PySem PySem.Spec PyProof.Rows L2
def bNest : SF := (sFor (aAny (eCall (F_loops_as_asked) (aCons (eV 3) (aCons (eV 5) (aCons (eLst (aCons (eTup (aCons (eV 4) (aCons (eV 1) aNil))) aNil)) aNil))))) (gN 6) (sRet (eTup (aCons (eV 6) (aCons (eV 5) aNil)))))
theorem asked_M (rs : List Row) (ev : Int) : asOf [(colM rs, ev)] = [(colour rs, ev)] := by
  show [(colL (colM rs), ev)] = _
  rw [show colL (colM rs) = colour rs from funext fun k => colL_M rs k]
theorem laaM_ok {k : Nat} {rs : List Row} (hr : RowsOk k rs) (hk : k ≤ 1000) {ns : List Int} (nd : ns.Nodup) (hn : ∀ k ∈ ns, 0 ≤ k ∧ k < rs.length) (ev : Int) (b : Bag) : ∃ Ls : List (List Int), F_loops_as_asked [.lst (arrD rs), lD ns, .lst [.tup [.lst ((colM rs).map D.int), .int ev]]] b = .ok (.lst (Ls.map lD)) b ∧ (∀ l ∈ Ls, l.Nodup ∧ (∀ k ∈ l, k ∈ ns) ∧ GLoop (scM rs) [(colour rs, ev)] (· ∈ l)) ∧ ∀ S : Int → Prop, GLoop (scM rs) [(colour rs, ev)] S → (∀ a, S a → a ∈ ns) → ∃ l ∈ Ls, ∀ a, S a → a ∈ l := by
  have G := gr_M hr hk
  obtain ⟨Ls, h4, I, hLn⟩ := laa_ok G ⟨nd, hn⟩ [(colM rs, ev)] (fun p hp => by
    have : p = (colM rs, ev) := by simpa using hp
    subst this
    simp [colM]) b
  refine ⟨Ls, h4, fun l hl => ⟨I.fnd l hl, I.fsub l hl, by rw [← asked_M]; exact I.fgood l hl⟩, fun S hS hn => ?_⟩
  rw [← asked_M] at hS
  rcases I.all S hS hn with h | ⟨w, hw, _⟩
  · exact h
  · cases hw
abbrev hdN (M : Addr) (x : Str) (rs : List Row) (p q : Int) : List (Option SD) := [some (.sh (machD M x rs)), some (.sh (.int p)), some (.sh (.int q)), some (.sh (.lst (arrD rs))), some (.sh (.lst ((colM rs).map D.int)))]
theorem nest_out (M : Addr) {x : Str} {rs : List Row} (hr : RowsOk x.length rs) (hx : x.length ≤ 1000) (p q : Int) (b : Bag) : ∀ (Ls : List (List Int)), (∀ l ∈ Ls, l.Nodup ∧ ∀ k ∈ l, 0 ≤ k ∧ k < rs.length) → ∀ (o5 o6 : Option D),
    (∃ o5' o6' : Option D, loopD (gN 5) bNest (Ls.map lD) (hdN M x rs p q ++ [o5.map SD.sh, o6.map SD.sh]) b = .nx (hdN M x rs p q ++ [o5'.map SD.sh, o6'.map SD.sh]) b ∧ ∀ l ∈ Ls, ∀ S : Int → Prop, GLoop (scM rs) [(colour rs, p)] S → ¬ ∀ a, S a → a ∈ l) ∨
    ∃ l a : List Int, loopD (gN 5) bNest (Ls.map lD) (hdN M x rs p q ++ [o5.map SD.sh, o6.map SD.sh]) b = .rt (.tup [lD l, lD a]) b ∧ a ∈ Ls ∧ l.Nodup ∧ (∀ k ∈ l, k ∈ a) ∧ GLoop (scM rs) [(colour rs, p)] (· ∈ l)
  | [], _, o5, o6 => .inl ⟨o5, o6, rfl, fun l hl => by cases hl⟩
  | a :: Ls, h, o5, o6 => by
    obtain ⟨nd, lo⟩ := h a List.mem_cons_self
    obtain ⟨Ls', h1, h2, h3⟩ := laaM_ok hr hx nd lo p b
    have hset : gN 5 (lD a) (hdN M x rs p q ++ [o5.map SD.sh, o6.map SD.sh]) b = some (hdN M x rs p q ++ [some (.sh (lD a)), o6.map SD.sh], b) := rfl
    cases Ls' with
    | nil =>
      have hb : bNest (hdN M x rs p q ++ [some (.sh (lD a)), o6.map SD.sh]) b = .nx (hdN M x rs p q ++ [some (.sh (lD a)), o6.map SD.sh]) b := by
        unfold bNest hdN
        unfold lD at h1 ⊢
        simp [sFor, h1, loopD]
      have hno : ∀ S : Int → Prop, GLoop (scM rs) [(colour rs, p)] S → ¬ ∀ k, S k → k ∈ a := fun S hS hs => by
        obtain ⟨l, hl, _⟩ := h3 S hS hs
        cases hl
      have hstep : loopD (gN 5) bNest ((a :: Ls).map lD) (hdN M x rs p q ++ [o5.map SD.sh, o6.map SD.sh]) b = loopD (gN 5) bNest (Ls.map lD) (hdN M x rs p q ++ [(some (lD a)).map SD.sh, o6.map SD.sh]) b := by
        rw [List.map_cons]
        conv => lhs; unfold loopD
        rw [hset]
        dsimp only
        rw [hb]
        rfl
      rcases nest_out M hr hx p q b Ls (fun l hl => h l (List.mem_cons_of_mem _ hl)) (some (lD a)) o6 with ⟨o5', o6', e1, e2⟩ | ⟨l, a', e1, e2, e3⟩
      · refine .inl ⟨o5', o6', by rw [hstep]; exact e1, fun l hl => ?_⟩
        rcases List.mem_cons.mp hl with rfl | hl
        · exact hno
        · exact e2 l hl
      · exact .inr ⟨l, a', by rw [hstep]; exact e1, List.mem_cons_of_mem _ e2, e3⟩
    | cons l Ls' =>
      right
      obtain ⟨g1, g2, g3⟩ := h2 l List.mem_cons_self
      have hb : bNest (hdN M x rs p q ++ [some (.sh (lD a)), o6.map SD.sh]) b = .rt (.tup [lD l, lD a]) b := by
        unfold bNest hdN
        unfold lD at h1 ⊢
        simp [sFor, h1, loopD]
      refine ⟨l, a, ?_, List.mem_cons_self, g1, g2, g3⟩
      rw [List.map_cons]
      unfold loopD
      rw [hset]
      dsimp only
      rw [hb]
def nestD : Option (List Int × List Int) → D
  | none => .non
  | some (l, a) => .tup [lD l, lD a]
theorem nested_ok (M : Addr) {x : Str} {rs : List Row} (hr : RowsOk x.length rs) (hx : x.length ≤ 100) (p q : Int) (b : Bag) : ∃ r : Option (List Int × List Int), F_nested_loops M [machD M x rs, .int p, .int q] b = .ok (nestD r) b ∧
    (∀ l a, r = some (l, a) → l.Nodup ∧ a.Nodup ∧ (∀ k ∈ l, k ∈ a) ∧ (∀ k ∈ a, Reach rs k) ∧ GLoop (scM rs) [(colour rs, p)] (· ∈ l) ∧ GLoop (scM rs) [(colour rs, q)] (· ∈ a)) ∧
    (r = none → ∀ S S' : Int → Prop, GLoop (scM rs) [(colour rs, p)] S → GLoop (scM rs) [(colour rs, q)] S' → (∀ k, S k → S' k) → ¬ ∀ k, S' k → Reach rs k) := by
  have n1 := hr.n1
  have h1 := arrows_ok M hr b
  have h2 := colours_ok M hr b
  obtain ⟨f, f1, f2, f3⟩ := reached_ok M hr hx b
  have lo : ∀ k ∈ f, 0 ≤ k ∧ k < rs.length := fun k hk => reach_in hr (by omega) ((f3 k).mp hk)
  obtain ⟨Ls, g1, g2, g3⟩ := laaM_ok hr (by omega) f2 lo q b
  have key := nest_out M hr (by omega) p q b Ls (fun l hl => ⟨(g2 l hl).1, fun k hk => lo k ((g2 l hl).2.1 k hk)⟩) none none
  have e0 : F_nested_loops M [machD M x rs, .int p, .int q] b = ((loopD (gN 5) bNest (Ls.map lD) (hdN M x rs p q ++ [none, none]) b).seq (sRet (eC .non))).out := by
    unfold F_nested_loops G_nested_loops
    unfold hdN bNest
    unfold lD at g1 f1 ⊢
    unfold machD at h1 h2 f1 ⊢
    simp [h1, h2, f1, g1, sFor]
  rcases key with ⟨o5, o6, e1, e2⟩ | ⟨l, a, e1, e2, e3, e4, e5⟩
  · refine ⟨none, ?_, fun l a h => by (cases h), fun _ S S' hS hS' hsub hre => ?_⟩
    · rw [e0]
      rw [show (hdN M x rs p q ++ [none, none] : List (Option SD)) = hdN M x rs p q ++ [(none : Option D).map SD.sh, (none : Option D).map SD.sh] from rfl, e1]
      rfl
    · obtain ⟨l, hl, hs⟩ := g3 S' hS' fun k hk => (f3 k).mpr (hre k hk)
      exact e2 l hl S hS fun k hk => hs k (hsub k hk)
  · refine ⟨some (l, a), ?_, fun l' a' h => ?_, fun h => by cases h⟩
    · rw [e0]
      rw [show (hdN M x rs p q ++ [none, none] : List (Option SD)) = hdN M x rs p q ++ [(none : Option D).map SD.sh, (none : Option D).map SD.sh] from rfl, e1]
      rfl
    · cases h
      obtain ⟨a1, a2, a3⟩ := g2 a e2
      exact ⟨e3, a1, e4, fun k hk => (f3 k).mp (a2 k hk), e5, a3⟩
end DL

set_option maxHeartbeats 1000000
namespace DL
open PySem PySem.Spec PyProof.Rows L2
theorem idx_pos {x : Str} (hx : x ∈ sgs) {i c : Nat} (h : x.cps.toList[i]? = some c) : idx x c = i := by
  have key : ∀ x ∈ sgs, ∀ i ∈ List.range 3, (x.cps.toList[i]?).all (fun c => decide (idx x c = i)) = true := by decide +kernel
  have hl := (List.getElem?_eq_some_iff.mp h).1
  obtain ⟨_, l2⟩ := sg_len hx
  rw [str_len] at hl
  have := key x hx i (List.mem_range.mpr (by omega))
  rw [h] at this
  simpa using this
structure Wk (x : Str) (rs : List Row) (ins : List Int) (s k : Int) (w : Str) : Prop where
  wd : Wd x w
  to : walkE x rs s w.cps.toList = k
  by_ : ∀ j ∈ walkL x rs s w.cps.toList, j ∈ ins
theorem wk_nil {x : Str} {rs : List Row} {ins : List Int} {s : Int} : Wk x rs ins s s "" :=
  ⟨fun c hc => (by cases hc), rfl, fun j hj => (by cases hj)⟩
theorem Wk.app {x : Str} {rs : List Row} {ins : List Int} {s k m : Int} {u w : Str} (h : Wk x rs ins s k u) (h' : Wk x rs ins k m w) : Wk x rs ins s m (u ++ w) := by
  refine ⟨app_wd h.wd h'.wd, ?_, fun j hj => ?_⟩
  · rw [app_list, walkE_app, h.to, h'.to]
  · rw [app_list, walkL_app, h.to] at hj
    rcases List.mem_append.mp hj with hj | hj
    · exact h.by_ j hj
    · exact h'.by_ j hj
theorem wk_one {x : Str} {rs : List Row} (hx : x ∈ sgs) {ins : List Int} {s : Int} {p : Nat × Int} (hp : p ∈ x.cps.toList.zip (scM rs s)) (hi : p.2 ∈ ins) : Wk x rs ins s p.2 (one p.1) := by
  obtain ⟨i, hi1, e⟩ := List.mem_iff_getElem.mp hp
  have hz : (x.cps.toList.zip (scM rs s))[i]? = some p := by rw [List.getElem?_eq_getElem hi1, e]
  rw [List.getElem?_zip_eq_some] at hz
  obtain ⟨z1, z2⟩ := hz
  have hg : goal rs s (idx x p.1) = p.2 := by
    rw [idx_pos hx z1, goal_at]
    show ((scM rs s)[i]?).getD 0 = p.2
    rw [z2]
    rfl
  have hc : p.1 ∈ x.cps.toList := List.mem_of_getElem? z1
  have ho : (one p.1).cps.toList = [p.1] := rfl
  refine ⟨fun c hcc => ?_, ?_, fun j hj => ?_⟩
  · rw [ho] at hcc
    have : c = p.1 := by simpa using hcc
    rw [this]; exact hc
  · rw [ho]; exact hg
  · rw [ho] at hj
    have : j = goal rs s (idx x p.1) := by simpa [walkL] using hj
    rw [this, hg]; exact hi
theorem wk_words {x : Str} {rs : List Row} (hx : x ∈ sgs) (hr : RowsOk x.length rs) {ins : List Int} (N : Ns rs.length ins) {s : Int} (hs : s ∈ ins) (b : Bag) : ∃ (f : List Int) (wd : Int → Str), F_words_from [.str x, .lst (arrD rs), .int s, lD ins] b = .ok (dcS f wd) b ∧ (∀ k, k ∈ f ↔ (k = s ∨ Pth (scM rs) (· ∈ ins) s k)) ∧ (∀ k ∈ f, Wk x rs ins s k (wd k)) ∧ ∀ k ∈ f, (wd k).length ≤ 6 := by
  obtain ⟨l1, l2⟩ := sg_len hx
  have n1 := hr.n1
  have G := gr_M hr (by omega : x.length ≤ 1000)
  obtain ⟨s0, s1⟩ := N.lo s hs
  obtain ⟨f, wd, h1, h2, h3, h4, h5, h6⟩ := words_okR (R := fun k w => Wk x rs ins s k w) G (x := x) (fun y y0 y1 => row_len hr y0 y1) (by omega) N (bg := s) s0 s1 hs (by omega)
    (fun y w y0 y1 yi hw p hp hpi => hw.app (wk_one hx hp hpi)) wk_nil b
  have hfl : f.length ≤ rs.length := Nat.le_trans (nd_sub h2 fun y hy => ((h4 y).mp hy).elim (fun e => by rw [e]; exact hs) (·.last)) N.len
  exact ⟨f, wd, h1, h4, h5, fun k hk => by have := h6 k hk; omega⟩
theorem lcP {ρ : Env} {b : Bag} (l : List Int) (h2 : ρ[2]? = some (some (.sh (lD l)))) (hρ : 8 < ρ.length) : ∀ (ps : List (Nat × Int)), lcD (gT 2 (gsC (gN 7) (gsC (gN 8) gsN))) (bB (e2 inQ (eV 8) (eV 2))) (eTup (aCons (eV 7) (aCons (eV 8) aNil))) (ps.map pairD) ρ b = .ok ((ps.filter fun p => decide (p.2 ∈ l)).map pairD) b
  | [] => rfl
  | p :: ps => by
    have ih := lcP (b := b) l h2 hρ ps
    have m1 := inQ_lst p.2 l
    rw [List.map_cons]
    unfold lcD
    have e2 : ((ρ.set 7 (some (.sh (.str (one p.1))))).set 8 (some (.sh (.int p.2))))[2]? = some (some (.sh (lD l))) := by
      rw [List.getElem?_set_ne (by decide), List.getElem?_set_ne (by decide), h2]
    have e7 : ((ρ.set 7 (some (.sh (.str (one p.1))))).set 8 (some (.sh (.int p.2))))[7]? = some (some (.sh (.str (one p.1)))) := by
      rw [List.getElem?_set_ne (by decide), List.getElem?_set_self (by omega)]
    have e8 : ((ρ.set 7 (some (.sh (.str (one p.1))))).set 8 (some (.sh (.int p.2))))[8]? = some (some (.sh (.int p.2))) := by
      rw [List.getElem?_set_self (by rw [List.length_set]; exact hρ)]
    by_cases hp : p.2 ∈ l
    · rw [List.filter_cons_of_pos (by simpa using hp), List.map_cons]
      unfold lD at *
      simp [-inQ, pairD, gT, gsC, gN, gsN, e2, e7, e8, m1, hp] at ih ⊢
      simp [ih]
    · rw [List.filter_cons_of_neg (by simpa using hp)]
      unfold lD at *
      simp [-inQ, pairD, gT, gsC, gN, gsN, e2, e7, e8, m1, hp] at ih ⊢
      simp [ih]
theorem walkE_mem (x : Str) (rs : List Row) : ∀ (cs : List Nat) (s : Int), cs ≠ [] → walkE x rs s cs ∈ walkL x rs s cs
  | [], _, h => absurd rfl h
  | [c], s, _ => List.mem_cons_self
  | c :: d :: cs, s, _ => List.mem_cons_of_mem _ (walkE_mem x rs (d :: cs) _ (by simp))
def bRound : SF := (sSeq (sAsg (e2 addF (eV 4) (eDg (eCall (F_words_from) (aCons (eV 0) (aCons (eV 1) (aCons (eV 5) (aCons (eV 2) aNil))))) (eV 6))) (gN 4)) (sAsg (eV 6) (gN 5)))
theorem round_step {x : Str} {rs : List Row} (hx : x ∈ sgs) (hr : RowsOk x.length rs) {l : List Int} (N : Ns rs.length l) (hS : SC (scM rs) (· ∈ l)) {a s t : Int} (hs : s ∈ l) (ht : t ∈ l) (s3 s7 s8 : Option SD) {w : Str} (hw : Wk x rs l a s w) (hl : w.length ≤ 1000) (b : Bag) :
    ∃ w', bRound [some (.sh (.str x)), some (.sh (.lst (arrD rs))), some (.sh (lD l)), s3, some (.sh (.str w)), some (.sh (.int s)), some (.sh (.int t)), s7, s8] b = .nx [some (.sh (.str x)), some (.sh (.lst (arrD rs))), some (.sh (lD l)), s3, some (.sh (.str (w ++ w'))), some (.sh (.int t)), some (.sh (.int t)), s7, s8] b ∧ Wk x rs l a t (w ++ w') ∧ w'.length ≤ 6 := by
  obtain ⟨f, wd, h1, h2, h3, h4⟩ := wk_words hx hr N hs b
  have hf : t ∈ f := (h2 t).mpr (.inr (hS s t hs ht))
  refine ⟨wd t, ?_, hw.app (h3 t hf), h4 t hf⟩
  have hk := look_map (fun k => D.str (wd k)) hf
  have := h4 t hf
  have hlen : w.length + (wd t).length ≤ 100000 := by omega
  unfold dcS lD at h1
  unfold bRound lD
  simp [h1, hk, hlen]
end DL

set_option maxHeartbeats 1000000
namespace DL
open PySem PySem.Spec PyProof.Rows L2
/-- a word that is not empty, from a state back to it within a set, by a state of it -/
structure Rd (x : Str) (rs : List Row) (l : List Int) (a t : Int) (w : Str) : Prop where
  wk : Wk x rs l a a w
  n0 : w.length ≠ 0
  n1 : w.length ≤ 100
  thr : t ∈ walkL x rs a w.cps.toList
def S_round1 : SF := (sAsg (eIx (eLc (aZipX (aCons (eV 0) (aCons (eIx (eV 1) (eIx (eV 3) (eC (.int 0)))) aNil))) [7, 8] (gT 2 (gsC (gN 7) (gsC (gN 8) gsN))) (bB (e2 inQ (eV 8) (eV 2))) (eTup (aCons (eV 7) (aCons (eV 8) aNil)))) (eC (.int 0))) (gT 2 (gsC (gN 4) (gsC (gN 5) gsN))))
def S_round2 : AF := (aAny (eTup (aStar (eSl (eV 3) (oSome (eC (.int 1))) oNo) (aCons (eIx (eV 3) (eC (.int 0))) aNil))))
theorem word_round_ok {x : Str} {rs : List Row} (hx : x ∈ sgs) (hr : RowsOk x.length rs) {l : List Int} (N : Ns rs.length l) (hS : SC (scM rs) (· ∈ l)) {a t : Int} (ha : a ∈ l) (ht : t ∈ l) (b : Bag) :
    ∃ w, F_word_round [.str x, .lst (arrD rs), lD l, .lst [.int a, .int t]] b = .ok (.str w) b ∧ Rd x rs l a t w := by
  obtain ⟨l1, l2⟩ := sg_len hx
  have n1 := hr.n1
  have G := gr_M hr (by omega : x.length ≤ 1000)
  obtain ⟨a0, a1⟩ := N.lo a ha
  obtain ⟨d, r1, r2⟩ := G.row a a0 a1
  have hlen := row_len hr a0 a1
  -- the first letter
  obtain ⟨p, hp, hpl⟩ : ∃ p ∈ x.cps.toList.zip (scM rs a), p.2 ∈ l := by
    obtain ⟨g, hg, hgl⟩ : ∃ g ∈ scM rs a, g ∈ l := by
      cases hS a a ha ha with
      | one h1 h2 => exact ⟨_, h1, h2⟩
      | step h1 h2 _ => exact ⟨_, h1, h2⟩
    have ez : (x.cps.toList.zip (scM rs a)).map (·.2) = scM rs a := List.map_snd_zip (by rw [str_len, hlen]; exact Nat.le_refl _)
    rw [← ez] at hg
    obtain ⟨p, hp, rfl⟩ := List.mem_map.mp hg
    exact ⟨p, hp, hgl⟩
  obtain ⟨p0, rest, ef⟩ : ∃ p0 rest, (x.cps.toList.zip (scM rs a)).filter (fun p => decide (p.2 ∈ l)) = p0 :: rest := by
    cases hf : (x.cps.toList.zip (scM rs a)).filter (fun p => decide (p.2 ∈ l)) with
    | nil =>
      have : p ∈ (x.cps.toList.zip (scM rs a)).filter (fun p => decide (p.2 ∈ l)) := List.mem_filter.mpr ⟨hp, by simpa using hpl⟩
      rw [hf] at this
      cases this
    | cons p0 rest => exact ⟨p0, rest, rfl⟩
  have hp0 : p0 ∈ x.cps.toList.zip (scM rs a) ∧ p0.2 ∈ l := by
    have : p0 ∈ (x.cps.toList.zip (scM rs a)).filter (fun p => decide (p.2 ∈ l)) := by rw [ef]; exact List.mem_cons_self
    obtain ⟨h1, h2⟩ := List.mem_filter.mp this
    exact ⟨h1, by simpa using h2⟩
  have w1 := wk_one hx (ins := l) (s := a) hp0.1 hp0.2
  have hone : (one p0.1).length = 1 := rfl
  obtain ⟨u1, e1, k1, m1⟩ := round_step hx hr N hS hp0.2 ht (some (.sh (.lst [.int a, .int t]))) none none w1 (by rw [hone]; decide) b
  have hl1 : (one p0.1 ++ u1).length ≤ 7 := by rw [app_len, hone]; omega
  obtain ⟨u2, e2, k2, m2⟩ := round_step hx hr N hS ht ha (some (.sh (.lst [.int a, .int t]))) none none k1 (by omega) b
  refine ⟨one p0.1 ++ u1 ++ u2, ?_, k2, ?_, ?_, ?_⟩
  · have hz : aZipX (aCons (eV 0) (aCons (eIx (eV 1) (eIx (eV 3) (eC (.int 0)))) aNil)) [some (.sh (.str x)), some (.sh (.lst (arrD rs))), some (.sh (lD l)), some (.sh (.lst [.int a, .int t])), none, none, none, none, none] b = .ok ((x.cps.toList.zip (scM rs a)).map pairD) b := by
      rw [← zip_pairs]
      rcases r2 with rfl | rfl <;> simp [aZipX, r1]
    have hc := lcP (b := b) (ρ := [some (.sh (.str x)), some (.sh (.lst (arrD rs))), some (.sh (lD l)), some (.sh (.lst [.int a, .int t])), none, none, none, none, none]) l rfl (by simp) (x.cps.toList.zip (scM rs a))
    rw [ef] at hc
    have hfl : (p0 :: rest).length ≤ 100000 := by
      have h1 := List.length_filter_le (fun p : Nat × Int => decide (p.2 ∈ l)) (x.cps.toList.zip (scM rs a))
      rw [ef, List.length_zip, str_len] at h1
      omega
    rw [List.length_cons] at hfl
    have hzl : ((x.cps.toList.zip (scM rs a)).map pairD).length ≤ 100000 := by
      rw [List.length_map, List.length_zip, str_len]
      omega
    have hcut : cutD [D.int a, D.int t] (some 1) none = [D.int t] := rfl
    have hp0d : pairD p0 = .tup [.str (one p0.1), .int p0.2] := rfl
    rw [List.map_cons, hp0d] at hc
    have eF : F_word_round = runD 9 4 (sSeq S_round1 (sSeq (sFor S_round2 (gN 6) bRound) (sRet (eV 4)))) := rfl
    have q1 : S_round1 [some (.sh (.str x)), some (.sh (.lst (arrD rs))), some (.sh (lD l)), some (.sh (.lst [.int a, .int t])), none, none, none, none, none] b = .nx [some (.sh (.str x)), some (.sh (.lst (arrD rs))), some (.sh (lD l)), some (.sh (.lst [.int a, .int t])), some (.sh (.str (one p0.1))), some (.sh (.int p0.2)), none, none, none] b := by
      unfold S_round1
      unfold lD at hz hc ⊢
      have hmin : min x.cps.size (scM rs a).length ≤ 100000 := Nat.le_trans (Nat.min_le_right _ _) (by omega)
      simp [-inQ, hz, hmin, hc, hfl]
    have q2 : S_round2 [some (.sh (.str x)), some (.sh (.lst (arrD rs))), some (.sh (lD l)), some (.sh (.lst [.int a, .int t])), some (.sh (.str (one p0.1))), some (.sh (.int p0.2)), none, none, none] b = .ok [.int t, .int a] b := by
      unfold S_round2
      simp [aStar, anySeq, hcut, eSl, oNo, oSome, slF]
    have hs : startE 9 [.str x, .lst (arrD rs), lD l, .lst [.int a, .int t]] = [some (.sh (.str x)), some (.sh (.lst (arrD rs))), some (.sh (lD l)), some (.sh (.lst [.int a, .int t])), none, none, none, none, none] := rfl
    have g1 : gN 6 (.int t) [some (.sh (.str x)), some (.sh (.lst (arrD rs))), some (.sh (lD l)), some (.sh (.lst [.int a, .int t])), some (.sh (.str (one p0.1))), some (.sh (.int p0.2)), none, none, none] b = some ([some (.sh (.str x)), some (.sh (.lst (arrD rs))), some (.sh (lD l)), some (.sh (.lst [.int a, .int t])), some (.sh (.str (one p0.1))), some (.sh (.int p0.2)), some (.sh (.int t)), none, none], b) := rfl
    have g2 : gN 6 (.int a) [some (.sh (.str x)), some (.sh (.lst (arrD rs))), some (.sh (lD l)), some (.sh (.lst [.int a, .int t])), some (.sh (.str (one p0.1 ++ u1))), some (.sh (.int t)), some (.sh (.int t)), none, none] b = some ([some (.sh (.str x)), some (.sh (.lst (arrD rs))), some (.sh (lD l)), some (.sh (.lst [.int a, .int t])), some (.sh (.str (one p0.1 ++ u1))), some (.sh (.int t)), some (.sh (.int a)), none, none], b) := rfl
    have q3 : loopD (gN 6) bRound [.int t, .int a] [some (.sh (.str x)), some (.sh (.lst (arrD rs))), some (.sh (lD l)), some (.sh (.lst [.int a, .int t])), some (.sh (.str (one p0.1))), some (.sh (.int p0.2)), none, none, none] b = .nx [some (.sh (.str x)), some (.sh (.lst (arrD rs))), some (.sh (lD l)), some (.sh (.lst [.int a, .int t])), some (.sh (.str (one p0.1 ++ u1 ++ u2))), some (.sh (.int a)), some (.sh (.int a)), none, none] b := by
      unfold loopD
      rw [g1]; dsimp only; rw [e1]; dsimp only
      unfold loopD
      rw [g2]; dsimp only; rw [e2]; rfl
    rw [eF]
    simp only [runD, List.length_cons, List.length_nil, if_true, hs, sSeq, q1, seq_nx_, sFor, q2, st_ok_, q3]
    rfl
  · rw [app_len, app_len, hone]; omega
  · rw [app_len, app_len, hone]; omega
  · have hne : (one p0.1 ++ u1).cps.toList ≠ [] := fun h => by
      have := len_cps.mp h
      rw [app_len, hone] at this
      omega
    have := walkE_mem x rs _ a hne
    rw [k1.to] at this
    rw [app_list (one p0.1 ++ u1) u2, walkL_app]
    exact List.mem_append_left _ this
theorem top_of_ok {k : Nat} {rs : List Row} (hr : RowsOk k rs) {l : List Int} (hl0 : l ≠ []) (hlo : ∀ k ∈ l, 0 ≤ k ∧ k < rs.length) (hll : l.length ≤ 1000) (b : Bag) :
    ∃ t ∈ l, F_top_of [.lst ((colM rs).map D.int), lD l] b = .ok (.int t) b ∧ colour rs t = top0 (l.map (colour rs)) := by
  have hc : (colM rs).length = rs.length := by simp [colM]
  have eC : colL (colM rs) = colour rs := funext fun k => colL_M rs k
  have hm := maxLF_ok (is := l.map (colour rs)) (by simpa using hl0)
  have h1 := lc_ints' (i := 3) (b := b) (ρ := [some (.sh (.lst ((colM rs).map D.int))), some (.sh (lD l)), none, none]) (F := (eIx (eV 0) (eV 3))) (colour rs) l (fun k hk => by
    obtain ⟨k0, k1⟩ := hlo k hk
    have := colL_at (cs := colM rs) k0 (by omega)
    rw [eC] at this
    simp [this])
  have h2 := lc_filt (i := 3) (b := b) (ρ := [some (.sh (.lst ((colM rs).map D.int))), some (.sh (lD l)), some (.sh (.int (top0 (l.map (colour rs))))), none]) (T := (bB (e2 eqF (eIx (eV 0) (eV 3)) (eV 2)))) (F := (eV 3)) (fun k => decide (colour rs k = top0 (l.map (colour rs)))) D.int l (fun k hk => by
    obtain ⟨k0, k1⟩ := hlo k hk
    have := colL_at (cs := colM rs) k0 (by omega)
    rw [eC] at this
    simp [this]) (fun k hk _ => by simp)
  obtain ⟨⟨t, t1, t2⟩, t3⟩ := top_is (col := colour rs) hl0
  obtain ⟨t0, rest, ef⟩ : ∃ t0 rest, l.filter (fun k => decide (colour rs k = top0 (l.map (colour rs)))) = t0 :: rest := by
    cases hf : l.filter (fun k => decide (colour rs k = top0 (l.map (colour rs)))) with
    | nil =>
      have : t ∈ l.filter (fun k => decide (colour rs k = top0 (l.map (colour rs)))) := List.mem_filter.mpr ⟨t1, by simpa using t2⟩
      rw [hf] at this
      cases this
    | cons t0 rest => exact ⟨t0, rest, rfl⟩
  have ht0 : t0 ∈ l.filter (fun k => decide (colour rs k = top0 (l.map (colour rs)))) := by rw [ef]; exact List.mem_cons_self
  obtain ⟨g1, g2⟩ := List.mem_filter.mp ht0
  refine ⟨t0, g1, ?_, by simpa using g2⟩
  rw [ef] at h2
  have hll2 : l.length ≤ 100000 := by omega
  have hrl : rest.length + 1 ≤ 100000 := by
    have := List.length_filter_le (fun k => decide (colour rs k = top0 (l.map (colour rs)))) l
    rw [ef, List.length_cons] at this
    omega
  unfold F_top_of G_top_of
  unfold lD at h1 h2 ⊢
  simp only [List.map_map] at h1 hm
  simp [hll2, h1, hm] at h2 ⊢
  simp [h2, hrl]
end DL

set_option maxHeartbeats 1000000
namespace DL
open PySem PySem.Spec PyProof.Rows L2
theorem first_wk (M : Addr) {x : Str} {rs : List Row} (hx : x ∈ sgs) (hr : RowsOk x.length rs) (b : Bag) : ∃ (f : List Int) (wd : Int → Str), F_first_words M [machD M x rs] b = .ok (dcS f wd) b ∧ (∀ k, k ∈ f ↔ Reach rs k) ∧ (∀ k ∈ f, Wk x rs (nums rs.length) 0 k (wd k)) ∧ ∀ k ∈ f, (wd k).length ≤ 6 := by
  have n0 := hr.n0
  have n1 := hr.n1
  obtain ⟨l1, l2⟩ := sg_len hx
  obtain ⟨f, wd, h1, h4, h5, h6⟩ := wk_words hx hr (ns_nums rs.length) (s := 0) (mem_nums.mpr ⟨by decide, by omega⟩) b
  refine ⟨f, wd, ?_, fun k => ?_, h5, h6⟩
  · have a1 := arrows_ok M hr b
    have a2 := len_M M x rs b
    have a3 := fld_l M x rs
    have hn0 : (0 : Int) ≤ rs.length := by omega
    have hn1 : (rs.length : Int) ≤ 100000 := by omega
    have hn1' : rs.length ≤ 100000 := by omega
    have hn2 : (rs.length : Int) < 9223372036854775808 := by omega
    have hn3 : rs.length < 9223372036854775808 := by omega
    unfold F_first_words G_first_words
    unfold machD at a1 a2 a3 ⊢
    unfold lD at h1
    simp [a1, a2, a3, hn0, hn1, hn1', hn2, hn3, range_nums, h1]
  · rw [h4]
    unfold Reach
    rw [pth_all hr (by omega) (by decide) (by omega)]
theorem wanted_ok (M : Addr) (w : Str) (h : w = "again" ∨ w = "stays") (b : Bag) : F_check_wanted M [.str w, .tup [.str "again", .str "stays"]] b = .ok .non b := by
  rcases h with rfl | rfl
  · unfold F_check_wanted G_check_wanted
    have h1 := isi_str M "again"
    have h2 : ninQ (.str "again") (.tup [.str "again", .str "stays"]) = some (.bl false) := by kernel_rfl
    simp [-ninQ, h1, h2]
  · unfold F_check_wanted G_check_wanted
    have h1 := isi_str M "stays"
    have h2 : ninQ (.str "stays") (.tup [.str "again", .str "stays"]) = some (.bl false) := by kernel_rfl
    simp [-ninQ, h1, h2]
/-- what turning tells: three words -/
structure Trn (x : Str) (rs : List Row) (p q : Int) (u v w : Str) : Prop where
  u1 : Wd x u
  u2 : u.length ≤ 6
  at_ : 0 ≤ walkE x rs 0 u.cps.toList ∧ walkE x rs 0 u.cps.toList < rs.length
  ex : ∃ (l a : List Int) (t t' : Int), Rd x rs l (walkE x rs 0 u.cps.toList) t v ∧ Rd x rs a (walkE x rs 0 u.cps.toList) t' w ∧ (∀ k ∈ l, colour rs k ≤ colour rs t) ∧ (∀ k ∈ a, colour rs k ≤ colour rs t') ∧ colour rs t % 2 = p ∧ colour rs t' % 2 = q ∧ colour rs t ≤ colour rs t'
def G_turn1 (M : Addr) : SF := (sSeq (sIf (bB (e2 isN2 (eV 2) (eC .non))) (sRet (eC .non)) sNil) (sSeq (sAsg (eCall (F_arrows_of M) (aCons (eV 0) aNil)) (gN 3)) (sSeq (sAsg (eCall (F_colours_of M) (aCons (eV 0) aNil)) (gN 4)) (sSeq (sAsg (eIx (eIx (eV 2) (eC (.int 0))) (eC (.int 0))) (gN 5)) (sSeq (sAsg (eLc (aAny (eV 2)) [7] (gN 7) bYes (eCall (F_word_round) (aCons (e1 (fldF M "_letters") (eV 0)) (aCons (eV 3) (aCons (eV 7) (aCons (eLst (aCons (eV 5) (aCons (eCall (F_top_of) (aCons (eV 4) (aCons (eV 7) aNil))) aNil))) aNil)))))) (gN 6)) (sRet (eTup (aCons (eDg (eCall (F_first_words M) (aCons (eV 0) aNil)) (eV 5)) (aCons (eIx (eV 6) (eC (.int 0))) (aCons (eIx (eV 6) (eC (.int 1))) aNil))))))))))
theorem turn1_non (M : Addr) (x : Str) (rs : List Row) (w : Str) (b : Bag) : G_turn1 M [some (.sh (machD M x rs)), some (.sh (.str w)), some (.sh .non), none, none, none, none, none] b = .rt .non b := by
  unfold G_turn1
  simp
theorem turn1_some (M : Addr) {x : Str} {rs : List Row} (hx : x ∈ sgs) (hr : RowsOk x.length rs) {l a : List Int} {p q : Int} (hl : l.Nodup) (ha : a.Nodup) (hs : ∀ k ∈ l, k ∈ a) (hre : ∀ k ∈ a, Reach rs k) (gl : GLoop (scM rs) [(colour rs, p)] (· ∈ l)) (ga : GLoop (scM rs) [(colour rs, q)] (· ∈ a)) (wn : Str) (b : Bag) :
    ∃ u v w, G_turn1 M [some (.sh (machD M x rs)), some (.sh (.str wn)), some (.sh (nestD (some (l, a)))), none, none, none, none, none] b = .rt (.tup [.str u, .str v, .str w]) b ∧ Trn x rs p q u v w := by
  obtain ⟨l1, l2⟩ := sg_len hx
  have n1 := hr.n1
  obtain ⟨⟨k0, hk0⟩, sl, tl⟩ := gl
  obtain ⟨_, sa, ta⟩ := ga
  have hla : ∀ k ∈ a, 0 ≤ k ∧ k < rs.length := fun k hk => reach_in hr (by omega) (hre k hk)
  have Na : Ns rs.length a := ⟨ha, hla⟩
  have Nl : Ns rs.length l := ⟨hl, fun k hk => hla k (hs k hk)⟩
  obtain ⟨s, l', rfl⟩ : ∃ s l', l = s :: l' := by
    cases l with
    | nil => cases hk0
    | cons s l' => exact ⟨s, l', rfl⟩
  have hsl : s ∈ s :: l' := List.mem_cons_self
  have hsa := hs s hsl
  have ha0 : a ≠ [] := fun h => by rw [h] at hsa; cases hsa
  have hLl := Nl.len
  have hLa := Na.len
  obtain ⟨t, t1, t2, t3⟩ := top_of_ok hr (l := s :: l') (by simp) Nl.lo (by omega) b
  obtain ⟨t', t1', t2', t3'⟩ := top_of_ok hr ha0 Na.lo (by omega) b
  obtain ⟨v, v1, v2⟩ := word_round_ok hx hr Nl sl hsl t1 b
  obtain ⟨w, w1, w2⟩ := word_round_ok hx hr Na sa hsa t1' b
  obtain ⟨f, wd, f1, f2, f3, f4⟩ := first_wk M hx hr b
  have hsf : s ∈ f := (f2 s).mpr (hre s hsa)
  have hk := look_map (fun k => D.str (wd k)) hsf
  have W := f3 s hsf
  refine ⟨wd s, v, w, ?_, W.wd, f4 s hsf, by rw [W.to]; exact Nl.lo s hsl, s :: l', a, t, t', by rw [W.to]; exact v2, by rw [W.to]; exact w2, ?_, ?_, ?_, ?_, ?_⟩
  · have a1 := arrows_ok M hr b
    have a2 := colours_ok M hr b
    have a3 := fld_l M x rs
    unfold G_turn1
    have en : nestD (some (s :: l', a)) = .tup [.lst (.int s :: l'.map D.int), .lst (a.map D.int)] := rfl
    rw [en]
    unfold dcS at f1
    unfold lD at t2 t2' v1 w1
    unfold machD at a1 a2 a3 f1 ⊢
    rw [List.map_cons] at t2 v1
    simp [a1, a2, a3, t2, t2', v1, w1, f1, hk, lcD]
  · rw [t3]; exact (top_is (col := colour rs) (l := s :: l') (by simp)).2
  · rw [t3']; exact (top_is (col := colour rs) ha0).2
  · obtain ⟨T, q1, q2⟩ := tl _ (List.mem_singleton.mpr rfl)
    rw [t3, (top_is (col := colour rs) (l := s :: l') (by simp)).uniq q1]
    exact q2
  · obtain ⟨T, q1, q2⟩ := ta _ (List.mem_singleton.mpr rfl)
    rw [t3', (top_is (col := colour rs) ha0).uniq q1]
    exact q2
  · rw [t3']
    exact (top_is (col := colour rs) ha0).2 t (hs t t1)
theorem turning_ok (M : Addr) {x : Str} {rs : List Row} (hx : x ∈ sgs) (hr : RowsOk x.length rs) (wn : Str) (p q : Int) (h : (wn = "again" ∧ p = 0 ∧ q = 1) ∨ (wn = "stays" ∧ p = 1 ∧ q = 0)) (b : Bag) :
    (F_nested_loops M [machD M x rs, .int p, .int q] b = .ok .non b ∧ F_turning M [machD M x rs, .str wn] b = .ok .non b) ∨
    ∃ l a u v w, F_nested_loops M [machD M x rs, .int p, .int q] b = .ok (.tup [lD l, lD a]) b ∧ F_turning M [machD M x rs, .str wn] b = .ok (.tup [.str u, .str v, .str w]) b ∧ Trn x rs p q u v w := by
  obtain ⟨l1, l2⟩ := sg_len hx
  obtain ⟨r, h1, h2, _⟩ := nested_ok M hr (by omega) p q b
  have c1 := check_ok M x rs b
  have c2 := wanted_ok M wn (by rcases h with ⟨h, _⟩ | ⟨h, _⟩ <;> simp [h]) b
  have e0 : F_turning M [machD M x rs, .str wn] b = (G_turn1 M [some (.sh (machD M x rs)), some (.sh (.str wn)), some (.sh (nestD r)), none, none, none, none, none] b).out := by
    have eq : F_turning M = runD 8 2 (sSeq (sDrop (eCall (F_check_machine M) (aCons (eV 0) aNil))) (sSeq (sDrop (eCall (F_check_wanted M) (aCons (eV 1) (aCons (eTup (aCons (eC (.str "again")) (aCons (eC (.str "stays")) aNil))) aNil)))) (sSeq (sAsg (eIf (bB (e2 eqF (eV 1) (eC (.str "again")))) (eCall (F_nested_loops M) (aCons (eV 0) (aCons (eC (.int 0)) (aCons (eC (.int 1)) aNil)))) (eCall (F_nested_loops M) (aCons (eV 0) (aCons (eC (.int 1)) (aCons (eC (.int 0)) aNil))))) (gN 2)) (G_turn1 M)))) := rfl
    rw [eq]
    unfold machD at c1 c2 h1 ⊢
    rcases h with ⟨rfl, rfl, rfl⟩ | ⟨rfl, rfl, rfl⟩
    · have hq : eqF (.str "again") (.str "again") = some (.bl true) := by kernel_rfl
      simp [c1, c2, h1, hq]
    · have hq : eqF (.str "stays") (.str "again") = some (.bl false) := by kernel_rfl
      simp [c1, c2, h1, hq]
  cases r with
  | none =>
    left
    refine ⟨h1, ?_⟩
    rw [e0]
    show (G_turn1 M [some (.sh (machD M x rs)), some (.sh (.str wn)), some (.sh .non), none, none, none, none, none] b).out = _
    rw [turn1_non]
    rfl
  | some la =>
    obtain ⟨l, a⟩ := la
    obtain ⟨g1, g2, g3, g4, g5, g6⟩ := h2 l a rfl
    obtain ⟨u, v, w, k1, k2⟩ := turn1_some M hx hr g1 g2 g3 g4 g5 g6 wn b
    right
    refine ⟨l, a, u, v, w, h1, ?_, k2⟩
    rw [e0, k1]
    rfl
end DL

set_option maxHeartbeats 1000000
namespace DL
open PySem PySem.Spec PyProof.Rows L2
theorem laaM2_ok {k : Nat} {rs : List Row} (hr : RowsOk k rs) (hk : k ≤ 1000) {ns : List Int} (nd : ns.Nodup) (hn : ∀ k ∈ ns, 0 ≤ k ∧ k < rs.length) (ev : Int) (b : Bag) : ∃ Ls : List (List Int), F_loops_as_asked [.lst (arrD rs), lD ns, .lst [.tup [.lst ((colM rs).map D.int), .int ev]]] b = .ok (.lst (Ls.map lD)) b ∧ Ls.length ≤ 1000 ∧ (Ls ≠ [] ↔ ∃ S : Int → Prop, GLoop (scM rs) [(colour rs, ev)] S ∧ ∀ a, S a → a ∈ ns) := by
  have n1 := hr.n1
  have G := gr_M hr hk
  obtain ⟨Ls, h4, I, hLn⟩ := laa_ok G ⟨nd, hn⟩ [(colM rs, ev)] (fun p hp => by
    have : p = (colM rs, ev) := by simpa using hp
    subst this
    simp [colM]) b
  refine ⟨Ls, h4, by omega, fun h => ?_, fun ⟨S, hS, hs⟩ h => ?_⟩
  · cases Ls with
    | nil => exact absurd rfl h
    | cons l Ls =>
      have := I.fgood l List.mem_cons_self
      rw [asked_M] at this
      exact ⟨_, this, I.fsub l List.mem_cons_self⟩
  · subst h
    rw [← asked_M] at hS
    rcases I.all S hS hs with ⟨l, hl, _⟩ | ⟨w, hw, _⟩
    · cases hl
    · cases hw
open Classical in
theorem has_ok (M : Addr) {x : Str} {rs : List Row} (hr : RowsOk x.length rs) (hx : x.length ≤ 1000) {ns : List Int} (nd : ns.Nodup) (hn : ∀ k ∈ ns, 0 ≤ k ∧ k < rs.length) (ev : Int) (b : Bag) : F_has_loop M [machD M x rs, lD ns, .int ev] b = .ok (.bl (decide (∃ S : Int → Prop, GLoop (scM rs) [(colour rs, ev)] S ∧ ∀ a, S a → a ∈ ns))) b := by
  obtain ⟨Ls, h1, h2, h3⟩ := laaM2_ok hr hx nd hn ev b
  have a1 := arrows_ok M hr b
  have a2 := colours_ok M hr b
  have hl : Ls.length ≤ 100000 := by omega
  have e : decide (∃ S : Int → Prop, GLoop (scM rs) [(colour rs, ev)] S ∧ ∀ a, S a → a ∈ ns) = decide (0 < Ls.length) := by
    rw [Bool.eq_iff_iff, decide_eq_true_iff, decide_eq_true_iff, ← h3]
    exact List.length_pos_iff.symm
  rw [e]
  unfold F_has_loop G_has_loop
  unfold lD at h1 ⊢
  unfold machD at a1 a2 ⊢
  simp [a1, a2, h1, hl]
/-- reached states of some sort hold no loop of an evenness -/
def NoLoop (rs : List Row) (ev : Int) (P : Int → Prop) : Prop := ¬ ∃ S : Int → Prop, GLoop (scM rs) [(colour rs, ev)] S ∧ ∀ a, S a → Reach rs a ∧ P a
open Classical in
theorem guard_ok (M : Addr) {x : Str} {rs : List Row} (hr : RowsOk x.length rs) (hx : x.length ≤ 100) (b : Bag) : F_is_guard M [machD M x rs] b = .ok (.bl (decide (NoLoop rs 1 (· ∈ leadL rs 0)))) b := by
  have c1 := check_ok M x rs b
  have h1 := live_ok M hr (by omega) b
  obtain ⟨f, f1, f2, f3⟩ := reached_ok M hr hx b
  have lo : ∀ k ∈ f, 0 ≤ k ∧ k < rs.length := fun k hk => reach_in hr (by omega) ((f3 k).mp hk)
  have h2 := lc_filt (i := 2) (b := b) (ρ := [some (.sh (machD M x rs)), some (.sh (.tup ((leadL rs 0).map D.int))), none]) (T := (bB (e2 inQ (eV 2) (eV 1)))) (F := eV 2) (fun k => decide (k ∈ leadL rs 0)) D.int f (fun k hk => by
    have i1 := inQ_tup k (leadL rs 0)
    simp [-inQ, i1]) (fun k _ _ => by simp)
  have h3 := has_ok M hr (by omega) (ns := f.filter fun k => decide (k ∈ leadL rs 0)) (f2.filter _) (fun k hk => lo k (List.mem_filter.mp hk).1) 1 b
  have e : decide (NoLoop rs 1 (· ∈ leadL rs 0)) = !decide (∃ S : Int → Prop, GLoop (scM rs) [(colour rs, 1)] S ∧ ∀ a, S a → a ∈ f.filter fun k => decide (k ∈ leadL rs 0)) := by
    rw [← decide_not]
    apply decide_eq_decide.mpr
    unfold NoLoop
    refine not_congr ⟨fun ⟨S, h, h'⟩ => ⟨S, h, fun a ha => List.mem_filter.mpr ⟨(f3 a).mpr (h' a ha).1, by simpa using (h' a ha).2⟩⟩, fun ⟨S, h, h'⟩ => ⟨S, h, fun a ha => ?_⟩⟩
    obtain ⟨g1, g2⟩ := List.mem_filter.mp (h' a ha)
    exact ⟨(f3 a).mp g1, by simpa using g2⟩
  rw [e]
  have hfl : f.length ≤ 100000 := by
    have : Ns rs.length f := ⟨f2, lo⟩
    have := this.len
    have := hr.n1
    omega
  unfold F_is_guard G_is_guard
  unfold lD at h3 f1
  unfold machD at c1 h1 f1 h2 h3 ⊢
  simp [-inQ, c1, h1, f1, hfl, h2, h3]
open Classical in
theorem promise_ok (M : Addr) {x : Str} {rs : List Row} (hr : RowsOk x.length rs) (hx : x.length ≤ 100) (b : Bag) : F_is_promise M [machD M x rs] b = .ok (.bl (decide (NoLoop rs 0 (· ∉ sureL rs)))) b := by
  have c1 := check_ok M x rs b
  have h1 := sure_ok M hr (by omega) b
  obtain ⟨f, f1, f2, f3⟩ := reached_ok M hr hx b
  have lo : ∀ k ∈ f, 0 ≤ k ∧ k < rs.length := fun k hk => reach_in hr (by omega) ((f3 k).mp hk)
  have h2 := lc_filt (i := 2) (b := b) (ρ := [some (.sh (machD M x rs)), some (.sh (.tup ((sureL rs).map D.int))), none]) (T := (bB (e2 ninQ (eV 2) (eV 1)))) (F := eV 2) (fun k => !decide (k ∈ sureL rs)) D.int f (fun k hk => by
    have i1 := ninQ_tup k (sureL rs)
    simp [-ninQ, i1]) (fun k _ _ => by simp)
  have h3 := has_ok M hr (by omega) (ns := f.filter fun k => !decide (k ∈ sureL rs)) (f2.filter _) (fun k hk => lo k (List.mem_filter.mp hk).1) 0 b
  have e : decide (NoLoop rs 0 (· ∉ sureL rs)) = !decide (∃ S : Int → Prop, GLoop (scM rs) [(colour rs, 0)] S ∧ ∀ a, S a → a ∈ f.filter fun k => !decide (k ∈ sureL rs)) := by
    rw [← decide_not]
    apply decide_eq_decide.mpr
    unfold NoLoop
    refine not_congr ⟨fun ⟨S, h, h'⟩ => ⟨S, h, fun a ha => List.mem_filter.mpr ⟨(f3 a).mpr (h' a ha).1, by simpa using (h' a ha).2⟩⟩, fun ⟨S, h, h'⟩ => ⟨S, h, fun a ha => ?_⟩⟩
    obtain ⟨g1, g2⟩ := List.mem_filter.mp (h' a ha)
    exact ⟨(f3 a).mp g1, by simpa using g2⟩
  rw [e]
  have hfl : f.length ≤ 100000 := by
    have : Ns rs.length f := ⟨f2, lo⟩
    have := this.len
    have := hr.n1
    omega
  unfold F_is_promise G_is_promise
  unfold lD at h3 f1
  unfold machD at c1 h1 f1 h2 h3 ⊢
  simp [-ninQ, c1, h1, f1, hfl, h2, h3]
open Classical in
theorem hope_ok (M : Addr) {x : Str} {rs : List Row} (hr : RowsOk x.length rs) (hx : x.length ≤ 100) (b : Bag) : F_is_hope M [machD M x rs] b = .ok (.bl (decide (∀ k, Reach rs k → k ∈ leadL rs 0))) b := by
  have c1 := check_ok M x rs b
  have h1 := live_ok M hr (by omega) b
  obtain ⟨f, f1, f2, f3⟩ := reached_ok M hr hx b
  have lo : ∀ k ∈ f, 0 ≤ k ∧ k < rs.length := fun k hk => reach_in hr (by omega) ((f3 k).mp hk)
  have h2 := lc_ints (i := 2) (b := b) (ρ := [some (.sh (machD M x rs)), some (.sh (.tup ((leadL rs 0).map D.int))), none]) (F := (e2 inQ (eV 2) (eV 1))) (fun k => .bl (decide (k ∈ leadL rs 0))) f (fun k hk => by
    have i1 := inQ_tup k (leadL rs 0)
    simp [-inQ, i1])
  have h3 := allF_bl (f.map fun k => decide (k ∈ leadL rs 0))
  have e : decide (∀ k, Reach rs k → k ∈ leadL rs 0) = (f.map fun k => decide (k ∈ leadL rs 0)).all id := by
    rw [Bool.eq_iff_iff, decide_eq_true_iff, List.all_eq_true]
    constructor
    · intro h z hz
      obtain ⟨k, hk, rfl⟩ := List.mem_map.mp hz
      exact decide_eq_true (h k ((f3 k).mp hk))
    · intro h k hk
      exact of_decide_eq_true (h _ (List.mem_map.mpr ⟨k, (f3 k).mpr hk, rfl⟩))
  rw [e]
  have hfl : f.length ≤ 100000 := by
    have : Ns rs.length f := ⟨f2, lo⟩
    have := this.len
    have := hr.n1
    omega
  rw [List.map_map] at h3
  have h3' : allF [.lst (f.map fun k => D.bl (decide (k ∈ leadL rs 0)))] = some (.bl ((f.map fun k => decide (k ∈ leadL rs 0)).all id)) := h3
  unfold F_is_hope G_is_hope
  unfold lD at f1
  unfold machD at c1 h1 f1 h2 ⊢
  simp only [runD, List.length_singleton, if_true]
  simp [-inQ, c1, h1, f1, hfl, h2, h3', -List.all_map]
/-- a loop of one evenness within a reached one of another -/
def Nest (rs : List Row) (p q : Int) : Prop := ∃ S S' : Int → Prop, GLoop (scM rs) [(colour rs, p)] S ∧ GLoop (scM rs) [(colour rs, q)] S' ∧ (∀ k, S k → S' k) ∧ ∀ k, S' k → Reach rs k
open Classical in
theorem nest_is (M : Addr) {x : Str} {rs : List Row} (hr : RowsOk x.length rs) (hx : x.length ≤ 100) (p q : Int) (b : Bag) : ∃ R, F_nested_loops M [machD M x rs, .int p, .int q] b = .ok R b ∧ isNF R = some (.bl (decide (¬ Nest rs p q))) := by
  obtain ⟨r, h1, h2, h3⟩ := nested_ok M hr hx p q b
  refine ⟨_, h1, ?_⟩
  cases r with
  | none =>
    have : ¬ Nest rs p q := fun ⟨S, S', a1, a2, a3, a4⟩ => h3 rfl S S' a1 a2 a3 a4
    rw [decide_eq_true this]
    rfl
  | some la =>
    obtain ⟨l, a⟩ := la
    obtain ⟨g1, g2, g3, g4, g5, g6⟩ := h2 l a rfl
    have : Nest rs p q := ⟨_, _, g5, g6, g3, g4⟩
    rw [decide_eq_false fun h => h this]
    rfl
open Classical in
theorem again_ok2 (M : Addr) {x : Str} {rs : List Row} (hr : RowsOk x.length rs) (hx : x.length ≤ 100) (b : Bag) : F_comes_again M [machD M x rs] b = .ok (.bl (decide (¬ Nest rs 0 1))) b := by
  obtain ⟨R, h, hR⟩ := nest_is M hr hx 0 1 b
  have c1 := check_ok M x rs b
  unfold F_comes_again G_comes_again
  unfold machD at c1 h ⊢
  simp [-isNF, c1, h, hR]
open Classical in
theorem stay_ok2 (M : Addr) {x : Str} {rs : List Row} (hr : RowsOk x.length rs) (hx : x.length ≤ 100) (b : Bag) : F_does_stay M [machD M x rs] b = .ok (.bl (decide (¬ Nest rs 1 0))) b := by
  obtain ⟨R, h, hR⟩ := nest_is M hr hx 1 0 b
  have c1 := check_ok M x rs b
  unfold F_does_stay G_does_stay
  unfold machD at c1 h ⊢
  simp [-isNF, c1, h, hR]
open Classical in
theorem duty_ok (M : Addr) {x : Str} {rs : List Row} (hr : RowsOk x.length rs) (hx : x.length ≤ 100) (b : Bag) : F_is_duty M [machD M x rs] b = .ok (.bl (decide (¬ Nest rs 0 1) && decide (¬ Nest rs 1 0))) b := by
  have h1 := again_ok2 M hr hx b
  have h2 := stay_ok2 M hr hx b
  unfold F_is_duty G_is_duty
  unfold machD at h1 h2 ⊢
  cases hk : decide (¬ Nest rs 0 1) <;> rw [hk] at h1 <;> simp [h1, h2]
end DL

set_option maxHeartbeats 1000000
namespace DL
open PySem PySem.Spec PyProof.Rows L2
theorem cps_fold (f : Nat → List Nat) : ∀ (l : List Nat) (acc : Array Nat), (l.foldl (fun out c => out ++ (f c).toArray) acc).toList = acc.toList ++ l.flatMap f
  | [], acc => by simp
  | c :: l, acc => by
    rw [List.foldl_cons, cps_fold f l]
    simp
theorem strOk_app {a b : Str} (h : PyData.strOk a = true) (h' : PyData.strOk b = true) : PyData.strOk (a ++ b) = true := by
  unfold PyData.strOk at *
  rw [← Array.all_toList, List.all_eq_true] at *
  intro c hc
  rw [app_list] at hc
  rcases List.mem_append.mp hc with hc | hc
  · exact h c hc
  · exact h' c hc
end DL

set_option maxHeartbeats 1000000
namespace DL
open PySem PySem.Spec PyProof.Rows L2
def gI (sc : Int → List Int) (s : Int) (i : Nat) : Int := ((sc s)[i]?).getD 0
def wE (x : Str) (sc : Int → List Int) : Int → List Nat → Int
  | s, [] => s
  | s, c :: cs => wE x sc (gI sc s (idx x c)) cs
def wL (x : Str) (sc : Int → List Int) : Int → List Nat → List Int
  | _, [] => []
  | s, c :: cs => gI sc s (idx x c) :: wL x sc (gI sc s (idx x c)) cs
theorem wE_app (x : Str) (sc : Int → List Int) : ∀ (u v : List Nat) (s : Int), wE x sc s (u ++ v) = wE x sc (wE x sc s u) v
  | [], _, _ => rfl
  | c :: u, v, s => wE_app x sc u v _
theorem wL_app (x : Str) (sc : Int → List Int) : ∀ (u v : List Nat) (s : Int), wL x sc s (u ++ v) = wL x sc s u ++ wL x sc (wE x sc s u) v
  | [], _, _ => rfl
  | c :: u, v, s => congrArg (_ :: ·) (wL_app x sc u v _)
structure WkG (x : Str) (sc : Int → List Int) (ins : List Int) (s k : Int) (w : Str) : Prop where
  wd : Wd x w
  to : wE x sc s w.cps.toList = k
  by_ : ∀ j ∈ wL x sc s w.cps.toList, j ∈ ins
theorem WkG.app {x : Str} {sc : Int → List Int} {ins : List Int} {s k m : Int} {u w : Str} (h : WkG x sc ins s k u) (h' : WkG x sc ins k m w) : WkG x sc ins s m (u ++ w) := by
  refine ⟨app_wd h.wd h'.wd, ?_, fun j hj => ?_⟩
  · rw [app_list, wE_app, h.to, h'.to]
  · rw [app_list, wL_app, h.to] at hj
    rcases List.mem_append.mp hj with hj | hj
    · exact h.by_ j hj
    · exact h'.by_ j hj
end DL

set_option maxHeartbeats 1000000

set_option maxHeartbeats 1000000

set_option maxHeartbeats 1000000

set_option maxHeartbeats 1000000

set_option maxHeartbeats 1000000

set_option maxHeartbeats 1000000

set_option maxHeartbeats 1000000
namespace DL
open PySem PySem.Spec PyProof.Rows L2
section
variable (n m : Nat) (sc : Int → List Int)
/-- what a number shows in a round -/
def rowG (g : Int → Int) (k : Int) : Int × List Int := (g k, (sc k).map g)
def leastG (g : Int → Int) (k : Int) : Nat := (nums n).findIdx fun j => decide (rowG sc g j = rowG sc g k)
def nxtG (g : Int → Int) (k : Int) : Int := (leastG n sc g k : Int)
def itG (g : Int → Int) : Nat → Int → Int
  | 0 => g
  | t + 1 => nxtG n sc (itG g t)
end
section
variable {n m : Nat} {sc : Int → List Int} (hw : ∀ k : Int, 0 ≤ k → k < n → (sc k).length = m) (hgo : ∀ k : Int, 0 ≤ k → k < n → ∀ g ∈ sc k, 0 ≤ g ∧ g < n)
theorem nums_at {n : Nat} {i : Nat} (h : i < n) : (nums n)[i]? = some (i : Int) := by
  unfold nums
  rw [List.getElem?_map, List.getElem?_range h]
  rfl
theorem least_lt {g : Int → Int} {k : Int} (k0 : 0 ≤ k) (k1 : k < n) : leastG n sc g k < n := by
  have h : leastG n sc g k < (nums n).length := List.findIdx_lt_length_of_exists ⟨k, mem_nums.mpr ⟨k0, k1⟩, by simp⟩
  rw [len_nums] at h
  exact h
theorem least_row {g : Int → Int} {k : Int} (k0 : 0 ≤ k) (k1 : k < n) : rowG sc g (leastG n sc g k : Int) = rowG sc g k := by
  have hl := least_lt (sc := sc) (g := g) k0 k1
  have h : leastG n sc g k < (nums n).length := by rw [len_nums]; exact hl
  have h2 := List.findIdx_getElem (xs := nums n) (p := fun j => decide (rowG sc g j = rowG sc g k)) (w := h)
  have h3 : (nums n)[leastG n sc g k] = (leastG n sc g k : Int) := by
    have := nums_at hl
    rw [List.getElem?_eq_getElem h] at this
    exact Option.some.inj this
  have h4 : decide (rowG sc g (nums n)[leastG n sc g k] = rowG sc g k) = true := h2
  rw [h3] at h4
  exact of_decide_eq_true h4
theorem nxt_iff {g : Int → Int} {j k : Int} (j0 : 0 ≤ j) (j1 : j < n) (k0 : 0 ≤ k) (k1 : k < n) : nxtG n sc g j = nxtG n sc g k ↔ rowG sc g j = rowG sc g k := by
  constructor
  · intro h
    have h : leastG n sc g j = leastG n sc g k := by unfold nxtG at h; omega
    rw [← least_row (g := g) j0 j1, ← least_row (g := g) k0 k1, h]
  · intro h
    unfold nxtG leastG
    rw [h]
theorem nxt_in {g : Int → Int} {k : Int} (k0 : 0 ≤ k) (k1 : k < n) : 0 ≤ nxtG n sc g k ∧ nxtG n sc g k < n := by
  have := least_lt (sc := sc) (g := g) k0 k1
  unfold nxtG
  omega
/-- the same number stands for its like -/
theorem nxt_own {g : Int → Int} {k : Int} (k0 : 0 ≤ k) (k1 : k < n) : nxtG n sc g (nxtG n sc g k) = nxtG n sc g k := by
  obtain ⟨h0, h1⟩ := nxt_in (sc := sc) (g := g) k0 k1
  exact (nxt_iff h0 h1 k0 k1).mpr (least_row k0 k1)
include hw in
theorem row_iff {g : Int → Int} {j k : Int} (j0 : 0 ≤ j) (j1 : j < n) (k0 : 0 ≤ k) (k1 : k < n) : rowG sc g j = rowG sc g k ↔ g j = g k ∧ ∀ i, i < m → g (gI sc j i) = g (gI sc k i) := by
  have hj := hw j j0 j1
  have hk := hw k k0 k1
  unfold rowG
  rw [Prod.mk.injEq]
  refine and_congr Iff.rfl ?_
  constructor
  · intro h i hi
    have e1 : (sc j)[i]? = some (gI sc j i) := by unfold gI; rw [List.getElem?_eq_getElem (by omega)]; rfl
    have e2 : (sc k)[i]? = some (gI sc k i) := by unfold gI; rw [List.getElem?_eq_getElem (by omega)]; rfl
    have := congrArg (fun l => l[i]?) h
    simp only [List.getElem?_map, e1, e2, Option.map_some] at this
    exact Option.some.inj this
  · intro h
    apply List.ext_getElem?
    intro i
    rw [List.getElem?_map, List.getElem?_map]
    by_cases hi : i < m
    · have e1 : (sc j)[i]? = some (gI sc j i) := by unfold gI; rw [List.getElem?_eq_getElem (by omega)]; rfl
      have e2 : (sc k)[i]? = some (gI sc k i) := by unfold gI; rw [List.getElem?_eq_getElem (by omega)]; rfl
      rw [e1, e2, Option.map_some, Option.map_some, h i hi]
    · rw [List.getElem?_eq_none (by omega), List.getElem?_eq_none (by omega)]
/-- the same parts -/
def SameG (n : Nat) (g g' : Int → Int) : Prop := ∀ j k : Int, 0 ≤ j → j < n → 0 ≤ k → k < n → (g j = g k ↔ g' j = g' k)
theorem gI_in {k : Int} {i : Nat} (hgo : ∀ k : Int, 0 ≤ k → k < n → ∀ g ∈ sc k, 0 ≤ g ∧ g < n) (k0 : 0 ≤ k) (k1 : k < n) (hi : i < (sc k).length) : gI sc k i ∈ sc k ∧ 0 ≤ gI sc k i ∧ gI sc k i < n := by
  have e : gI sc k i = (sc k)[i] := by unfold gI; rw [List.getElem?_eq_getElem hi]; rfl
  have hm : gI sc k i ∈ sc k := by rw [e]; exact List.getElem_mem hi
  exact ⟨hm, hgo k k0 k1 _ hm⟩
include hw hgo in
theorem same_next {g g' : Int → Int} (h : SameG n g g') : SameG n (nxtG n sc g) (nxtG n sc g') := fun j k j0 j1 k0 k1 => by
  rw [nxt_iff j0 j1 k0 k1, nxt_iff j0 j1 k0 k1, row_iff hw j0 j1 k0 k1, row_iff hw j0 j1 k0 k1]
  refine and_congr (h j k j0 j1 k0 k1) (forall_congr' fun i => forall_congr' fun hi => ?_)
  obtain ⟨_, a0, a1⟩ := gI_in hgo j0 j1 (by rw [hw j j0 j1]; exact hi)
  obtain ⟨_, c0, c1⟩ := gI_in hgo k0 k1 (by rw [hw k k0 k1]; exact hi)
  exact h _ _ a0 a1 c0 c1
theorem finer {g : Int → Int} {j k : Int} (j0 : 0 ≤ j) (j1 : j < n) (k0 : 0 ≤ k) (k1 : k < n) (h : nxtG n sc g j = nxtG n sc g k) : g j = g k := congrArg Prod.fst ((nxt_iff j0 j1 k0 k1).mp h)
/-- first of its like -/
def repG (g : Int → Int) (k : Int) : Prop := ∀ j : Int, 0 ≤ j → j < k → g j ≠ g k
open Classical in
noncomputable def cntG (n : Nat) (g : Int → Int) : Nat := ((nums n).filter fun k => decide (repG g k)).length
theorem filter_less {α : Type} {p q : α → Bool} : ∀ (l : List α), (∀ a ∈ l, p a = true → q a = true) → (l.filter p).length ≤ (l.filter q).length
  | [], _ => by simp
  | a :: l, h => by
    have ih := filter_less l fun b hb => h b (List.mem_cons_of_mem _ hb)
    have h1 := h a List.mem_cons_self
    rw [List.filter_cons, List.filter_cons]
    cases hp : p a <;> cases hq : q a
    · exact ih
    · simp; omega
    · rw [h1 hp] at hq; cases hq
    · simp; omega
theorem filter_more {α : Type} {p q : α → Bool} : ∀ (l : List α), (∀ a ∈ l, p a = true → q a = true) → (∃ a ∈ l, q a = true ∧ p a = false) → (l.filter p).length < (l.filter q).length
  | [], _, ⟨_, h, _⟩ => by cases h
  | a :: l, h, ⟨b, hb, h2, h3⟩ => by
    have hl := filter_less l fun b hb => h b (List.mem_cons_of_mem _ hb)
    have h1 := h a List.mem_cons_self
    rw [List.filter_cons, List.filter_cons]
    rcases List.mem_cons.mp hb with rfl | hb
    · rw [h2, h3]
      simp
      omega
    · have ih := filter_more l (fun b hb => h b (List.mem_cons_of_mem _ hb)) ⟨b, hb, h2, h3⟩
      cases hp : p a <;> cases hq : q a
      · exact ih
      · simp; omega
      · rw [h1 hp] at hq; cases hq
      · simp; omega
theorem least_like (g : Int → Int) : ∀ (t : Nat) (k : Int), 0 ≤ k → k < t → ∃ r : Int, 0 ≤ r ∧ r ≤ k ∧ g r = g k ∧ repG g r
  | 0, k, h0, h1 => by omega
  | t + 1, k, h0, h1 => by
    by_cases h : ∃ j : Int, 0 ≤ j ∧ j < k ∧ g j = g k
    · obtain ⟨j, j0, j1, j2⟩ := h
      obtain ⟨r, r0, r1, r2, r3⟩ := least_like g t j j0 (by omega)
      exact ⟨r, r0, by omega, r2.trans j2, r3⟩
    · exact ⟨k, h0, Int.le_refl _, rfl, fun j j0 j1 e => h ⟨j, j0, j1, e⟩⟩
open Classical in
theorem grow {g : Int → Int} (h : ¬ SameG n g (nxtG n sc g)) : cntG n g < cntG n (nxtG n sc g) := by
  have hex : ∃ j k : Int, (0 ≤ j ∧ j < n) ∧ (0 ≤ k ∧ k < n) ∧ g j = g k ∧ nxtG n sc g j ≠ nxtG n sc g k := by
    apply Classical.byContradiction
    intro hn
    refine h fun j k j0 j1 k0 k1 => ⟨fun e => ?_, finer j0 j1 k0 k1⟩
    apply Classical.byContradiction
    intro z
    exact hn ⟨j, k, ⟨j0, j1⟩, ⟨k0, k1⟩, e, z⟩
  obtain ⟨j, k, ⟨j0, j1⟩, ⟨k0, k1⟩, e, hne⟩ := hex
  obtain ⟨r, r0, r1, r2, r3⟩ := least_like g n k k0 k1
  obtain ⟨z, z0, z1, zk, zn⟩ : ∃ z : Int, 0 ≤ z ∧ z < n ∧ g z = g k ∧ nxtG n sc g z ≠ nxtG n sc g r := by
    by_cases hj : nxtG n sc g j = nxtG n sc g r
    · exact ⟨k, k0, k1, rfl, fun hk => hne (hj.trans hk.symm)⟩
    · exact ⟨j, j0, j1, e, hj⟩
  obtain ⟨w, w0, w1, w2, w3⟩ := least_like (nxtG n sc g) n z z0 z1
  have hgw : g w = g k := (finer w0 (by omega) z0 z1 w2).trans zk
  have hwr : w ≠ r := fun hh => zn (by rw [← w2, hh])
  have hrw : r < w := by
    apply Classical.byContradiction
    intro hh
    exact r3 w w0 (by omega) (hgw.trans r2.symm)
  unfold cntG
  refine filter_more _ (fun a ha hp => decide_eq_true fun b b0 b1 hb => ?_) ⟨w, mem_nums.mpr ⟨w0, by omega⟩, decide_eq_true w3, decide_eq_false fun hh => hh r r0 hrw (r2.trans hgw.symm)⟩
  obtain ⟨a0, a1⟩ := mem_nums.mp ha
  exact (of_decide_eq_true hp) b b0 b1 (finer b0 (by omega) a0 a1 hb)
open Classical in
include hw hgo in
theorem stable_or (g : Int → Int) (hn : 1 ≤ n) : ∀ t : Nat, SameG n (itG n sc g t) (itG n sc g (t + 1)) ∨ t + 1 ≤ cntG n (itG n sc g t)
  | 0 => by
    refine .inr ?_
    have : (0 : Int) ∈ (nums n).filter fun k => @decide (repG (itG n sc g 0) k) (Classical.propDecidable _) := List.mem_filter.mpr ⟨mem_nums.mpr ⟨by decide, by omega⟩, decide_eq_true fun j j0 j1 => by omega⟩
    exact List.length_pos_of_mem this
  | t + 1 => by
    by_cases h : SameG n (itG n sc g (t + 1)) (itG n sc g (t + 1 + 1))
    · exact .inl h
    · rcases stable_or g hn t with h2 | h2
      · exact absurd (same_next hw hgo h2) h
      · have h3 := grow (sc := sc) (g := itG n sc g t) (fun z => h (same_next hw hgo z))
        exact .inr (by show t + 1 + 1 ≤ cntG n (nxtG n sc (itG n sc g t)); omega)
include hw hgo in
theorem stable (g : Int → Int) (hn : 1 ≤ n) : SameG n (itG n sc g n) (itG n sc g (n + 1)) := by
  rcases stable_or hw hgo g hn n with h | h
  · exact h
  · have : cntG n (itG n sc g n) ≤ n := by
      have := List.length_filter_le (fun k => @decide (repG (itG n sc g n) k) (Classical.propDecidable _)) (nums n)
      rw [len_nums] at this
      exact this
    omega
include hw hgo in
theorem it_finer (g : Int → Int) : ∀ (t : Nat) {j k : Int}, 0 ≤ j → j < n → 0 ≤ k → k < n → itG n sc g t j = itG n sc g t k → g j = g k
  | 0, _, _, _, _, _, _, h => h
  | t + 1, j, k, j0, j1, k0, k1, h => it_finer g t j0 j1 k0 k1 (finer j0 j1 k0 k1 h)
/-- the parts at the end: each number stands for its like, and they go on alike -/
structure Parts (n m : Nat) (sc : Int → List Int) (mk g : Int → Int) : Prop where
  in_ : ∀ k : Int, 0 ≤ k → k < n → 0 ≤ g k ∧ g k < n
  own : ∀ k : Int, 0 ≤ k → k < n → g (g k) = g k
  mark : ∀ k : Int, 0 ≤ k → k < n → mk (g k) = mk k
  go : ∀ j k : Int, 0 ≤ j → j < n → 0 ≤ k → k < n → g j = g k → ∀ i, i < m → g (gI sc j i) = g (gI sc k i)
include hw hgo in
theorem parts_ok (mk : Int → Int) (hn : 1 ≤ n) : Parts n m sc mk (itG n sc mk n) := by
  obtain ⟨t, rfl⟩ : ∃ t, n = t + 1 := ⟨n - 1, by omega⟩
  refine ⟨fun k k0 k1 => nxt_in k0 k1, fun k k0 k1 => nxt_own k0 k1, fun k k0 k1 => ?_, fun j k j0 j1 k0 k1 h i hi => ?_⟩
  · obtain ⟨h0, h1⟩ := nxt_in (sc := sc) (g := itG (t + 1) sc mk t) k0 k1
    exact it_finer hw hgo mk (t + 1) h0 h1 k0 k1 (nxt_own k0 k1)
  · have h2 := (stable hw hgo mk hn j k j0 j1 k0 k1).mp h
    exact ((row_iff hw j0 j1 k0 k1).mp ((nxt_iff j0 j1 k0 k1).mp h2)).2 i hi
end
end DL

set_option maxHeartbeats 1000000
namespace DL
open PySem PySem.Spec PyProof.Rows L2
def pTG (sc : Int → List Int) (g : Int → Int) (k : Int) : PyData := .tuple [.int (g k), .list (((sc k).map g).map PyData.int)]
def tTG (sc : Int → List Int) (g : Int → Int) (k : Int) : D := .tup [.int (g k), lD ((sc k).map g)]
theorem eqv_ints : ∀ is js : List Int, PyData.eqvAll (is.map PyData.int) (js.map PyData.int) = decide (is = js)
  | [], [] => by simp [PyData.eqvAll]
  | [], j :: js => by simp [PyData.eqvAll]
  | i :: is, [] => by simp [PyData.eqvAll]
  | i :: is, j :: js => by
    have ih := eqv_ints is js
    have h := int_eqv i j
    simp only [List.map_cons, PyData.eqvAll, h, ih]
    rw [Bool.eq_iff_iff]
    simp
theorem eqv_pT (sc : Int → List Int) (g : Int → Int) (j k : Int) : PyData.eqv (pTG sc g j) (pTG sc g k) = decide (rowG sc g j = rowG sc g k) := by
  have h1 := eqv_ints ((sc j).map g) ((sc k).map g)
  have h2 := int_eqv (g j) (g k)
  unfold pTG rowG
  rw [Bool.eq_iff_iff]
  simp [PyData.eqv, PyData.eqvAll] at h1 h2 ⊢
  simp [h1, h2]
theorem pd_pT (sc : Int → List Int) (g : Int → Int) (k : Int) : (tTG sc g k).pd = some (pTG sc g k) := by
  have h := pds_ints ((sc k).map g)
  unfold tTG pTG lD
  simp [D.pd, pds, h, -List.map_map]
theorem pds_pT (sc : Int → List Int) (g : Int → Int) : ∀ l : List Int, pds (l.map (tTG sc g)) = some (l.map (pTG sc g))
  | [] => rfl
  | k :: l => by
    rw [List.map_cons, List.map_cons]
    unfold pds
    rw [pd_pT, pds_pT sc g l]
    rfl
theorem lay_pT (sc : Int → List Int) (g : Int → Int) (k : Int) : (pTG sc g k).canLay0 = true ∧ (pTG sc g k).depth ≤ 2 := by
  obtain ⟨j1, j2⟩ := lay_ints ((sc k).map g)
  unfold pTG
  refine ⟨by simp [PyData.canLayAll0, PyData.canLay0, j1, -List.map_map], ?_⟩
  simp only [PyData.depthAll, PyData.depth, j2]
  omega
theorem layAll_pT (sc : Int → List Int) (g : Int → Int) : ∀ l : List Int, PyData.canLayAll0 (l.map (pTG sc g)) = true ∧ PyData.depthAll (l.map (pTG sc g)) ≤ 2
  | [] => ⟨by simp [PyData.canLayAll0], by simp [PyData.depthAll]⟩
  | k :: l => by
    obtain ⟨i1, i2⟩ := layAll_pT sc g l
    obtain ⟨j1, j2⟩ := lay_pT sc g k
    refine ⟨by simp [PyData.canLayAll0, i1, j1], ?_⟩
    simp only [List.map_cons, PyData.depthAll]
    omega
theorem ldx_pT {n : Nat} (sc : Int → List Int) (g : Int → Int) {k : Int} (k0 : 0 ≤ k) (k1 : k < n) : ldxF ((nums n).map (tTG sc g)) [tTG sc g k] = some (.int (nxtG n sc g k)) := by
  have h1 := pds_pT sc g (nums n)
  have h2 := pd_pT sc g k
  have s1 : SeqAt.shaped (.list ((nums n).map (pTG sc g))) = true := by
    obtain ⟨a, b⟩ := layAll_pT sc g (nums n)
    simp [SeqAt.shaped, PyData.canLay0, PyData.depth, a]
    omega
  have s2 : SeqAt.shaped (pTG sc g k) = true := by
    obtain ⟨a, b⟩ := lay_pT sc g k
    simp [SeqAt.shaped, a]
    omega
  have hf : ((nums n).map (pTG sc g)).findIdx? (fun z => PyData.eqv z (pTG sc g k)) = some (leastG n sc g k) := by
    rw [List.findIdx?_map, List.findIdx?_eq_some_iff_findIdx_eq]
    have e : ((fun z => PyData.eqv z (pTG sc g k)) ∘ pTG sc g) = fun j => decide (rowG sc g j = rowG sc g k) := by
      funext j
      exact eqv_pT sc g j k
    rw [e, len_nums]
    exact ⟨least_lt k0 k1, rfl⟩
  unfold ldxF
  simp only [h1, h2, s1, s2, and_self, if_true, hf, Option.map_some]
  rfl
theorem at_map {α : Type} {n : Nat} (f : Int → α) {k : Int} (k0 : 0 ≤ k) (k1 : k < n) : atI ((nums n).map f) k = some (f k) := by
  obtain ⟨i, rfl⟩ : ∃ i : Nat, k = (i : Int) := ⟨k.toNat, by omega⟩
  exact atI_nat (by rw [List.getElem?_map, nums_at (by omega)]; rfl)
def bGrp1 : SF := (sAsg (eLc (aRng (aCons (eB lenF (aCons (eV 0) aNil)) aNil)) [5] (gN 5) bYes (eTup (aCons (eIx (eV 2) (eV 5)) (aCons (eLc (aAny (eIx (eV 0) (eV 5))) [6] (gN 6) bYes (eIx (eV 2) (eV 6))) aNil)))) (gN 4))
section
variable {A : List D} {n m : Nat} {sc : Int → List Int} (G : Gr A n sc) (hn : 1 ≤ n)
include G
theorem told_k (g : Int → Int) (d1 : D) (o3 o4 : Option D) (b : Bag) {k : Int} (k0 : 0 ≤ k) (k1 : k < n) :
    (eTup (aCons (eIx (eV 2) (eV 5)) (aCons (eLc (aAny (eIx (eV 0) (eV 5))) [6] (gN 6) bYes (eIx (eV 2) (eV 6))) aNil))) [some (.sh (.lst A)), some (.sh d1), some (.sh (lD ((nums n).map g))), o3.map SD.sh, o4.map SD.sh, some (.sh (.int k)), none, none] b = .ok (tTG sc g k) b := by
  obtain ⟨d, r1, r2⟩ := G.row k k0 k1
  have hg := at_map (n := n) (fun k => D.int (g k)) k0 k1
  have hf := G.few k k0 k1
  have hl := lc_ints' (i := 6) (b := b) (F := eIx (eV 2) (eV 6)) (ρ := [some (.sh (.lst A)), some (.sh d1), some (.sh (lD ((nums n).map g))), o3.map SD.sh, o4.map SD.sh, some (.sh (.int k)), none, none]) g (sc k) (fun j hj => by
    obtain ⟨j0, j1⟩ := G.go k k0 k1 j hj
    have := at_map (n := n) (fun k => D.int (g k)) j0 j1
    unfold lD
    rw [List.map_map]
    simp [Function.comp_def, this])
  have hl2 : (sc k).length ≤ 100000 := by omega
  unfold tTG
  unfold lD at hl ⊢
  rw [List.map_map] at hl
  simp only [Function.comp_def] at hl
  rcases r2 with rfl | rfl <;> simp [Function.comp_def, hg, r1, hl2] at hl ⊢ <;> simp [Function.comp_def, hl]
theorem grp_body (g : Int → Int) (d1 : D) (o3 o4 : Option D) (b : Bag) :
    ∃ o4' : Option D, sSeq bGrp1 (sAsg (eLc (aAny (eV 4)) [7] (gN 7) bYes (eML ldxF (eV 4) (aCons (eV 7) aNil))) (gN 2)) [some (.sh (.lst A)), some (.sh d1), some (.sh (lD ((nums n).map g))), o3.map SD.sh, o4.map SD.sh, none, none, none] b = .nx [some (.sh (.lst A)), some (.sh d1), some (.sh (lD ((nums n).map (nxtG n sc g)))), o3.map SD.sh, o4'.map SD.sh, none, none, none] b := by
  have hn1 := G.n1000
  have hAl := G.len
  have h1 := lc_ints (i := 5) (b := b) (F := (eTup (aCons (eIx (eV 2) (eV 5)) (aCons (eLc (aAny (eIx (eV 0) (eV 5))) [6] (gN 6) bYes (eIx (eV 2) (eV 6))) aNil)))) (ρ := [some (.sh (.lst A)), some (.sh d1), some (.sh (lD ((nums n).map g))), o3.map SD.sh, o4.map SD.sh, none, none, none]) (tTG sc g) (nums n) (fun k hk => by
    obtain ⟨k0, k1⟩ := mem_nums.mp hk
    exact told_k G g d1 o3 o4 b k0 k1)
  have h2 := lc_map (g := gN 7) (F := (eML ldxF (eV 4) (aCons (eV 7) aNil))) (f := fun d => match d with | .tup [_, _] => ((ldxF ((nums n).map (tTG sc g)) [d]).getD .non) | d => d) ((nums n).map (tTG sc g)) [some (.sh (.lst A)), some (.sh d1), some (.sh (lD ((nums n).map g))), o3.map SD.sh, some (.sh (.lst ((nums n).map (tTG sc g)))), none, none, none] b (fun d hd => by
    obtain ⟨k, hk, rfl⟩ := List.mem_map.mp hd
    obtain ⟨k0, k1⟩ := mem_nums.mp hk
    have h3 := ldx_pT sc g k0 k1
    refine ⟨_, rfl, ?_⟩
    unfold tTG at h3 ⊢
    simp [seqOf, h3])
  have h3 : (List.map (fun d => match d with | .tup [_, _] => ((ldxF ((nums n).map (tTG sc g)) [d]).getD .non) | d => d) ((nums n).map (tTG sc g))) = ((nums n).map (nxtG n sc g)).map D.int := by
    rw [List.map_map, List.map_map]
    refine List.map_congr_left fun k hk => ?_
    obtain ⟨k0, k1⟩ := mem_nums.mp hk
    have h3 := ldx_pT sc g k0 k1
    unfold tTG at h3 ⊢
    simp only [Function.comp, h3]
    rfl
  rw [h3] at h2
  have hln := len_nums n
  have hn8 : n ≤ 100000 := by omega
  have hn9 : (n : Int) ≤ 1000000 := by omega
  refine ⟨some (.lst ((nums n).map (tTG sc g))), ?_⟩
  have e1 : bGrp1 [some (.sh (.lst A)), some (.sh d1), some (.sh (lD ((nums n).map g))), o3.map SD.sh, o4.map SD.sh, none, none, none] b = .nx [some (.sh (.lst A)), some (.sh d1), some (.sh (lD ((nums n).map g))), o3.map SD.sh, some (.sh (.lst ((nums n).map (tTG sc g)))), none, none, none] b := by
    unfold bGrp1
    unfold lD at h1 ⊢
    simp [aRng, hAl, hn8, hn9, range_nums, hln, -List.map_map, -eTup] at h1 ⊢
    simp [h1, -List.map_map, -eTup]
  refine (seq_step e1).trans ?_
  unfold lD at h2 ⊢
  simp [hln, hn8, h2, -List.map_map, -eML]
theorem groups_ok (mk : Int → Int) (b : Bag) : F_groups_of [.lst A, lD ((nums n).map mk)] b = .ok (lD ((nums n).map (itG n sc mk n))) b := by
  obtain ⟨ρ', b', w1, o3, o4, w2, w3⟩ := loop_ind (g := gN 3) (B := sSeq bGrp1 (sAsg (eLc (aAny (eV 4)) [7] (gN 7) bYes (eML ldxF (eV 4) (aCons (eV 7) aNil))) (gN 2)))
    (fun i ρ b' => ∃ o3 o4 : Option D, ρ = [some (.sh (.lst A)), some (.sh (lD ((nums n).map mk))), some (.sh (lD ((nums n).map (itG n sc mk i)))), o3.map SD.sh, o4.map SD.sh, none, none, none] ∧ b' = b)
    A 0 (fun i d hd ρ b' ⟨o3, o4, w1, w2⟩ => by
      subst w1 w2
      rw [Nat.zero_add]
      obtain ⟨o4', e1⟩ := grp_body G (itG n sc mk i) (lD ((nums n).map mk)) (some d) o4 b'
      exact ⟨_, _, b', rfl, e1, some d, o4', rfl, rfl⟩) [some (.sh (.lst A)), some (.sh (lD ((nums n).map mk))), some (.sh (lD ((nums n).map mk))), none, none, none, none, none] b ⟨none, none, rfl, rfl⟩
  subst w2 w3
  rw [Nat.zero_add, G.len] at w1
  have e : F_groups_of = runD 8 2 (sSeq (sAsg (eV 1) (gN 2)) (sSeq (sFor (aAny (eV 0)) (gN 3) (sSeq bGrp1 (sAsg (eLc (aAny (eV 4)) [7] (gN 7) bYes (eML ldxF (eV 4) (aCons (eV 7) aNil))) (gN 2)))) (sRet (eV 2)))) := rfl
  have hst : startE 8 [.lst A, lD ((nums n).map mk)] = [some (.sh (.lst A)), some (.sh (lD ((nums n).map mk))), none, none, none, none, none, none] := rfl
  rw [e]
  have q0 : sAsg (eV 1) (gN 2) [some (.sh (.lst A)), some (.sh (lD ((nums n).map mk))), none, none, none, none, none, none] b' = .nx [some (.sh (.lst A)), some (.sh (lD ((nums n).map mk))), some (.sh (lD ((nums n).map mk))), none, none, none, none, none] b' := by simp
  have q1 : aAny (eV 0) [some (.sh (.lst A)), some (.sh (lD ((nums n).map mk))), some (.sh (lD ((nums n).map mk))), none, none, none, none, none] b' = .ok A b' := by simp
  simp only [runD, List.length_cons, List.length_nil, if_true, hst, sSeq, q0, seq_nx_, sFor, q1, st_ok_]
  rw [w1]
  rfl
end
end DL

set_option maxHeartbeats 1000000
namespace DL
open PySem PySem.Spec PyProof.Rows L2
theorem Pth.into {sc : Int → List Int} {ok : Int → Prop} {a b : Int} (h : Pth sc ok a b) : ∃ y, (y = a ∨ ok y) ∧ b ∈ sc y := by
  induction h with
  | one h1 _ => exact ⟨_, .inl rfl, h1⟩
  | step h1 h2 _ ih =>
    obtain ⟨y, hy, hb⟩ := ih
    rcases hy with rfl | hy
    · exact ⟨_, .inr h2, hb⟩
    · exact ⟨y, .inr hy, hb⟩
end DL

set_option maxHeartbeats 1000000
namespace DL
open PySem PySem.Spec PyProof.Rows L2
def gu_0 (M : Addr) : SF := (sDrop (eCall (F_check_machine M) (aCons (eV 0) aNil)))
def gu_1 (M : Addr) : SF := (sAsg (eCall (F_dead M) (aCons (eV 0) aNil)) (gN 1))
def gu_2 (M : Addr) : SF := (sAsg (eLc (aRng (aCons (eLenO M (F_Machine_len_ M) (aCons (eV 0) aNil)) aNil)) [7] (gN 7) bYes (eIf (bB (e2 inQ (eV 7) (eV 1))) (eC (.int 1)) (eC (.int 0)))) (gN 2))
def gu_3 (M : Addr) : SF := (sAsg (eCall (F_groups_of) (aCons (eCall (F_arrows_of M) (aCons (eV 0) aNil)) (aCons (eV 2) aNil))) (gN 3))
def gu_4 (M : Addr) : SF := (sAsg (eLc (aAny (eCall (F_arrows_of M) (aCons (eV 0) aNil))) [8] (gN 8) bYes (eLc (aAny (eV 8)) [7] (gN 7) bYes (eIx (eV 3) (eV 7)))) (gN 4))
def gu_5 (M : Addr) : SF := (sAsg (eLstD (eCall (F_words_from) (aCons (e1 (fldF M "_letters") (eV 0)) (aCons (eV 4) (aCons (eIx (eV 3) (eC (.int 0))) (aCons (eV 3) aNil)))))) (gN 5))
def gu_6 (M : Addr) : SF := (sAsg (eLc (aAny (eV 5)) [7] (gN 7) bYes (eTup (aCons (eIx (eV 2) (eV 7)) (aCons (eB tupleF (aCons (eLc (aAny (eIx (eV 4) (eV 7))) [9] (gN 9) bYes (eML lidxF (eV 5) (aCons (eV 9) aNil))) aNil)) aNil)))) (gN 6))
def gu_7 (M : Addr) : SF := (sRet (eMake M (Fm_Machine M) (aCons (e1 (fldF M "_letters") (eV 0)) (aCons (eB tupleF (aCons (eV 6) aNil)) aNil))))
def gu (M : Addr) : SF := (sSeq (gu_0 M) (sSeq (gu_1 M) (sSeq (gu_2 M) (sSeq (gu_3 M) (sSeq (gu_4 M) (sSeq (gu_5 M) (sSeq (gu_6 M) (gu_7 M))))))))
theorem lidx_idx {f : List Int} {j : Int} (h : j ∈ f) : lidxF (f.map D.int) [.int j] = some (.int (f.idxOf j : Nat)) := by
  unfold lidxF
  simp only [flatD, flats_ints, Option.bind_some]
  have : ((f.map V.int).findIdx? fun z => eqV z (.int j)) = some (f.idxOf j) := by
    rw [List.findIdx?_map, List.findIdx?_eq_some_iff_findIdx_eq]
    have e : ((fun z => eqV z (V.int j)) ∘ V.int) = fun i => i == j := rfl
    rw [e]
    exact ⟨List.idxOf_lt_length_iff.mpr h, rfl⟩
  rw [this]
  rfl
theorem lc_filtB {g : GF} {T : BF} {F : EF} {α : Type} {k f : α → D} {t : α → Bool} : ∀ (l : List α) (ρ : Env) (b : Bag), (∀ a ∈ l, ∃ ρ', g (k a) ρ b = some (ρ', b) ∧ T ρ' b = .ok (t a) b ∧ F ρ' b = .ok (f a) b) → lcD g T F (l.map k) ρ b = .ok ((l.filter t).map f) b
  | [], ρ, b, _ => rfl
  | a :: l, ρ, b, h => by
    obtain ⟨ρ', h0, h1, h2⟩ := h a List.mem_cons_self
    have h3 := lc_filtB l ρ b fun a ha => h a (List.mem_cons_of_mem _ ha)
    rw [List.map_cons]
    unfold lcD
    rw [h0]
    dsimp only
    cases ht : t a
    · rw [ht] at h1
      rw [List.filter_cons_of_neg (by simp [ht])]
      simp [h1, h3]
    · rw [ht] at h1
      rw [List.filter_cons_of_pos ht]
      simp [h1, h2, h3]
/-- 1 for a dead state -/
noncomputable def mkG (rs : List Row) (k : Int) : Int := if k ∈ deadL rs then 1 else 0
/-- the part of a state -/
noncomputable def grG (rs : List Row) : Int → Int := itG rs.length (scM rs) (mkG rs) rs.length
noncomputable def scG (rs : List Row) (k : Int) : List Int := (scM rs k).map (grG rs)
noncomputable def arrG (rs : List Row) : List D := rs.map fun r => lD (r.2.map (grG rs))
noncomputable def rowsG (rs : List Row) (f : List Int) : List Row := f.map fun k => (mkG rs k, (scG rs k).map fun j => ((f.idxOf j : Nat) : Int))
/-- the order in which the parts are met -/
structure OrdG (x : Str) (rs : List Row) (f : List Int) : Prop where
  nd : f.Nodup
  hd : f[0]? = some (grG rs 0)
  lo : ∀ k ∈ f, 0 ≤ k ∧ k < rs.length
  own : ∀ k ∈ f, grG rs k = k
  go : ∀ k ∈ f, ∀ j ∈ scG rs k, j ∈ f
  ord : f = bfsW (scG rs) ((nums rs.length).map (grG rs)) 100000 [grG rs 0] 0
section
variable (M : Addr) {x : Str} {rs : List Row} (hx : x ∈ sgs) (hr : RowsOk x.length rs)
include hx hr
theorem partsG : Parts rs.length x.length (scM rs) (mkG rs) (grG rs) := by
  have G := gr_M hr (by have := (sg_len hx).2; omega : x.length ≤ 1000)
  exact parts_ok (fun k k0 k1 => row_len hr k0 k1) G.go (mkG rs) hr.n0
theorem gr_G : Gr (arrG rs) rs.length (scG rs) := by
  have G := gr_M hr (by have := (sg_len hx).2; omega : x.length ≤ 1000)
  have P := partsG hx hr
  have n1 := hr.n1
  refine ⟨by simp [arrG], fun k k0 k1 => ⟨lD (scG rs k), ?_, .inr rfl⟩, fun k k0 k1 j hj => ?_, fun k k0 k1 => ?_, by omega⟩
  · obtain ⟨i, rfl⟩ : ∃ i : Nat, k = (i : Int) := ⟨k.toNat, by omega⟩
    refine atI_nat ?_
    unfold arrG scG scM rowAt
    rw [List.getElem?_map, Int.toNat_natCast, List.getElem?_eq_getElem (by omega)]
    rfl
  · obtain ⟨i, hi, rfl⟩ := List.mem_map.mp hj
    obtain ⟨i0, i1⟩ := G.go k k0 k1 i hi
    exact P.in_ i i0 i1
  · unfold scG
    rw [List.length_map]
    exact G.few k k0 k1
theorem marks_ok (b : Bag) : lcD (gN 7) bYes (eIf (bB (e2 inQ (eV 7) (eV 1))) (eC (.int 1)) (eC (.int 0))) (rangeOf (rs.length : Int)) [some (.sh (machD M x rs)), some (.sh (.lst ((deadL rs).map D.int))), none, none, none, none, none, none, none, none] b = .ok (((nums rs.length).map (mkG rs)).map D.int) b := by
  rw [range_nums]
  exact lc_ints' (mkG rs) (nums rs.length) (fun k hk => by
    have h := inQ_lst k (deadL rs)
    unfold mkG
    by_cases hd : k ∈ deadL rs
    · rw [decide_eq_true hd] at h
      simp [-inQ, h, hd]
    · rw [decide_eq_false hd] at h
      simp [-inQ, h, hd])
theorem guard_ok' (b : Bag) : ∃ f, OrdG x rs f ∧ F_guard M [machD M x rs] b = .ok (machD M x (rowsG rs f)) b ∧ RowsOk x.length (rowsG rs f) := by
  obtain ⟨l1, l2⟩ := sg_len hx
  have n0 := hr.n0
  have n1 := hr.n1
  have hk : x.length ≤ 1000 := by omega
  have G0 := gr_M hr hk
  have G := gr_G hx hr
  have P := partsG hx hr
  have hz := P.in_ 0 (by decide) (by omega)
  have hwl : ∀ k : Int, 0 ≤ k → k < rs.length → (scG rs k).length = x.length := fun k k0 k1 => by
    unfold scG
    rw [List.length_map]
    exact row_len hr k0 k1
  have NW : NsW rs.length ((nums rs.length).map (grG rs)) := ⟨by rw [List.length_map, len_nums]; exact Nat.le_refl _, fun k hk => by
    obtain ⟨j, hj, rfl⟩ := List.mem_map.mp hk
    obtain ⟨j0, j1⟩ := mem_nums.mp hj
    exact P.in_ j j0 j1⟩
  have hin : grG rs 0 ∈ (nums rs.length).map (grG rs) := List.mem_map.mpr ⟨0, mem_nums.mpr ⟨by decide, by omega⟩, rfl⟩
  obtain ⟨f, wd, w1, w2, w3, w4, _, _, w5⟩ := words_okE (R := fun _ _ => True) G (x := x) hwl (by omega) NW (bg := grG rs 0) hz.1 hz.2 hin (by omega) (fun _ _ _ _ _ _ _ _ _ => trivial) trivial b
  have f0 : grG rs 0 ∈ f := List.mem_of_getElem? w3
  have hins : ∀ k ∈ f, k ∈ (nums rs.length).map (grG rs) := fun k hk => ((w4 k).mp hk).elim (fun e => by rw [e]; exact hin) (·.last)
  have hlo : ∀ k ∈ f, 0 ≤ k ∧ k < rs.length := fun k hk => NW.lo k (hins k hk)
  have hgo : ∀ k ∈ f, ∀ j ∈ scG rs k, j ∈ f := fun k hk j hj => by
    obtain ⟨k0, k1⟩ := hlo k hk
    have hji : j ∈ (nums rs.length).map (grG rs) := by
      obtain ⟨i, hi, rfl⟩ := List.mem_map.mp hj
      obtain ⟨i0, i1⟩ := G0.go k k0 k1 i hi
      exact List.mem_map.mpr ⟨i, mem_nums.mpr ⟨i0, i1⟩, rfl⟩
    refine (w4 j).mpr (.inr ?_)
    rcases (w4 k).mp hk with rfl | hp
    · exact .one hj hji
    · exact hp.snoc hj hji
  have O : OrdG x rs f := ⟨w2, w3, hlo, fun k hk => by
    obtain ⟨j, hj, rfl⟩ := List.mem_map.mp (hins k hk)
    obtain ⟨j0, j1⟩ := mem_nums.mp hj
    exact P.own j j0 j1, hgo, w5⟩
  have hfl : f.length ≤ rs.length := by
    have := nd_sub (c := nums rs.length) w2 fun k hk => mem_nums.mpr (hlo k hk)
    rw [len_nums] at this
    exact this
  have hR : RowsOk x.length (rowsG rs f) := by
    have hlen : (rowsG rs f).length = f.length := by unfold rowsG; rw [List.length_map]
    refine ⟨by rw [hlen]; exact List.length_pos_of_mem f0, by rw [hlen]; omega, fun r hr' => ?_⟩
    unfold rowsG at hr'
    obtain ⟨k, hk, rfl⟩ := List.mem_map.mp hr'
    obtain ⟨k0, k1⟩ := hlo k hk
    rw [hlen]
    refine ⟨?_, ?_, ?_, fun g hg => ?_⟩
    · show 0 ≤ mkG rs k
      unfold mkG
      split <;> decide
    · show mkG rs k ≤ 6
      unfold mkG
      split <;> decide
    · show ((scG rs k).map _).length = x.length
      rw [List.length_map]
      exact hwl k k0 k1
    · obtain ⟨j, hj, rfl⟩ := List.mem_map.mp hg
      have := List.idxOf_lt_length_iff.mpr (hgo k hk j hj)
      omega
  have h0 := check_ok M x rs b
  have h1 := dead_ok M hr hk b
  have h2 := len_M M x rs b
  have h3 := marks_ok M hx hr b
  have h4 := arrows_ok M hr b
  have h5 := groups_ok G0 (mkG rs) b
  have f1 := fld_l M x rs
  have hn : (rs.length : Int) ≤ 1000000 := by omega
  have hn' : rs.length ≤ 1000000 := by omega
  have hn0 : (0 : Int) ≤ rs.length := by omega
  have hn2 : (rs.length : Int) < 9223372036854775808 := by omega
  have hn3 : rs.length < 9223372036854775808 := by omega
  have hn4 : rs.length ≤ 100000 := by omega
  have hl : (nums rs.length).length ≤ 100000 := by rw [len_nums]; omega
  have hl2 : (rangeOf (rs.length : Int)).length ≤ 100000 := by rw [range_len]; omega
  have r0 : gu_0 M [some (.sh (machD M x rs)), none, none, none, none, none, none, none, none, none] b = .nx [some (.sh (machD M x rs)), none, none, none, none, none, none, none, none, none] b := by
    unfold gu_0
    unfold machD at h0 ⊢
    simp [h0]
  have r1 : gu_1 M [some (.sh (machD M x rs)), none, none, none, none, none, none, none, none, none] b = .nx [some (.sh (machD M x rs)), some (.sh (.lst ((deadL rs).map D.int))), none, none, none, none, none, none, none, none] b := by
    unfold gu_1
    unfold machD at h1 ⊢
    simp [h1]
  have r2 : gu_2 M [some (.sh (machD M x rs)), some (.sh (.lst ((deadL rs).map D.int))), none, none, none, none, none, none, none, none] b = .nx [some (.sh (machD M x rs)), some (.sh (.lst ((deadL rs).map D.int))), some (.sh (lD ((nums rs.length).map (mkG rs)))), none, none, none, none, none, none, none] b := by
    unfold gu_2 lD
    unfold machD at h2 h3 ⊢
    simp [aRng, h2, hn, hn', hn0, hn2, hn3, hl2, h3, -List.map_map, -eIf]
  have r3 : gu_3 M [some (.sh (machD M x rs)), some (.sh (.lst ((deadL rs).map D.int))), some (.sh (lD ((nums rs.length).map (mkG rs)))), none, none, none, none, none, none, none] b = .nx [some (.sh (machD M x rs)), some (.sh (.lst ((deadL rs).map D.int))), some (.sh (lD ((nums rs.length).map (mkG rs)))), some (.sh (lD ((nums rs.length).map (grG rs)))), none, none, none, none, none, none] b := by
    unfold gu_3
    have h5' : F_groups_of [.lst (arrD rs), lD ((nums rs.length).map (mkG rs))] b = .ok (lD ((nums rs.length).map (grG rs))) b := h5
    unfold machD at h4 ⊢
    simp [h4, h5']
  have h6 : lcD (gN 8) bYes (eLc (aAny (eV 8)) [7] (gN 7) bYes (eIx (eV 3) (eV 7))) (arrD rs) [some (.sh (machD M x rs)), some (.sh (.lst ((deadL rs).map D.int))), some (.sh (lD ((nums rs.length).map (mkG rs)))), some (.sh (lD ((nums rs.length).map (grG rs)))), none, none, none, none, none, none] b = .ok (arrG rs) b := by
    have h := lc_filtB (g := gN 8) (T := bYes) (F := (eLc (aAny (eV 8)) [7] (gN 7) bYes (eIx (eV 3) (eV 7)))) (k := fun r : Row => D.tup (r.2.map D.int)) (f := fun r => lD (r.2.map (grG rs))) (t := fun _ => true) rs [some (.sh (machD M x rs)), some (.sh (.lst ((deadL rs).map D.int))), some (.sh (lD ((nums rs.length).map (mkG rs)))), some (.sh (lD ((nums rs.length).map (grG rs)))), none, none, none, none, none, none] b (fun r hr' => by
      refine ⟨_, rfl, rfl, ?_⟩
      have ok := hr.ok r hr'
      have hl3 : r.2.length ≤ 100000 := by rw [ok.len]; omega
      have h := lc_ints' (i := 7) (b := b) (F := eIx (eV 3) (eV 7)) (ρ := [some (.sh (machD M x rs)), some (.sh (.lst ((deadL rs).map D.int))), some (.sh (lD ((nums rs.length).map (mkG rs)))), some (.sh (lD ((nums rs.length).map (grG rs)))), none, none, none, none, some (.sh (.tup (r.2.map D.int))), none]) (grG rs) r.2 (fun j hj => by
        obtain ⟨j0, j1⟩ := ok.go j hj
        have := at_map (n := rs.length) (fun k => D.int (grG rs k)) j0 j1
        unfold lD
        rw [List.map_map (l := nums rs.length) (f := grG rs)]
        simp [Function.comp_def, this])
      unfold lD at h ⊢
      simp [hl3, -List.map_map, -eIx] at h ⊢
      simp [h, -List.map_map, -eIx])
    rw [List.filter_eq_self.mpr fun _ _ => rfl] at h
    exact h
  have hal : (arrD rs).length = rs.length := by unfold arrD; rw [List.length_map]
  have r4 : gu_4 M [some (.sh (machD M x rs)), some (.sh (.lst ((deadL rs).map D.int))), some (.sh (lD ((nums rs.length).map (mkG rs)))), some (.sh (lD ((nums rs.length).map (grG rs)))), none, none, none, none, none, none] b = .nx [some (.sh (machD M x rs)), some (.sh (.lst ((deadL rs).map D.int))), some (.sh (lD ((nums rs.length).map (mkG rs)))), some (.sh (lD ((nums rs.length).map (grG rs)))), some (.sh (.lst (arrG rs))), none, none, none, none, none] b := by
    unfold gu_4
    unfold machD at h4 h6 ⊢
    simp [h4, hal, hn4, h6, -eLc]
    simp [eLc, h4, hal, hn4, h6, -eIx]
  have hg0 : atI (((nums rs.length).map (grG rs)).map D.int) 0 = some (.int (grG rs 0)) := by
    rw [List.map_map]
    exact at_map (fun k => D.int (grG rs k)) (by decide) (by omega)
  have r5 : gu_5 M [some (.sh (machD M x rs)), some (.sh (.lst ((deadL rs).map D.int))), some (.sh (lD ((nums rs.length).map (mkG rs)))), some (.sh (lD ((nums rs.length).map (grG rs)))), some (.sh (.lst (arrG rs))), none, none, none, none, none] b = .nx [some (.sh (machD M x rs)), some (.sh (.lst ((deadL rs).map D.int))), some (.sh (lD ((nums rs.length).map (mkG rs)))), some (.sh (lD ((nums rs.length).map (grG rs)))), some (.sh (.lst (arrG rs))), some (.sh (lD f)), none, none, none, none] b := by
    have w1' : F_words_from [.str x, .lst (arrG rs), .int (grG rs 0), lD ((nums rs.length).map (grG rs))] b = .ok (.dct (f.map Sum.inl) (f.map fun k => .str (wd k))) b := w1
    unfold gu_5
    unfold machD at f1 ⊢
    unfold lD at w1' ⊢
    simp [f1, hg0, w1', -List.map_map]
    rw [List.map_map]
    rfl
  have h7 : lcD (gN 7) bYes (eTup (aCons (eIx (eV 2) (eV 7)) (aCons (eB tupleF (aCons (eLc (aAny (eIx (eV 4) (eV 7))) [9] (gN 9) bYes (eML lidxF (eV 5) (aCons (eV 9) aNil))) aNil)) aNil))) (f.map D.int) [some (.sh (machD M x rs)), some (.sh (.lst ((deadL rs).map D.int))), some (.sh (lD ((nums rs.length).map (mkG rs)))), some (.sh (lD ((nums rs.length).map (grG rs)))), some (.sh (.lst (arrG rs))), some (.sh (lD f)), none, none, none, none] b = .ok (f.map fun k => rowD (mkG rs k, (scG rs k).map fun j => ((f.idxOf j : Nat) : Int))) b := by
    refine lc_ints (fun k => rowD (mkG rs k, (scG rs k).map fun j => ((f.idxOf j : Nat) : Int))) f (fun k hk => ?_)
    obtain ⟨k0, k1⟩ := hlo k hk
    have a1 := at_map (n := rs.length) (fun k => D.int (mkG rs k)) k0 k1
    have a1 : atI (((nums rs.length).map (mkG rs)).map D.int) k = some (.int (mkG rs k)) := by rw [List.map_map]; exact a1
    have a2 : atI (arrG rs) k = some (lD (scG rs k)) := by
      obtain ⟨i, rfl⟩ : ∃ i : Nat, k = (i : Int) := ⟨k.toNat, by omega⟩
      refine atI_nat ?_
      unfold arrG scG scM rowAt
      rw [List.getElem?_map, Int.toNat_natCast, List.getElem?_eq_getElem (by omega)]
      rfl
    have hl3 : (scG rs k).length ≤ 100000 := by rw [hwl k k0 k1]; omega
    have h := lc_ints' (i := 9) (b := b) (F := (eML lidxF (eV 5) (aCons (eV 9) aNil))) (ρ := [some (.sh (machD M x rs)), some (.sh (.lst ((deadL rs).map D.int))), some (.sh (lD ((nums rs.length).map (mkG rs)))), some (.sh (lD ((nums rs.length).map (grG rs)))), some (.sh (.lst (arrG rs))), some (.sh (lD f)), none, some (.sh (.int k)), none, none]) (fun j => ((f.idxOf j : Nat) : Int)) (scG rs k) (fun j hj => by
      have := lidx_idx (hgo k hk j hj)
      unfold lD
      simp [seqOf, this])
    unfold lD at h a2 ⊢
    unfold rowD
    simp [a1, a2, hl3, tupleF, -List.map_map, -eML] at h ⊢
    simp [h, tupleF, -List.map_map, -eML]
  have r6 : gu_6 M [some (.sh (machD M x rs)), some (.sh (.lst ((deadL rs).map D.int))), some (.sh (lD ((nums rs.length).map (mkG rs)))), some (.sh (lD ((nums rs.length).map (grG rs)))), some (.sh (.lst (arrG rs))), some (.sh (lD f)), none, none, none, none] b = .nx [some (.sh (machD M x rs)), some (.sh (.lst ((deadL rs).map D.int))), some (.sh (lD ((nums rs.length).map (mkG rs)))), some (.sh (lD ((nums rs.length).map (grG rs)))), some (.sh (.lst (arrG rs))), some (.sh (lD f)), some (.sh (.lst ((rowsG rs f).map rowD))), none, none, none] b := by
    have e : (rowsG rs f).map rowD = f.map fun k => rowD (mkG rs k, (scG rs k).map fun j => ((f.idxOf j : Nat) : Int)) := by
      unfold rowsG
      rw [List.map_map]
      rfl
    have hf4 : f.length ≤ 100000 := by omega
    rw [e]
    have key : ∀ F : EF, lcD (gN 7) bYes F (f.map D.int) [some (.sh (machD M x rs)), some (.sh (.lst ((deadL rs).map D.int))), some (.sh (lD ((nums rs.length).map (mkG rs)))), some (.sh (lD ((nums rs.length).map (grG rs)))), some (.sh (.lst (arrG rs))), some (.sh (lD f)), none, none, none, none] b = .ok (f.map fun k => rowD (mkG rs k, (scG rs k).map fun j => ((f.idxOf j : Nat) : Int))) b →
        sAsg (eLc (aAny (eV 5)) [7] (gN 7) bYes F) (gN 6) [some (.sh (machD M x rs)), some (.sh (.lst ((deadL rs).map D.int))), some (.sh (lD ((nums rs.length).map (mkG rs)))), some (.sh (lD ((nums rs.length).map (grG rs)))), some (.sh (.lst (arrG rs))), some (.sh (lD f)), none, none, none, none] b = .nx [some (.sh (machD M x rs)), some (.sh (.lst ((deadL rs).map D.int))), some (.sh (lD ((nums rs.length).map (mkG rs)))), some (.sh (lD ((nums rs.length).map (grG rs)))), some (.sh (.lst (arrG rs))), some (.sh (lD f)), some (.sh (.lst (f.map fun k => rowD (mkG rs k, (scG rs k).map fun j => ((f.idxOf j : Nat) : Int))))), none, none, none] b := fun F hF => by
      unfold lD at hF ⊢
      simp [hf4, hF, -List.map_map]
    exact key _ h7
  have r7 : gu_7 M [some (.sh (machD M x rs)), some (.sh (.lst ((deadL rs).map D.int))), some (.sh (lD ((nums rs.length).map (mkG rs)))), some (.sh (lD ((nums rs.length).map (grG rs)))), some (.sh (.lst (arrG rs))), some (.sh (lD f)), some (.sh (.lst ((rowsG rs f).map rowD))), none, none, none] b = .rt (machD M x (rowsG rs f)) b := by
    have hm := make_ok M b hx hR
    have f1' := f1
    unfold rowsD at hm
    unfold gu_7
    unfold machD at f1' ⊢
    unfold rowsD at f1' ⊢
    simp [f1', tupleF, eMake, hm]
  have e : F_guard M = runD 10 1 (gu M) := rfl
  have hst : startE 10 [machD M x rs] = [some (.sh (machD M x rs)), none, none, none, none, none, none, none, none, none] := rfl
  have all : gu M [some (.sh (machD M x rs)), none, none, none, none, none, none, none, none, none] b = .rt (machD M x (rowsG rs f)) b := by
    unfold gu
    refine (seq_step r0).trans ?_
    refine (seq_step r1).trans ?_
    refine (seq_step r2).trans ?_
    refine (seq_step r3).trans ?_
    refine (seq_step r4).trans ?_
    refine (seq_step r5).trans ?_
    refine (seq_step r6).trans ?_
    exact r7
  refine ⟨f, O, ?_, hR⟩
  rw [e]
  simp only [runD, List.length_cons, List.length_nil, if_true, hst, all]
  rfl
end
end DL

set_option maxHeartbeats 1000000

set_option maxHeartbeats 1000000
namespace DL
open PySem PySem.Spec PyProof.Rows L2
theorem enum_numsB (ds : List D) : enumOf ds = (nums ds.length).map fun i => .tup [.int i, (ds[i.toNat]?).getD .non] := by
  apply List.ext_getElem?
  intro i
  unfold enumOf nums
  rw [List.getElem?_zipWith, List.map_map, List.getElem?_map]
  by_cases hi : i < ds.length
  · rw [List.getElem?_eq_getElem hi, List.getElem?_range hi]
    simp [hi]
  · have h1 : ds[i]? = none := List.getElem?_eq_none (by omega)
    have h2 : (List.range ds.length)[i]? = none := List.getElem?_eq_none (by rw [List.length_range]; omega)
    rw [h1, h2]
    rfl
/-- the rows with other colours -/
def rowsC (rs : List Row) (col : Int → Int) : List Row := (nums rs.length).map fun k => (col k, scM rs k)
theorem rowsC_len (rs : List Row) (col : Int → Int) : (rowsC rs col).length = rs.length := by unfold rowsC; rw [List.length_map, len_nums]
theorem rowsC_ok {n : Nat} {rs : List Row} (hr : RowsOk n rs) {col : Int → Int} (hc : ∀ k : Int, 0 ≤ k → k < rs.length → 0 ≤ col k ∧ col k ≤ 6) : RowsOk n (rowsC rs col) := by
  have hl := rowsC_len rs col
  refine ⟨by rw [hl]; exact hr.n0, by rw [hl]; exact hr.n1, fun r hr' => ?_⟩
  rw [hl]
  unfold rowsC at hr'
  obtain ⟨k, hk, rfl⟩ := List.mem_map.mp hr'
  obtain ⟨k0, k1⟩ := mem_nums.mp hk
  have ok := (rowAt_ok hr k0 k1).2
  exact ⟨(hc k k0 k1).1, (hc k k0 k1).2, ok.len, ok.go⟩
section
variable (M : Addr) {x : Str} {rs : List Row} (hx : x ∈ sgs) (hr : RowsOk x.length rs)
include hx hr
theorem with_ok {col : Int → Int} (hc : ∀ k : Int, 0 ≤ k → k < rs.length → 0 ≤ col k ∧ col k ≤ 6) (b : Bag) : F_with_colours M [machD M x rs, lD ((nums rs.length).map col)] b = .ok (machD M x (rowsC rs col)) b := by
  have n1 := hr.n1
  have f1 := fld_l M x rs
  have f2 := fld_s M x rs
  have hm := make_ok M b hx (rowsC_ok hr hc)
  have he := enum_numsB (rs.map rowD)
  rw [List.length_map] at he
  have h := lc_filtB (g := gT 2 (gsC (gN 2) (gsC (gN 3) gsN))) (T := bYes) (F := (eTup (aCons (eIx (eV 1) (eV 2)) (aCons (eIx (eV 3) (eC (.int 1))) aNil)))) (k := fun i : Int => D.tup [.int i, ((rs.map rowD)[i.toNat]?).getD .non]) (f := fun k => rowD (col k, scM rs k)) (t := fun _ => true) (nums rs.length) [some (.sh (machD M x rs)), some (.sh (lD ((nums rs.length).map col))), none, none] b (fun k hk => by
    obtain ⟨k0, k1⟩ := mem_nums.mp hk
    have a1 := at_map (n := rs.length) (fun k => D.int (col k)) k0 k1
    have a1 : atI (((nums rs.length).map col).map D.int) k = some (.int (col k)) := by rw [List.map_map]; exact a1
    have e2 : ((rs.map rowD)[k.toNat]?).getD .non = rowD (rowAt rs k) := by
      unfold rowAt
      rw [List.getElem?_map, List.getElem?_eq_getElem (show k.toNat < rs.length by omega)]
      rfl
    rw [e2]
    refine ⟨[some (.sh (machD M x rs)), some (.sh (lD ((nums rs.length).map col))), some (.sh (.int k)), some (.sh (rowD (rowAt rs k)))], rfl, rfl, ?_⟩
    unfold lD rowD scM
    simp [a1, -List.map_map])
  rw [List.filter_eq_self.mpr fun _ _ => rfl] at h
  have e3 : rowsD (rowsC rs col) = .tup ((nums rs.length).map fun k => rowD (col k, scM rs k)) := by
    unfold rowsD rowsC
    rw [List.map_map]
    rfl
  have hn := len_nums rs.length
  have hn4 : rs.length ≤ 100000 := by omega
  rw [e3] at hm
  have f1' := f1
  have f2' := f2
  unfold F_with_colours G_with_colours
  unfold machD at f1' f2' h ⊢
  rw [e3]
  unfold rowsD at f1' f2' h ⊢
  unfold lD at h ⊢
  simp [f1', f2', aEnumT, he, hn, hn4, h, tupleF, eMake, hm, -List.map_map, -List.getElem?_map]
noncomputable def colH (rs : List Row) (k : Int) : Int := if k ∈ deadL rs then 0 else colour rs k
theorem colH_in (k : Int) (k0 : 0 ≤ k) (k1 : k < rs.length) : 0 ≤ colH rs k ∧ colH rs k ≤ 6 := by
  obtain ⟨_, _, _, c3, c4⟩ := colour_ok hr k0 k1
  unfold colH
  split
  · exact ⟨by decide, by decide⟩
  · exact ⟨c3, c4⟩
theorem hope_ok' (b : Bag) : F_hope M [machD M x rs] b = .ok (machD M x (rowsC rs (colH rs))) b := by
  obtain ⟨l1, l2⟩ := sg_len hx
  have n1 := hr.n1
  have h0 := check_ok M x rs b
  have h1 := dead_ok M hr (by omega) b
  have h2 := colours_ok M hr b
  have h3 := with_ok M hx hr (colH_in hx hr) b
  have he := enum_numsB ((colM rs).map D.int)
  have hcl : (colM rs).length = rs.length := by unfold colM; rw [List.length_map]
  rw [List.length_map, hcl] at he
  have h := lc_filtB (g := gT 2 (gsC (gN 2) (gsC (gN 3) gsN))) (T := bYes) (F := (eIf (bB (e2 inQ (eV 2) (eV 1))) (eC (.int 0)) (eV 3))) (k := fun i : Int => D.tup [.int i, (((colM rs).map D.int)[i.toNat]?).getD .non]) (f := fun k => D.int (colH rs k)) (t := fun _ => true) (nums rs.length) [some (.sh (machD M x rs)), some (.sh (.lst ((deadL rs).map D.int))), none, none] b (fun k hk => by
    obtain ⟨k0, k1⟩ := mem_nums.mp hk
    have e2 : (((colM rs).map D.int)[k.toNat]?).getD .non = .int (colour rs k) := by
      unfold colM colour
      rw [List.getElem?_map, List.getElem?_map, List.getElem?_eq_getElem (show k.toNat < rs.length by omega)]
      rfl
    rw [e2]
    refine ⟨[some (.sh (machD M x rs)), some (.sh (.lst ((deadL rs).map D.int))), some (.sh (.int k)), some (.sh (.int (colour rs k)))], rfl, rfl, ?_⟩
    have hq := inQ_lst k (deadL rs)
    unfold colH
    by_cases hd : k ∈ deadL rs
    · rw [decide_eq_true hd] at hq
      simp [-inQ, -inQ_lst, hq, hd]
    · rw [decide_eq_false hd] at hq
      simp [-inQ, -inQ_lst, hq, hd])
  rw [List.filter_eq_self.mpr fun _ _ => rfl] at h
  have e3 : lD ((nums rs.length).map (colH rs)) = .lst ((nums rs.length).map fun k => D.int (colH rs k)) := by
    unfold lD
    rw [List.map_map]
    rfl
  rw [e3] at h3
  have hn := len_nums rs.length
  have hn4 : rs.length ≤ 100000 := by omega
  unfold F_hope G_hope
  unfold machD at h0 h1 h2 h3 h ⊢
  simp [h0, h1, aEnumL, h2, he, hn, hn4, -List.map_map, -eIf] at h ⊢
  simp [h, h3, -List.map_map, -eIf]
end
end DL

set_option maxHeartbeats 1000000
namespace DL
open PySem PySem.Spec PyProof.Rows L2
theorem gls_apart {n : Nat} {sc : Int → List Int} {ns : List Int} (N : Ns n ns) {β : Int → Nat} (hβ : ∀ k ∈ ns, ∀ j ∈ ns, ((β k).testBit j.toNat = true ↔ Pth sc (· ∈ ns) k j)) : ∀ l ∈ (hds ns β).map (cls ns β), ∀ l' ∈ (hds ns β).map (cls ns β), ∀ x, x ∈ l → x ∈ l' → l = l' := by
  have hb : ∀ a ∈ ns, ∀ k ∈ ns, (bth β a k = true ↔ Pth sc (· ∈ ns) a k ∧ Pth sc (· ∈ ns) k a) := fun a ha k hk => by
    unfold bth
    rw [Bool.and_eq_true, hβ a ha k hk, hβ k hk a ha]
  have hm : ∀ a ∈ ns, ∀ k, (k ∈ cls ns β a ↔ k ∈ ns ∧ Pth sc (· ∈ ns) a k ∧ Pth sc (· ∈ ns) k a) := fun a ha k => by
    unfold cls
    rw [List.mem_filter]
    exact ⟨fun h => ⟨h.1, (hb a ha k h.1).mp h.2⟩, fun h => ⟨h.1, (hb a ha k h.1).mpr h.2⟩⟩
  have hsame : ∀ a ∈ ns, ∀ c ∈ cls ns β a, cls ns β c = cls ns β a := fun a ha c hc => by
    obtain ⟨c1, c2, c3⟩ := (hm a ha c).mp hc
    unfold cls
    apply List.filter_congr
    intro k hk
    rw [Bool.eq_iff_iff, hb c c1 k hk, hb a ha k hk]
    exact ⟨fun h => ⟨c2.trans h.1, h.2.trans c3⟩, fun h => ⟨c3.trans h.1, h.2.trans c2⟩⟩
  intro l hl l' hl' x hx hx'
  obtain ⟨a, ha, rfl⟩ := List.mem_map.mp hl
  obtain ⟨a', ha', rfl⟩ := List.mem_map.mp hl'
  rw [← hsame a (List.mem_filter.mp ha).1 x hx, hsame a' (List.mem_filter.mp ha').1 x hx']
section
variable {A : List D} {n : Nat} {sc : Int → List Int} (G : Gr A n sc) {ns : List Int} (N : Ns n ns)
include G N
theorem gls_okX (b : Bag) : ∃ Ls, F_greatest_loops [.lst A, .lst (ns.map D.int)] b = .ok (.lst (Ls.map lD)) b ∧ GLs sc ns Ls ∧ ∀ l ∈ Ls, ∀ l' ∈ Ls, ∀ x, x ∈ l → x ∈ l' → l = l' := by
  obtain ⟨β, h1, h2⟩ := bits_ok G N b
  have hl : ns.length ≤ 1000 := by have := N.len; have := G.n1000; omega
  obtain ⟨ρ', b', f1, ⟨o4, o5, f2⟩, f3⟩ := loop_ind (g := gN 4) (B := bGL)
    (fun i ρ b' => (∃ (o4 o5 : Option D), ρ = [some (.sh (.lst A)), some (.sh (.lst (ns.map D.int))), some (.sh (dcN ns β)), some (.ow (.lst ((((ns.take i).filter fun a => decide ((cls ns β a).head? = some a)).map (cls ns β)).map lD))), o4.map SD.sh, o5.map SD.sh, none]) ∧ b' = b)
    (ns.map D.int) 0 (fun i d hd ρ b' ⟨⟨o4, o5, g1⟩, g2⟩ => by
      subst g1 g2
      rw [List.getElem?_map, Option.map_eq_some_iff] at hd
      obtain ⟨a, ha, rfl⟩ := hd
      rw [Nat.zero_add]
      have ham := List.mem_of_getElem? ha
      have et : ns.take (i + 1) = ns.take i ++ [a] := by rw [List.take_add_one, ha]; rfl
      have hs := gl_step G N β ham (((ns.take i).filter fun a => decide ((cls ns β a).head? = some a)).map (cls ns β)) (by
        rw [List.length_map]
        have := List.length_filter_le (fun a => decide ((cls ns β a).head? = some a)) (ns.take i)
        rw [List.length_take] at this
        omega) o5 b'
      refine ⟨_, _, b', rfl, hs, ⟨some (.int a), some (lD (cls ns β a)), ?_⟩, rfl⟩
      rw [et, List.filter_append, List.map_append]
      by_cases hh : (cls ns β a).head? = some a
      · simp [hh]
      · simp [hh]) [some (.sh (.lst A)), some (.sh (.lst (ns.map D.int))), some (.sh (dcN ns β)), some (.ow (.lst [])), none, none, none] b ⟨⟨none, none, by simp⟩, rfl⟩
  subst f2 f3
  refine ⟨(hds ns β).map (cls ns β), ?_, gls_of N h2, gls_apart N h2⟩
  unfold F_greatest_loops G_greatest_loops
  rw [Nat.zero_add, List.length_map, List.take_length] at f1
  unfold bGL at f1
  simp [h1]
  simp [sFor] at f1 ⊢
  simp [f1, hds]
end
structure LeastOk (sc : Int → List Int) (col : Int → Int) (ns : List Int) (f : Int → Int) : Prop where
  bd : ∀ k ∈ ns, 0 ≤ f k ∧ f k ≤ ns.length
  ev : ∀ S : Int → Prop, (∃ a, S a) → SC sc S → (∀ a, S a → a ∈ ns) → ∀ T T', TopIs col S T → TopIs f S T' → T' % 2 = T % 2
  mn : ∀ c : Int → Int, (∀ S : Int → Prop, (∃ a, S a) → SC sc S → (∀ a, S a → a ∈ ns) → ∀ T T', TopIs col S T → TopIs c S T' → 0 ≤ T' ∧ T' % 2 = T % 2) → ∀ B, 0 ≤ B → (∀ k ∈ ns, c k ≤ B) → ∀ k ∈ ns, f k ≤ B
theorem TopIs.fcongr {f g : Int → Int} {S : Int → Prop} {T : Int} (h : TopIs f S T) (e : ∀ a, S a → f a = g a) : TopIs g S T := by
  obtain ⟨⟨a, a1, a2⟩, b⟩ := h
  exact ⟨⟨a, a1, by rw [← e a a1]; exact a2⟩, fun x hx => by rw [← e x hx]; exact b x hx⟩
theorem LeastOk.congr {sc : Int → List Int} {col : Int → Int} {ns : List Int} {f g : Int → Int} (h : LeastOk sc col ns f) (e : ∀ k ∈ ns, f k = g k) : LeastOk sc col ns g :=
  ⟨fun k hk => by rw [← e k hk]; exact h.bd k hk, fun S h0 hS hsub T T' t t' => h.ev S h0 hS hsub T T' t (t'.fcongr fun a ha => (e a (hsub a ha)).symm), fun c hc B h0 hB k hk => by rw [← e k hk]; exact h.mn c hc B h0 hB k hk⟩
/-- the step: a loop, what is below its greatest colour, and the least colour from there on -/
theorem least_loop {sc : Int → List Int} {col : Int → Int} {l : List Int} (h0 : l ≠ []) (hs : SC sc (· ∈ l)) {g : Int → Int} (hg : LeastOk sc col (l.filter fun k => decide (col k < top0 (l.map col))) g) :
    LeastOk sc col l (fun k => if k ∈ l.filter (fun k => decide (col k < top0 (l.map col))) then g k else top0 (0 :: (l.filter fun k => decide (col k < top0 (l.map col))).map g) + (top0 (0 :: (l.filter fun k => decide (col k < top0 (l.map col))).map g) + top0 (l.map col)) % 2) := by
  have ht := top_is (col := col) h0
  have hmin : ∀ c : Int → Int, (∀ S : Int → Prop, (∃ a, S a) → SC sc S → (∀ a, S a → a ∈ l) → ∀ T T', TopIs col S T → TopIs c S T' → 0 ≤ T' ∧ T' % 2 = T % 2) → ∀ B, 0 ≤ B → (∀ k ∈ l, c k ≤ B) → ∀ k ∈ l, (if k ∈ l.filter (fun k => decide (col k < top0 (l.map col))) then g k else top0 (0 :: (l.filter fun k => decide (col k < top0 (l.map col))).map g) + (top0 (0 :: (l.filter fun k => decide (col k < top0 (l.map col))).map g) + top0 (l.map col)) % 2) ≤ B := fun c hc B hB0 hB k hk => by
    obtain ⟨a0, ha0⟩ := List.exists_mem_of_ne_nil l h0
    have tc := top_is (col := c) h0
    obtain ⟨c0, c1⟩ := hc (· ∈ l) ⟨a0, ha0⟩ hs (fun _ h => h) _ _ ht tc
    have hCB : top0 (l.map c) ≤ B := by
      obtain ⟨⟨y, y1, y2⟩, _⟩ := tc
      rw [← y2]
      exact hB y y1
    have hsubf : ∀ j, j ∈ l.filter (fun k => decide (col k < top0 (l.map col))) → j ∈ l := fun j hj => (List.mem_filter.mp hj).1
    have hgC := hg.mn c (fun S s0 sS ssub => hc S s0 sS fun a ha => hsubf a (ssub a ha)) (top0 (l.map c)) c0 (fun j hj => tc.2 j (hsubf j hj))
    have hm : top0 (0 :: (l.filter fun k => decide (col k < top0 (l.map col))).map g) ≤ top0 (l.map c) := by
      have := top0_mem (is := 0 :: (l.filter fun k => decide (col k < top0 (l.map col))).map g) (by simp)
      rcases List.mem_cons.mp this with h | h
      · rw [h]; exact c0
      · obtain ⟨j, hj, e⟩ := List.mem_map.mp h
        rw [← e]
        exact hgC j hj
    generalize top0 (0 :: (l.filter fun k => decide (col k < top0 (l.map col))).map g) = m at hm ⊢
    split
    · rename_i hk'
      have := hgC k hk'
      omega
    · omega
  generalize top0 (l.map col) = T at *
  have hmost0 : 0 ≤ top0 (0 :: (l.filter fun k => decide (col k < T)).map g) := top0_ge _ (by simp)
  have hmostg : ∀ k ∈ l.filter (fun k => decide (col k < T)), g k ≤ top0 (0 :: (l.filter fun k => decide (col k < T)).map g) := fun k hk => top0_ge _ (List.mem_cons_of_mem _ (List.mem_map.mpr ⟨k, hk, rfl⟩))
  have hmostm : top0 (0 :: (l.filter fun k => decide (col k < T)).map g) ≤ (l.filter fun k => decide (col k < T)).length := by
    have := top0_mem (is := 0 :: (l.filter fun k => decide (col k < T)).map g) (by simp)
    rcases List.mem_cons.mp this with h | h
    · rw [h]; omega
    · obtain ⟨k, hk, e⟩ := List.mem_map.mp h
      rw [← e]
      exact (hg.bd k hk).2
  have hlen : (l.filter fun k => decide (col k < T)).length < l.length := by
    obtain ⟨⟨a, a1, a2⟩, _⟩ := ht
    exact filter_lt ⟨a, a1, by simp [a2]⟩
  generalize top0 (0 :: (l.filter fun k => decide (col k < T)).map g) = m at *
  have hmem : ∀ k, k ∈ l.filter (fun k => decide (col k < T)) ↔ k ∈ l ∧ col k < T := fun k => by simp
  refine ⟨fun k hk => ?_, fun S ⟨a0, ha0⟩ hS hsub Tc Tf t t' => ?_, hmin⟩
  · split
    · rename_i h
      have := hg.bd k h
      omega
    · omega
  · by_cases hall : ∀ a, S a → col a < T
    · refine hg.ev S ⟨a0, ha0⟩ hS (fun a ha => (hmem a).mpr ⟨hsub a ha, hall a ha⟩) Tc Tf t (t'.fcongr fun a ha => ?_)
      rw [if_pos ((hmem a).mpr ⟨hsub a ha, hall a ha⟩)]
    · obtain ⟨c, hc, hcT⟩ : ∃ c, S c ∧ ¬ col c < T := by
        refine Classical.byContradiction fun h => hall fun a ha => ?_
        exact Decidable.byContradiction fun h2 => h ⟨a, ha, h2⟩
      have hcle := ht.2 c (hsub c hc)
      have eTc : Tc = T := by
        obtain ⟨⟨y, y1, y2⟩, y3⟩ := t
        have h1 := y3 c hc
        have h2 := ht.2 y (hsub y y1)
        omega
      have hcf : ¬ c ∈ l.filter (fun k => decide (col k < T)) := fun h => hcT ((hmem c).mp h).2
      have eTf : Tf = m + (m + T) % 2 := by
        obtain ⟨⟨y, y1, y2⟩, y3⟩ := t'
        have h1 := y3 c hc
        dsimp only at h1 y2
        rw [if_neg hcf] at h1
        by_cases hy : y ∈ l.filter (fun k => decide (col k < T))
        · rw [if_pos hy] at y2
          have := hmostg y hy
          omega
        · rw [if_neg hy] at y2
          omega
      omega
end DL

set_option maxHeartbeats 1000000
namespace DL
open PySem PySem.Spec PyProof.Rows L2
abbrev dcI (ns : List Int) (f : Int → Int) : D := .dct (ns.map Sum.inl) (ns.map fun k => .int (f k))
theorem dcI_congr {ns : List Int} {f g : Int → Int} (h : ∀ k ∈ ns, f k = g k) : dcI ns f = dcI ns g := by
  unfold dcI
  congr 1
  exact List.map_congr_left fun k hk => by rw [h k hk]
theorem lookI {f : Int → Int} {k : Int} : ∀ (ns : List Int), lookK (ns.map Sum.inl) (ns.map fun k => D.int (f k)) (Sum.inl k : Key) = if k ∈ ns then some (.int (f k)) else none
  | [] => rfl
  | a :: ns => by
    rw [List.map_cons, List.map_cons, lookK, lookI ns]
    by_cases h : a = k
    · subst h
      simp
    · have h1 : ¬ (Sum.inl a : Key) = Sum.inl k := fun e => h (Sum.inl.inj e)
      have h2 : ¬ k = a := fun e => h e.symm
      rw [if_neg h1]
      simp [h2]
theorem putI {ns : List Int} {f : Int → Int} {k : Int} (hk : k ∈ ns) (v : Int) : putD (ns.map Sum.inl) (ns.map fun k => D.int (f k)) (Sum.inl k : Key) (.int v) = dcI ns fun j => if j = k then v else f j := by
  rw [put_old (g := fun k => D.int (f k)) hk]
  unfold dcI
  congr 1
  apply List.map_congr_left
  intro j _
  by_cases h : j = k <;> simp [h]
theorem zeroC {ρ : Env} {b : Bag} (hρ : 3 < ρ.length) : ∀ (rest done : List Int), (done ++ rest).Nodup → dcD (gN 3) bYes (eV 3) (eC (.int 0)) (rest.map D.int) ρ (dcI done fun _ => 0) b = .ok (dcI (done ++ rest) fun _ => 0) b
  | [], done, _ => by simp [dcD]
  | k :: rest, done, nd => by
    have hk : k ∉ done := by
      rw [List.nodup_append] at nd
      exact fun h => nd.2.2 k h k List.mem_cons_self rfl
    have ih := zeroC (b := b) hρ rest (done ++ [k]) (by rw [List.append_assoc]; exact nd)
    have e3 : (ρ.set 3 (some (.sh (.int k))))[3]? = some (some (.sh (.int k))) := List.getElem?_set_self hρ
    have hp := put_new (g := fun _ => D.int 0) (e := .int 0) hk
    have hq : putD (done.map Sum.inl) (done.map fun _ => D.int 0) (Sum.inl k : Key) (.int 0) = dcI (done ++ [k]) fun _ => 0 := by
      rw [hp]
      unfold dcI
      rw [List.map_append, List.map_append]
      rfl
    rw [List.append_assoc] at ih
    rw [List.map_cons]
    unfold dcD
    simp only [gN, bYes, noex_ok_, bind_ok_, if_true, eV, e3, pureO_some_, eC, keyD]
    unfold dcI at hq ih ⊢
    dsimp only
    rw [hq]
    exact ih
def bLs1 : SF := (sDput 4 (eV 3) (eGet (eV 7) (eV 3) (eV 9)))
def bLs (F : DFn) : SF := (sSeq (sAsg (eB maxLF (aCons (eLc (aAny (eV 5)) [3] (gN 3) bYes (eIx (eV 1) (eV 3))) aNil)) (gN 6)) (sSeq (sAsg (eCall F (aCons (eV 0) (aCons (eV 1) (aCons (eLc (aAny (eV 5)) [3] (gN 3) (bB (e2 ltF (eIx (eV 1) (eV 3)) (eV 6))) (eV 3)) aNil)))) (gN 7)) (sSeq (sAsg (eB maxLF (aCons (eLst (aCons (eC (.int 0)) (aStar (eVals (eV 7)) aNil))) aNil)) (gN 8)) (sSeq (sAsg (e2 addF (eV 8) (e2 modF (e2 addF (eV 8) (eV 6)) (eC (.int 2)))) (gN 9)) (sFor (aAny (eV 5)) (gN 3) bLs1)))))
theorem ls1_loop (d0 d1 d2 d5 d6 d8 : D) {ns bs : List Int} {g : Int → Int} (lt : Int) (hn : ns.length ≤ 1000) (b : Bag) : ∀ (l : List Int) (f : Int → Int) (o3 : Option D), (∀ k ∈ l, k ∈ ns) → ∃ (o3' : Option D), loopD (gN 3) bLs1 (l.map D.int) [some (.sh d0), some (.sh d1), some (.sh d2), o3.map SD.sh, some (.ow (dcI ns f)), some (.sh d5), some (.sh d6), some (.sh (dcI bs g)), some (.sh d8), some (.sh (.int lt))] b =
      .nx [some (.sh d0), some (.sh d1), some (.sh d2), o3'.map SD.sh, some (.ow (dcI ns fun k => if k ∈ l then (if k ∈ bs then g k else lt) else f k)), some (.sh d5), some (.sh d6), some (.sh (dcI bs g)), some (.sh d8), some (.sh (.int lt))] b
  | [], f, o3, _ => ⟨o3, by simp [loopD]⟩
  | k :: l, f, o3, hl => by
    have hk := hl k List.mem_cons_self
    obtain ⟨o3', ih⟩ := ls1_loop d0 d1 d2 d5 d6 d8 lt hn b l (fun j => if j = k then (if k ∈ bs then g k else lt) else f j) (some (.int k)) (fun j hj => hl j (List.mem_cons_of_mem _ hj))
    refine ⟨o3', ?_⟩
    have gg : gN 3 (.int k) [some (.sh d0), some (.sh d1), some (.sh d2), o3.map SD.sh, some (.ow (dcI ns f)), some (.sh d5), some (.sh d6), some (.sh (dcI bs g)), some (.sh d8), some (.sh (.int lt))] b = some ([some (.sh d0), some (.sh d1), some (.sh d2), some (.sh (.int k)), some (.ow (dcI ns f)), some (.sh d5), some (.sh d6), some (.sh (dcI bs g)), some (.sh d8), some (.sh (.int lt))], b) := rfl
    have hlk := lookI (f := g) (k := k) bs
    have hp := putI (f := f) hk (if k ∈ bs then g k else lt)
    have hnl : ns.length ≤ 100000 := by omega
    have hb : bLs1 [some (.sh d0), some (.sh d1), some (.sh d2), some (.sh (.int k)), some (.ow (dcI ns f)), some (.sh d5), some (.sh d6), some (.sh (dcI bs g)), some (.sh d8), some (.sh (.int lt))] b = .nx [some (.sh d0), some (.sh d1), some (.sh d2), some (.sh (.int k)), some (.ow (dcI ns fun j => if j = k then (if k ∈ bs then g k else lt) else f j)), some (.sh d5), some (.sh d6), some (.sh (dcI bs g)), some (.sh d8), some (.sh (.int lt))] b := by
      rw [← hp]
      unfold bLs1 dcI
      by_cases h : k ∈ bs
      · rw [if_pos h] at hlk
        simp [hlk, hnl, h]
      · rw [if_neg h] at hlk
        simp [hlk, hnl, h]
    rw [List.map_cons]
    unfold loopD
    rw [gg]
    dsimp only
    rw [hb]
    dsimp only
    rw [show (some (SD.sh (D.int k)) : Option SD) = (some (D.int k)).map SD.sh from rfl, ih]
    congr 1
    have : (dcI ns fun j => if j ∈ l then (if j ∈ bs then g j else lt) else if j = k then (if k ∈ bs then g k else lt) else f j) = dcI ns fun j => if j ∈ k :: l then (if j ∈ bs then g j else lt) else f j := by
      refine dcI_congr fun j _ => ?_
      by_cases h1 : j ∈ l
      · simp [h1]
      · by_cases h2 : j = k
        · subst h2; simp [h1]
        · simp [h1, h2]
    rw [this]
end DL

set_option maxHeartbeats 1000000
namespace DL
open PySem PySem.Spec PyProof.Rows L2
abbrev lsS (A : List D) (cs ns : List Int) (f : Int → Int) (o3 o5 o6 o7 o8 o9 : Option D) : Env := [some (.sh (.lst A)), some (.sh (.lst (cs.map D.int))), some (.sh (lD ns)), o3.map SD.sh, some (.ow (dcI ns f)), o5.map SD.sh, o6.map SD.sh, o7.map SD.sh, o8.map SD.sh, o9.map SD.sh]
section
variable {A : List D} {n : Nat} {sc : Int → List Int} (G : Gr A n sc) {cs : List Int} (hcs : cs.length = n) {F' : DFn} {ns : List Int} (N : Ns n ns) (b : Bag)
  (hrec : ∀ ns', Ns n ns' → ns'.length < ns.length → ∃ g, F' [.lst A, .lst (cs.map D.int), lD ns'] b = .ok (dcI ns' g) b ∧ LeastOk sc (colL cs) ns' g)
include G hcs N hrec
theorem ls_turn {l : List Int} (h0 : l ≠ []) (hsub : ∀ k ∈ l, k ∈ ns) (nd : l.Nodup) (hS : SC sc (· ∈ l)) (f : Int → Int) (o3 o6 o7 o8 o9 : Option D) : ∃ (f' : Int → Int) (o3' o6' o7' o8' o9' : Option D), bLs F' (lsS A cs ns f o3 (some (lD l)) o6 o7 o8 o9) b = .nx (lsS A cs ns f' o3' (some (lD l)) o6' o7' o8' o9') b ∧ LeastOk sc (colL cs) l f' ∧ ∀ k, k ∉ l → f' k = f k := by
  have hn1 := G.n1000
  have hnl := N.len
  have hll : l.length ≤ ns.length := nd_sub nd hsub
  have hlo : ∀ k ∈ l, 0 ≤ k ∧ k < cs.length := fun k hk => by rw [hcs]; exact N.lo k (hsub k hk)
  have hlc : l.length ≤ 100000 := by omega
  have hlen : (l.filter fun k => decide (colL cs k < top0 (l.map (colL cs)))).length < l.length := by
    obtain ⟨⟨a, a1, a2⟩, _⟩ := top_is (col := colL cs) h0
    exact filter_lt ⟨a, a1, by simp [a2]⟩
  have N' : Ns n (l.filter fun k => decide (colL cs k < top0 (l.map (colL cs)))) := ⟨nd.filter _, fun k hk => N.lo k (hsub k (List.mem_filter.mp hk).1)⟩
  obtain ⟨g, e1, hg⟩ := hrec _ N' (by omega)
  have hfin := least_loop h0 hS hg
  have l1 := fun (o3 o6 : Option D) => lc_ints' (i := 3) (b := b) (ρ := lsS A cs ns f o3 (some (lD l)) o6 o7 o8 o9 |>.set 4 none) (F := (eIx (eV 1) (eV 3))) (colL cs) l (fun k hk => by
    obtain ⟨k0, k1⟩ := hlo k hk
    have := colL_at (cs := cs) k0 k1
    unfold lsS
    simp [this])
  have hm := maxLF_ok (is := l.map (colL cs)) (by simpa using h0)
  have l2 := lc_filt (i := 3) (b := b) (ρ := lsS A cs ns f none (some (lD l)) (some (.int (top0 (l.map (colL cs))))) o7 o8 o9 |>.set 4 none) (T := (bB (e2 ltF (eIx (eV 1) (eV 3)) (eV 6)))) (F := (eV 3)) (fun k => decide (colL cs k < top0 (l.map (colL cs)))) D.int l (fun k hk => by
    obtain ⟨k0, k1⟩ := hlo k hk
    have := colL_at (cs := cs) k0 k1
    unfold lsS
    simp [this]) (fun k hk _ => by unfold lsS; simp)
  generalize hns' : l.filter (fun k => decide (colL cs k < top0 (l.map (colL cs)))) = ns' at *
  have hm2 := maxLF_ok (is := 0 :: ns'.map g) (by simp)
  generalize hT : top0 (l.map (colL cs)) = T at *
  generalize hM : top0 (0 :: ns'.map g) = m at *
  obtain ⟨o3', e4⟩ := ls1_loop (.lst A) (.lst (cs.map D.int)) (lD ns) (lD l) (.int T) (.int m) (ns := ns) (bs := ns') (g := g) (m + (m + T) % 2) (by omega) b l f o3 hsub
  refine ⟨fun k => if k ∈ l then (if k ∈ ns' then g k else m + (m + T) % 2) else f k, o3', some (.int T), some (dcI ns' g), some (.int m), some (.int (m + (m + T) % 2)), ?_, hfin.congr fun k hk => (by show _ = if k ∈ l then _ else _; rw [if_pos hk]), fun k hk => if_neg hk⟩
  have r0 : sAsg (eB maxLF (aCons (eLc (aAny (eV 5)) [3] (gN 3) bYes (eIx (eV 1) (eV 3))) aNil)) (gN 6) (lsS A cs ns f o3 (some (lD l)) o6 o7 o8 o9) b = .nx (lsS A cs ns f o3 (some (lD l)) (some (.int T)) o7 o8 o9) b := by
    have l1 := l1 none o6
    unfold lsS lD at *
    rw [List.map_map] at l1 hm
    simp [hlc] at l1 ⊢
    simp [l1, hm]
  have r1 : sAsg (eCall F' (aCons (eV 0) (aCons (eV 1) (aCons (eLc (aAny (eV 5)) [3] (gN 3) (bB (e2 ltF (eIx (eV 1) (eV 3)) (eV 6))) (eV 3)) aNil)))) (gN 7) (lsS A cs ns f o3 (some (lD l)) (some (.int T)) o7 o8 o9) b = .nx (lsS A cs ns f o3 (some (lD l)) (some (.int T)) (some (dcI ns' g)) o8 o9) b := by
    unfold lsS lD at *
    simp [hlc] at l2 ⊢
    simp [l2, hlc, e1]
  have r2 : sAsg (eB maxLF (aCons (eLst (aCons (eC (.int 0)) (aStar (eVals (eV 7)) aNil))) aNil)) (gN 8) (lsS A cs ns f o3 (some (lD l)) (some (.int T)) (some (dcI ns' g)) o8 o9) b = .nx (lsS A cs ns f o3 (some (lD l)) (some (.int T)) (some (dcI ns' g)) (some (.int m)) o9) b := by
    unfold lsS lD dcI
    rw [List.map_cons, List.map_map] at hm2
    have hm3 : maxLF [D.lst (D.int 0 :: ns'.map fun k => D.int (g k))] = some (.int m) := hm2
    have hnl' : ns'.length ≤ 99999 := by omega
    simp [aStar, anySeq, eVals, hm3, hnl']
  have r3 : sAsg (e2 addF (eV 8) (e2 modF (e2 addF (eV 8) (eV 6)) (eC (.int 2)))) (gN 9) (lsS A cs ns f o3 (some (lD l)) (some (.int T)) (some (dcI ns' g)) (some (.int m)) o9) b = .nx (lsS A cs ns f o3 (some (lD l)) (some (.int T)) (some (dcI ns' g)) (some (.int m)) (some (.int (m + (m + T) % 2)))) b := by
    unfold lsS
    simp
  have r4 : sFor (aAny (eV 5)) (gN 3) bLs1 (lsS A cs ns f o3 (some (lD l)) (some (.int T)) (some (dcI ns' g)) (some (.int m)) (some (.int (m + (m + T) % 2)))) b = .nx (lsS A cs ns (fun k => if k ∈ l then (if k ∈ ns' then g k else m + (m + T) % 2) else f k) o3' (some (lD l)) (some (.int T)) (some (dcI ns' g)) (some (.int m)) (some (.int (m + (m + T) % 2)))) b := by
    have ha : aAny (eV 5) (lsS A cs ns f o3 (some (lD l)) (some (.int T)) (some (dcI ns' g)) (some (.int m)) (some (.int (m + (m + T) % 2)))) b = .ok (l.map D.int) b := by
      unfold lsS lD
      simp
    unfold sFor
    simp only [ha, st_ok_]
    exact e4
  unfold bLs
  exact (seq_step r0).trans ((seq_step r1).trans ((seq_step r2).trans ((seq_step r3).trans r4)))
theorem least_step (hns : ns.length ≤ 1000) : ∃ f, runD 10 3 (G_least_colours F') [.lst A, .lst (cs.map D.int), lD ns] b = .ok (dcI ns f) b ∧ LeastOk sc (colL cs) ns f := by
  obtain ⟨Ls, h1, GL, ap⟩ := gls_okX G N b
  have key : ∀ (Q : List (List Int)) (done : List (List Int)) (f : Int → Int) (o3 o5 o6 o7 o8 o9 : Option D), (∀ l ∈ done ++ Q, l ∈ Ls) → (∀ l ∈ done, LeastOk sc (colL cs) l f) → (∀ k, (∀ l ∈ done, k ∉ l) → f k = 0) → ∃ (f' : Int → Int) (o3' o5' o6' o7' o8' o9' : Option D), loopD (gN 5) (bLs F') (Q.map lD) (lsS A cs ns f o3 o5 o6 o7 o8 o9) b = .nx (lsS A cs ns f' o3' o5' o6' o7' o8' o9') b ∧ (∀ l ∈ done ++ Q, LeastOk sc (colL cs) l f') ∧ (∀ k, (∀ l ∈ done ++ Q, k ∉ l) → f' k = 0) := by
    intro Q
    induction Q with
    | nil =>
      intro done f o3 o5 o6 o7 o8 o9 _ h2 h3
      rw [List.append_nil]
      exact ⟨f, o3, o5, o6, o7, o8, o9, rfl, h2, h3⟩
    | cons l Q ih =>
      intro done f o3 o5 o6 o7 o8 o9 hL h2 h3
      have hl : l ∈ Ls := hL l (by simp)
      obtain ⟨f1, p3, p6, p7, p8, p9, e1, g1, g2⟩ := ls_turn G hcs N b hrec (GL.ne l hl) (GL.sub l hl) (GL.nd l hl) (GL.hang l hl) f o3 o6 o7 o8 o9
      obtain ⟨f', q3, q5, q6, q7, q8, q9, e2, g3, g4⟩ := ih (done ++ [l]) f1 p3 (some (lD l)) p6 p7 p8 p9 (fun z hz => hL z (by simpa using hz)) (fun z hz => by
        rcases List.mem_append.mp hz with hz | hz
        · by_cases he : z = l
          · rw [he]; exact g1
          · refine (h2 z hz).congr fun k hk => (g2 k fun hkl => he (ap z (hL z (by simp [hz])) l hl k hk hkl)).symm
        · have : z = l := by simpa using hz
          rw [this]; exact g1) (fun k hk => by
        have hkl : k ∉ l := hk l (by simp)
        rw [g2 k hkl]
        exact h3 k fun z hz => hk z (by simp [hz]))
      refine ⟨f', q3, q5, q6, q7, q8, q9, ?_, fun z hz => g3 z (by simpa using hz), fun k hk => g4 k fun z hz => hk z (by simpa using hz)⟩
      rw [List.map_cons]
      unfold loopD
      have gg : gN 5 (lD l) (lsS A cs ns f o3 o5 o6 o7 o8 o9) b = some (lsS A cs ns f o3 (some (lD l)) o6 o7 o8 o9, b) := rfl
      rw [gg]
      dsimp only
      rw [e1]
      exact e2
  obtain ⟨f, q3, q5, q6, q7, q8, q9, e, k1, k2⟩ := key Ls [] (fun _ => 0) none none none none none none (fun l hl => by simpa using hl) (fun l hl => by cases hl) (fun _ _ => rfl)
  rw [List.nil_append] at k1 k2
  refine ⟨f, ?_, fun k hk => ?_, fun S h0 hS hsub T T' t t' => ?_, fun c hc B hB0 hB k hk => ?_⟩
  · have hz := zeroC (ρ := [some (.sh (.lst A)), some (.sh (.lst (cs.map D.int))), some (.sh (lD ns)), none, none, none, none, none, none, none]) (b := b) (by simp) ns [] (by simpa using N.nd)
    rw [List.nil_append] at hz
    have hnl : ns.length ≤ 100000 := by omega
    have r0 : sOwn (eDc (aAny (eV 2)) [3] (gN 3) bYes (eV 3) (eC (.int 0))) 4 [some (.sh (.lst A)), some (.sh (.lst (cs.map D.int))), some (.sh (lD ns)), none, none, none, none, none, none, none] b = .nx (lsS A cs ns (fun _ => 0) none none none none none none) b := by
      have hz' : dcD (gN 3) bYes (eV 3) (eC (.int 0)) (ns.map D.int) [some (.sh (.lst A)), some (.sh (.lst (cs.map D.int))), some (.sh (.lst (ns.map D.int))), none, none, none, none, none, none, none] (.dct [] []) b = .ok (dcI ns fun _ => 0) b := hz
      unfold lsS lD
      simp [hnl, hz']
    have hLs : Ls.length ≤ 100000 := by
      have hs := GL.few
      have : ∀ L : List (List Int), (∀ l ∈ L, l ≠ []) → L.length ≤ (L.map List.length).sum := fun L => by
        induction L with
        | nil => intro _; simp
        | cons z L ih =>
          intro h
          have h1 := List.length_pos_iff.mpr (h z List.mem_cons_self)
          have h2 := ih fun y hy => h y (List.mem_cons_of_mem _ hy)
          rw [List.length_cons, List.map_cons, List.sum_cons]
          omega
      have := this Ls GL.ne
      omega
    have r1 : aAny (eCall (F_greatest_loops) (aCons (eV 0) (aCons (eV 2) aNil))) (lsS A cs ns (fun _ => 0) none none none none none none) b = .ok (Ls.map lD) b := by
      unfold lsS
      unfold lD at h1 ⊢
      simp [h1, hLs]
    have eG : G_least_colours F' = (sSeq (sOwn (eDc (aAny (eV 2)) [3] (gN 3) bYes (eV 3) (eC (.int 0))) 4) (sSeq (sFor (aAny (eCall (F_greatest_loops) (aCons (eV 0) (aCons (eV 2) aNil)))) (gN 5) (bLs F')) (sFreeze 4 (sRet (eV 4))))) := rfl
    have hst : startE 10 [.lst A, .lst (cs.map D.int), lD ns] = [some (.sh (.lst A)), some (.sh (.lst (cs.map D.int))), some (.sh (lD ns)), none, none, none, none, none, none, none] := rfl
    rw [eG]
    simp only [runD, List.length_cons, List.length_nil, if_true, hst]
    rw [seq_step r0]
    simp only [sSeq, sFor, r1, st_ok_, e, seq_nx_]
    unfold lsS
    simp
  · by_cases h : ∃ l ∈ Ls, k ∈ l
    · obtain ⟨l, hl, hkl⟩ := h
      have h1 := (k1 l hl).bd k hkl
      have h2 : l.length ≤ ns.length := nd_sub (GL.nd l hl) (GL.sub l hl)
      omega
    · rw [k2 k fun l hl hkl => h ⟨l, hl, hkl⟩]
      omega
  · obtain ⟨l, hl, hsl⟩ := GL.all S h0 hS hsub
    exact (k1 l hl).ev S h0 hS hsl T T' t t'
  · by_cases h : ∃ l ∈ Ls, k ∈ l
    · obtain ⟨l, hl, hkl⟩ := h
      exact (k1 l hl).mn c (fun S s0 sS ssub => hc S s0 sS fun a ha => GL.sub l hl a (ssub a ha)) B hB0 (fun j hj => hB j (GL.sub l hl j hj)) k hkl
    · rw [k2 k fun l hl hkl => h ⟨l, hl, hkl⟩]
      exact hB0
end
section
variable {A : List D} {n : Nat} {sc : Int → List Int} (G : Gr A n sc) {cs : List Int} (hcs : cs.length = n)
include G hcs
theorem least_n (b : Bag) : ∀ (d : Nat) (ns : List Int), Ns n ns → ns.length ≤ d → ∃ f, F_least_colours_n (d + 1) [.lst A, .lst (cs.map D.int), lD ns] b = .ok (dcI ns f) b ∧ LeastOk sc (colL cs) ns f
  | 0, ns, N, h => least_step G hcs N b (F' := F_least_colours_n 0) (fun ns' _ h' => by omega) (by omega)
  | d + 1, ns, N, h => by
    have := N.len
    have := G.n1000
    exact least_step G hcs N b (F' := F_least_colours_n (d + 1)) (fun ns' N' h' => least_n b d ns' N' (by omega)) (by omega)
theorem least_ok {ns : List Int} (N : Ns n ns) (h : ns.length ≤ 7) (b : Bag) : ∃ f, F_least_colours [.lst A, .lst (cs.map D.int), lD ns] b = .ok (dcI ns f) b ∧ LeastOk sc (colL cs) ns f := by
  obtain ⟨f, h1, h2⟩ := least_n G hcs b 7 ns N h
  exact ⟨f, h1, h2⟩
end
end DL

set_option maxHeartbeats 1000000

set_option maxHeartbeats 1000000

set_option maxHeartbeats 1000000

set_option maxHeartbeats 1000000

set_option maxHeartbeats 1000000

set_option maxHeartbeats 1000000

set_option maxHeartbeats 1000000

set_option maxHeartbeats 1000000

set_option maxHeartbeats 1000000

set_option maxHeartbeats 1000000
namespace DL
open PySem PySem.Spec PyProof.Rows L2
/-- colours that turn the evenness of each loop -/
structure OppC (rs : List Row) (f : Int → Int) : Prop where
  bd : ∀ k : Int, 0 ≤ k → k < rs.length → 0 ≤ f k ∧ f k ≤ 6
  ev : ∀ S : Int → Prop, (∃ a, S a) → SC (scM rs) S → (∀ a, S a → 0 ≤ a ∧ a < rs.length) → ∀ T T', TopIs (colour rs) S T → TopIs f S T' → T' % 2 = (T + 1) % 2
section
variable (M : Addr) {x : Str} (hx : x ∈ sgs) {rs : List Row} (hr : RowsOk x.length rs)
include hx hr
theorem opposite_ok (b : Bag) : ∃ f, F_opposite M [machD M x rs] b = .ok (machD M x (rowsC rs f)) b ∧ OppC rs f := by
  obtain ⟨l1, l2⟩ := sg_len hx
  have n0 := hr.n0
  have n1 := hr.n1
  have hcl : (colM rs).length = rs.length := by unfold colM; rw [List.length_map]
  obtain ⟨f, e1, L⟩ := least_ok (gr_M hr (by omega : x.length ≤ 1000)) (cs := (colM rs).map (· + 1)) (by rw [List.length_map, hcl]) (ns_nums rs.length) (by rw [len_nums]; omega) b
  have hcol : ∀ k : Int, 0 ≤ k → k < rs.length → colL ((colM rs).map (· + 1)) k = colour rs k + 1 := fun k k0 k1 => by
    unfold colL colour colM
    rw [List.getElem?_map, List.getElem?_map, List.getElem?_eq_getElem (show k.toNat < rs.length by omega)]
    rfl
  have hbd : ∀ k : Int, 0 ≤ k → k < rs.length → 0 ≤ f k ∧ f k ≤ 6 := fun k k0 k1 => by
    have := L.bd k (mem_nums.mpr ⟨k0, k1⟩)
    rw [len_nums] at this
    omega
  refine ⟨f, ?_, hbd, fun S h0 hS hsub T T' t t' => L.ev S h0 hS (fun a ha => mem_nums.mpr (hsub a ha)) (T + 1) T' ?_ t'⟩
  · have h0 := check_ok M x rs b
    have h2 := colours_ok M hr b
    have h3 := with_ok M hx hr hbd b
    have h4 := arrows_ok M hr b
    have a2 := len_M M x rs b
    have hlc := lc_map (g := gN 3) (F := (e2 addF (eV 3) (eC (.int 1)))) (f := fun d => match d with | .int i => .int (i + 1) | d => d) ((colM rs).map D.int) [some (.sh (machD M x rs)), none, none, none, none] b (fun d hd => by
      obtain ⟨c, hc, rfl⟩ := List.mem_map.mp hd
      exact ⟨_, rfl, by simp⟩)
    have hl1 : (((colM rs).map D.int).map fun d => match d with | .int i => D.int (i + 1) | d => d) = ((colM rs).map (· + 1)).map D.int := by
      rw [List.map_map, List.map_map]
      rfl
    rw [hl1] at hlc
    have hc100 : (colM rs).length ≤ 100000 := by omega
    have hn : (rs.length : Int) ≤ 1000000 := by omega
    have hn0 : (0 : Int) ≤ rs.length := by omega
    have hn1 : (rs.length : Int) ≤ 100000 := by omega
    have hn1' : rs.length ≤ 100000 := by omega
    have hn2 : (rs.length : Int) < 9223372036854775808 := by omega
    have hn3 : rs.length < 9223372036854775808 := by omega
    have hrng := range_nums rs.length
    have hnn := len_nums rs.length
    generalize hcs : (colM rs).map (· + 1) = cs at hlc e1
    have r0 : sDrop (eCall (F_check_machine M) (aCons (eV 0) aNil)) [some (.sh (machD M x rs)), none, none, none, none] b = .nx [some (.sh (machD M x rs)), none, none, none, none] b := by
      unfold machD at h0 ⊢
      simp [h0]
    have r1 : sAsg (eLc (aAny (eCall (F_colours_of M) (aCons (eV 0) aNil))) [3] (gN 3) bYes (e2 addF (eV 3) (eC (.int 1)))) (gN 1) [some (.sh (machD M x rs)), none, none, none, none] b = .nx [some (.sh (machD M x rs)), some (.sh (.lst (cs.map D.int))), none, none, none] b := by
      unfold machD at h2 hlc ⊢
      simp [h2, hc100] at hlc ⊢
      simp [hlc]
    have r2 : sAsg (eCall (F_least_colours) (aCons (eCall (F_arrows_of M) (aCons (eV 0) aNil)) (aCons (eV 1) (aCons (eLstRg (eLenO M (F_Machine_len_ M) (aCons (eV 0) aNil))) aNil)))) (gN 2) [some (.sh (machD M x rs)), some (.sh (.lst (cs.map D.int))), none, none, none] b = .nx [some (.sh (machD M x rs)), some (.sh (.lst (cs.map D.int))), some (.sh (dcI (nums rs.length) f)), none, none] b := by
      unfold machD at a2 h4 ⊢
      unfold lD at e1
      simp [h4, a2, hn0, hn1, hn1', hn2, hn3, hrng, e1]
    have hl4 := lc_filt (i := 4) (b := b) (ρ := [some (.sh (machD M x rs)), some (.sh (.lst (cs.map D.int))), some (.sh (dcI (nums rs.length) f)), none, none]) (T := bYes) (F := (eDg (eV 2) (eV 4))) (fun _ => true) (fun k => .int (f k)) (nums rs.length) (fun k _ => rfl) (fun k hk _ => by
      have hlk := lookI (f := f) (k := k) (nums rs.length)
      rw [if_pos hk] at hlk
      simp [hlk])
    rw [List.filter_eq_self.mpr fun _ _ => rfl] at hl4
    have r3 : sRet (eCall (F_with_colours M) (aCons (eV 0) (aCons (eLc (aRng (aCons (eLenO M (F_Machine_len_ M) (aCons (eV 0) aNil)) aNil)) [4] (gN 4) bYes (eDg (eV 2) (eV 4))) aNil))) [some (.sh (machD M x rs)), some (.sh (.lst (cs.map D.int))), some (.sh (dcI (nums rs.length) f)), none, none] b = .rt (machD M x (rowsC rs f)) b := by
      have h3' : F_with_colours M [machD M x rs, .lst ((nums rs.length).map fun k => D.int (f k))] b = .ok (machD M x (rowsC rs f)) b := by
        have e : lD ((nums rs.length).map f) = .lst ((nums rs.length).map fun k => D.int (f k)) := by
          unfold lD
          rw [List.map_map]
          rfl
        rw [← e]
        exact h3
      unfold machD at a2 h3' hl4 ⊢
      simp [aRng, a2, hn, hn0, hn1, hn1', hn2, hn3, hrng, hnn, -List.map_map, -eDg] at hl4 ⊢
      simp [hl4, h3']
    have eF : F_opposite M = runD 5 1 (G_opposite M) := rfl
    have hst : startE 5 [machD M x rs] = [some (.sh (machD M x rs)), none, none, none, none] := rfl
    rw [eF]
    simp only [runD, List.length_cons, List.length_nil, if_true, hst]
    unfold G_opposite
    rw [seq_step r0, seq_step r1, seq_step r2, r3]
    rfl
  · refine (show TopIs (fun k => colour rs k + 1) S (T + 1) from ?_).fcongr fun a ha => (hcol a (hsub a ha).1 (hsub a ha).2).symm
    obtain ⟨⟨a, a1, a2⟩, a3⟩ := t
    exact ⟨⟨a, a1, by dsimp only; omega⟩, fun y hy => by have := a3 y hy; dsimp only; omega⟩
end
end DL

set_option maxHeartbeats 1000000
namespace DL
open PySem PySem.Spec PyProof.Rows L2
/-- colours that tell the evenness of all reached loops -/
def ValidC (rs : List Row) (c : Int → Int) : Prop := ∀ S : Int → Prop, (∃ a, S a) → SC (scM rs) S → (∀ a, S a → Reach rs a) → ∀ T T', TopIs (colour rs) S T → TopIs c S T' → 0 ≤ T' ∧ T' % 2 = T % 2
structure DepthIs (rs : List Row) (d : Int) : Prop where
  up : ∃ c, ValidC rs c ∧ ∀ k, Reach rs k → 0 ≤ c k ∧ c k ≤ d
  mn : ∀ c, ValidC rs c → ∀ B, 0 ≤ B → (∀ k, Reach rs k → c k ≤ B) → d ≤ B
theorem DepthIs.uniq {rs : List Row} {d d' : Int} (h : DepthIs rs d) (h' : DepthIs rs d') (h0 : Reach rs 0) : d = d' := by
  have key : ∀ {d d'}, DepthIs rs d → DepthIs rs d' → d ≤ d' := fun {d d'} h h' => by
    obtain ⟨c, c1, c2⟩ := h'.up
    have := c2 0 h0
    exact h.mn c c1 d' (by omega) fun k hk => (c2 k hk).2
  have := key h h'
  have := key h' h
  omega
section
variable (M : Addr) {x : Str} (hx : x ∈ sgs) {rs : List Row} (hr : RowsOk x.length rs)
include hx hr
theorem recoloured_ok (b : Bag) : ∃ (re : List Int) (f : Int → Int), F_recoloured M [machD M x rs] b = .ok (machD M x (rowsC rs fun k => if k ∈ re then f k else 0)) b ∧ (∀ k, k ∈ re ↔ Reach rs k) ∧ (∀ k ∈ re, 0 ≤ k ∧ k < rs.length) ∧ re.Nodup ∧ LeastOk (scM rs) (colour rs) re f := by
  obtain ⟨l1, l2⟩ := sg_len hx
  have n0 := hr.n0
  have n1 := hr.n1
  have hcl : (colM rs).length = rs.length := by unfold colM; rw [List.length_map]
  obtain ⟨re, e0, nd, hre⟩ := reached_ok M hr (by omega) b
  have hlo : ∀ k ∈ re, 0 ≤ k ∧ k < rs.length := fun k hk => reach_in hr (by omega) ((hre k).mp hk)
  have N : Ns rs.length re := ⟨nd, hlo⟩
  have hrl := N.len
  obtain ⟨f, e1, L⟩ := least_ok (gr_M hr (by omega : x.length ≤ 1000)) (cs := colM rs) hcl N (by omega) b
  have hcol : ∀ k, colL (colM rs) k = colour rs k := fun k => colL_M rs k
  rw [show colL (colM rs) = colour rs from funext hcol] at L
  have hbd : ∀ k : Int, 0 ≤ k → k < rs.length → 0 ≤ (if k ∈ re then f k else 0) ∧ (if k ∈ re then f k else 0) ≤ 6 := fun k k0 k1 => by
    split
    · rename_i h
      have := L.bd k h
      omega
    · omega
  refine ⟨re, f, ?_, hre, hlo, nd, L⟩
  have h0 := check_ok M x rs b
  have h2 := colours_ok M hr b
  have h3 := with_ok M hx hr hbd b
  have h4 := arrows_ok M hr b
  have a2 := len_M M x rs b
  have hn : (rs.length : Int) ≤ 1000000 := by omega
  have hn0 : (0 : Int) ≤ rs.length := by omega
  have hn1 : (rs.length : Int) ≤ 100000 := by omega
  have hn1' : rs.length ≤ 100000 := by omega
  have hn2 : (rs.length : Int) < 9223372036854775808 := by omega
  have hn3 : rs.length < 9223372036854775808 := by omega
  have hrng := range_nums rs.length
  have hnn := len_nums rs.length
  have r0 : sDrop (eCall (F_check_machine M) (aCons (eV 0) aNil)) [some (.sh (machD M x rs)), none, none] b = .nx [some (.sh (machD M x rs)), none, none] b := by
    unfold machD at h0 ⊢
    simp [h0]
  have r1 : sAsg (eCall (F_least_colours) (aCons (eCall (F_arrows_of M) (aCons (eV 0) aNil)) (aCons (eCall (F_colours_of M) (aCons (eV 0) aNil)) (aCons (eCall (F_reached M) (aCons (eV 0) aNil)) aNil)))) (gN 1) [some (.sh (machD M x rs)), none, none] b = .nx [some (.sh (machD M x rs)), some (.sh (dcI re f)), none] b := by
    unfold machD at e0 h2 h4 ⊢
    unfold lD at e0 e1
    simp [h4, h2, e0, e1]
  have hl2 := lc_filt (i := 2) (b := b) (ρ := [some (.sh (machD M x rs)), some (.sh (dcI re f)), none]) (T := bYes) (F := (eGet (eV 1) (eV 2) (eC (.int 0)))) (fun _ => true) (fun k => .int (if k ∈ re then f k else 0)) (nums rs.length) (fun k _ => rfl) (fun k hk _ => by
    have hlk := lookI (f := f) (k := k) re
    by_cases h : k ∈ re
    · rw [if_pos h] at hlk
      simp [hlk, h]
    · rw [if_neg h] at hlk
      simp [hlk, h])
  rw [List.filter_eq_self.mpr fun _ _ => rfl] at hl2
  have r2 : sRet (eCall (F_with_colours M) (aCons (eV 0) (aCons (eLc (aRng (aCons (eLenO M (F_Machine_len_ M) (aCons (eV 0) aNil)) aNil)) [2] (gN 2) bYes (eGet (eV 1) (eV 2) (eC (.int 0)))) aNil))) [some (.sh (machD M x rs)), some (.sh (dcI re f)), none] b = .rt (machD M x (rowsC rs fun k => if k ∈ re then f k else 0)) b := by
    have h3' : F_with_colours M [machD M x rs, .lst ((nums rs.length).map fun k => D.int (if k ∈ re then f k else 0))] b = .ok (machD M x (rowsC rs fun k => if k ∈ re then f k else 0)) b := by
      have e : lD ((nums rs.length).map fun k => if k ∈ re then f k else 0) = .lst ((nums rs.length).map fun k => D.int (if k ∈ re then f k else 0)) := by
        unfold lD
        rw [List.map_map]
        rfl
      rw [← e]
      exact h3
    have ha : aRng (aCons (eLenO M (F_Machine_len_ M) (aCons (eV 0) aNil)) aNil) [some (.sh (machD M x rs)), some (.sh (dcI re f)), none] b = .ok ((nums rs.length).map D.int) b := by
      unfold machD at a2 ⊢
      simp [aRng, a2, hn, hn0, hn1, hn1', hn2, hn3, hrng]
    have hl9 : ((nums rs.length).map D.int).length ≤ 100000 := by rw [List.length_map, hnn]; exact hn1'
    have hu : wipeE (unown [some (.sh (machD M x rs)), some (.sh (dcI re f)), none]) [2] = [some (.sh (machD M x rs)), some (.sh (dcI re f)), none] := rfl
    have hL : eLc (aRng (aCons (eLenO M (F_Machine_len_ M) (aCons (eV 0) aNil)) aNil)) [2] (gN 2) bYes (eGet (eV 1) (eV 2) (eC (.int 0))) [some (.sh (machD M x rs)), some (.sh (dcI re f)), none] b = .ok (.lst ((nums rs.length).map fun k => D.int (if k ∈ re then f k else 0))) b := by
      simp only [eLc, ha, bind_ok_, hl9, if_true, hu, hl2]
    simp only [sRet, eCall, aCons, aNil, eV, List.getElem?_cons_zero, bind_ok_, hL, h3', st_ok_]
  have eF : F_recoloured M = runD 3 1 (G_recoloured M) := rfl
  have hst : startE 3 [machD M x rs] = [some (.sh (machD M x rs)), none, none] := rfl
  rw [eF]
  simp only [runD, List.length_cons, List.length_nil, if_true, hst]
  unfold G_recoloured
  rw [seq_step r0, seq_step r1, r2]
  rfl
theorem depth_ok (b : Bag) : ∃ d, F_depth M [machD M x rs] b = .ok (.int d) b ∧ DepthIs rs d ∧ 0 ≤ d ∧ d ≤ 6 := by
  obtain ⟨l1, l2⟩ := sg_len hx
  have n0 := hr.n0
  have n1 := hr.n1
  obtain ⟨re, f, e0, hre, hlo, nd, L⟩ := recoloured_ok M hx hr b
  have hrl : re.length ≤ rs.length := (show Ns rs.length re from ⟨nd, hlo⟩).len
  have hbd : ∀ k : Int, 0 ≤ k → k < rs.length → 0 ≤ (if k ∈ re then f k else 0) ∧ (if k ∈ re then f k else 0) ≤ 6 := fun k k0 k1 => by
    split
    · rename_i h
      have := L.bd k h
      omega
    · omega
  have hH := rowsC_ok hr hbd
  have h0 := check_ok M x rs b
  have h2 := colours_ok M hH b
  have hne : colM (rowsC rs fun k => if k ∈ re then f k else 0) ≠ [] := fun e => by
    have := congrArg List.length e
    unfold colM at this
    rw [List.length_map, rowsC_len, List.length_nil] at this
    omega
  have hm := maxLF_ok hne
  have hcol : colM (rowsC rs fun k => if k ∈ re then f k else 0) = (nums rs.length).map fun k => if k ∈ re then f k else 0 := by
    unfold colM rowsC
    rw [List.map_map]
    rfl
  rw [hcol] at hm hne h2
  have hmem := top0_mem hne
  have hge := fun y hy => top0_ge (is := (nums rs.length).map fun k => if k ∈ re then f k else 0) y hy
  obtain ⟨k, hk, ek⟩ := List.mem_map.mp hmem
  have hkb := hbd k (mem_nums.mp hk).1 (mem_nums.mp hk).2
  rw [ek] at hkb
  have hz : Reach rs 0 := .inl rfl
  have h0re : (0 : Int) ∈ re := (hre 0).mpr hz
  refine ⟨_, ?_, ⟨⟨f, fun S s0 sS ssub T T' t t' => ?_, fun j hj => ?_⟩, fun c hc B hB0 hB => ?_⟩, hkb.1, hkb.2⟩
  · unfold F_depth G_depth
    unfold machD at h0 e0 h2 ⊢
    simp only [List.map_map] at h2 hm
    simp [h0, e0, h2, hm]
  · obtain ⟨⟨y, y1, y2⟩, _⟩ := t'
    refine ⟨?_, L.ev S s0 sS (fun a ha => (hre a).mpr (ssub a ha)) T T' t ⟨⟨y, y1, y2⟩, by assumption⟩⟩
    rw [← y2]
    exact (L.bd y ((hre y).mpr (ssub y y1))).1
  · have hjr := (hre j).mpr hj
    have hjn := mem_nums.mpr (hlo j hjr)
    refine ⟨(L.bd j hjr).1, ?_⟩
    have := hge _ (List.mem_map.mpr ⟨j, hjn, rfl⟩)
    rw [if_pos hjr] at this
    exact this
  · have hf := L.mn c (fun S s0 sS ssub => hc S s0 sS fun a ha => (hre a).mp (ssub a ha)) B hB0 (fun j hj => hB j ((hre j).mp hj))
    rw [← ek]
    split
    · rename_i h
      exact hf k h
    · exact hB0
end
end DL

set_option maxHeartbeats 1000000
namespace DL
open PySem PySem.Spec PyProof.Rows L2
theorem strOk_join : ∀ {ts : List Str}, (∀ t ∈ ts, PyData.strOk t = true) → PyData.strOk (Str.join ", " ts) = true
  | [], _ => by decide +kernel
  | [t], h => h t List.mem_cons_self
  | t :: s :: ts, h => by
    show PyData.strOk (t ++ ", " ++ Str.join ", " (s :: ts)) = true
    exact strOk_app (strOk_app (h t List.mem_cons_self) (by decide +kernel)) (strOk_join fun z hz => h z (List.mem_cons_of_mem _ hz))
theorem strOk_from : ∀ {ts : List Str} {k : Nat} {acc : Str}, PyData.strOk acc = true → (∀ t ∈ ts, PyData.strOk t = true) → PyData.strOk (textFrom k acc ts) = true
  | [], _, _, h, _ => h
  | t :: ts, k, acc, h, h' => by
    show PyData.strOk (textFrom (k + 1) (acc ++ (if k > 0 then ", " else "" : String) ++ t) ts) = true
    refine strOk_from (strOk_app (strOk_app h ?_) (h' t List.mem_cons_self)) fun z hz => h' z (List.mem_cons_of_mem _ hz)
    split <;> decide +kernel
theorem shownAll_map : ∀ ps : List PyData, PyData.shownAll ps = ps.map PyData.shown
  | [] => rfl
  | p :: ps => by show p.shown :: PyData.shownAll ps = _; rw [shownAll_map ps]; rfl
theorem showableAll_map : ∀ {ps : List PyData}, (∀ p ∈ ps, p.showable = true) → PyData.showableAll ps = true
  | [], _ => rfl
  | p :: ps, h => by
    show (p.showable && PyData.showableAll ps) = true
    rw [h p List.mem_cons_self, showableAll_map fun q hq => h q (List.mem_cons_of_mem _ hq)]
    rfl
theorem hasDictAll_map : ∀ {ps : List PyData}, (∀ p ∈ ps, p.hasDict = false) → PyData.hasDictAll ps = false
  | [], _ => rfl
  | p :: ps, h => by
    show (p.hasDict || PyData.hasDictAll ps) = false
    rw [h p List.mem_cons_self, hasDictAll_map fun q hq => h q (List.mem_cons_of_mem _ hq)]
    rfl
theorem depthAll_le {k : Nat} : ∀ {ps : List PyData}, (∀ p ∈ ps, p.depth ≤ k) → PyData.depthAll ps ≤ k
  | [], _ => Nat.zero_le _
  | p :: ps, h => by
    show max p.depth (PyData.depthAll ps) ≤ k
    exact Nat.max_le.mpr ⟨h p List.mem_cons_self, depthAll_le fun q hq => h q (List.mem_cons_of_mem _ hq)⟩
theorem shown_sum {n : Nat} : ∀ {ps : List PyData}, (∀ p ∈ ps, p.shown.length ≤ n) → ((ps.map PyData.shown).map (·.length)).sum ≤ ps.length * n
  | [], _ => by simp
  | p :: ps, h => by
    have h1 := h p List.mem_cons_self
    have h2 := shown_sum fun q hq => h q (List.mem_cons_of_mem _ hq)
    rw [List.map_cons, List.map_cons, List.sum_cons, List.length_cons, Nat.add_mul, Nat.one_mul]
    omega
theorem shP_lst {ps : List PyData} {k n m : Nat} (h : ∀ p ∈ ps, ShP p k n) (hm : ps.length ≤ m) : ShP (.list ps) (k + 1) (m * (n + 2) + 3) ∧ ShP (.tuple ps) (k + 1) (m * (n + 2) + 3) := by
  have h1 := listText_len_le (PyData.shownAll ps)
  have h2 := tupleText_len_le (PyData.shownAll ps)
  have h3 := shown_sum fun p hp => (h p hp).ln
  have h4 : PyData.depthAll ps ≤ k := depthAll_le fun p hp => (h p hp).dp
  rw [shownAll_map] at h1 h2
  rw [List.length_map] at h1 h2
  have h5 : ps.length * n + 2 * ps.length ≤ m * (n + 2) := by
    rw [Nat.mul_comm 2, ← Nat.mul_add]
    exact Nat.mul_le_mul_right _ hm
  have ok : ∀ t ∈ PyData.shownAll ps, PyData.strOk t = true := fun t ht => by
    rw [shownAll_map] at ht
    obtain ⟨p, hp, rfl⟩ := List.mem_map.mp ht
    exact (h p hp).ok
  refine ⟨⟨showableAll_map fun p hp => (h p hp).sh, hasDictAll_map fun p hp => (h p hp).nd, ?_, ?_, ?_⟩, ⟨showableAll_map fun p hp => (h p hp).sh, hasDictAll_map fun p hp => (h p hp).nd, ?_, ?_, ?_⟩⟩
  · show PyData.depthAll ps + 1 ≤ k + 1; omega
  · show (listText (PyData.shownAll ps)).length ≤ _
    rw [shownAll_map]; omega
  · show PyData.strOk (textFrom 0 "[" (PyData.shownAll ps) ++ "]") = true
    exact strOk_app (strOk_from (by decide +kernel) ok) (by decide +kernel)
  · show PyData.depthAll ps + 1 ≤ k + 1; omega
  · show (tupleText (PyData.shownAll ps)).length ≤ _
    rw [shownAll_map]; omega
  · show PyData.strOk (("(" : Str) ++ Str.join ", " (PyData.shownAll ps) ++ (if (PyData.shownAll ps).length == 1 then ",)" else ")" : String)) = true
    refine strOk_app (strOk_app (by decide +kernel) (strOk_join ok)) ?_
    split <;> decide +kernel
theorem pds_all {k n : Nat} : ∀ {ds : List D}, (∀ d ∈ ds, ShB d k n) → ∃ ps, pds ds = some ps ∧ ps.length = ds.length ∧ ∀ p ∈ ps, ShP p k n
  | [], _ => ⟨[], rfl, rfl, fun p h => (by cases h)⟩
  | d :: ds, h => by
    obtain ⟨p, h1, h2⟩ := h d List.mem_cons_self
    obtain ⟨ps, h3, h4, h5⟩ := pds_all fun e he => h e (List.mem_cons_of_mem _ he)
    refine ⟨p :: ps, ?_, by simp [h4], fun q hq => ?_⟩
    · simp [pds, h1, h3]
    · rcases List.mem_cons.mp hq with rfl | hq
      · exact h2
      · exact h5 q hq
theorem shB_tup {ds : List D} {k n m : Nat} (h : ∀ d ∈ ds, ShB d k n) (hm : ds.length ≤ m) : ShB (.tup ds) (k + 1) (m * (n + 2) + 3) := by
  obtain ⟨ps, h1, h2, h3⟩ := pds_all h
  exact ⟨.tuple ps, by simp [D.pd, h1], (shP_lst h3 (by omega)).2⟩
theorem shB_int {i : Int} (h0 : -1 ≤ i) (h1 : i < 200) : ShB (.int i) 0 3 := by
  have key : ∀ j ∈ List.range 201, (PyData.int ((j : Int) - 1)).showable = true ∧ (PyData.int ((j : Int) - 1)).shown.length ≤ 3 ∧ PyData.strOk (PyData.int ((j : Int) - 1)).shown = true := by decide +kernel
  have := key (i + 1).toNat (List.mem_range.mpr (by omega))
  rw [show (((i + 1).toNat : Int)) - 1 = i by omega] at this
  exact ⟨.int i, rfl, this.1, rfl, Nat.le_refl _, this.2.1, this.2.2⟩
theorem shB_row {k n : Nat} {r : Row} (h : RowOk k n r) (hk : k ≤ 3) (hn : n ≤ 6) : ShB (rowD r) 2 50 := by
  have h1 : ShB (.int r.1) 1 18 := (shB_int (by have := h.c0; omega) (by have := h.c1; omega)).mono (by decide) (by decide)
  have h2 : ShB (.tup (r.2.map D.int)) 1 18 := (shB_tup (ds := r.2.map D.int) (k := 0) (n := 3) (m := 3) (fun d hd => by
    obtain ⟨g, hg, rfl⟩ := List.mem_map.mp hd
    have := h.go g hg
    exact shB_int (by omega) (by omega)) (by rw [List.length_map, h.len]; exact hk)).mono (by decide) (by decide)
  exact (shB_tup (ds := [.int r.1, .tup (r.2.map D.int)]) (m := 2) (fun d hd => by
    simp only [List.mem_cons, List.not_mem_nil, or_false] at hd
    rcases hd with rfl | rfl
    · exact h1
    · exact h2) (by simp)).mono (by decide) (by decide)
theorem shB_rows {k : Nat} {rs : List Row} (h : RowsOk k rs) (hk : k ≤ 3) : ShB (rowsD rs) 3 400 := by
  have n1 := h.n1
  exact (shB_tup (ds := rs.map rowD) (m := 6) (fun d hd => by
    obtain ⟨r, hr, rfl⟩ := List.mem_map.mp hd
    exact shB_row (h.ok r hr) hk (by omega)) (by rw [List.length_map]; omega)).mono (by decide) (by decide)
theorem repr_ofT {ds : List D} {k n : Nat} (h : ShB (.tup ds) k n) (hk : k ≤ 60) (hn : n ≤ 1000000) : ∃ z, reprF [.tup ds] = some (.str z) ∧ PyData.strOk z = true := by
  obtain ⟨p, h1, h2⟩ := h
  refine ⟨p.shown, ?_, h2.ok⟩
  have a := Nat.le_trans h2.dp hk
  have b := Nat.le_trans h2.ln hn
  simp only [reprF, h1, Option.bind_some, h2.sh, h2.nd, a, b, and_self, if_true]
end DL

set_option maxHeartbeats 1000000
namespace DL
open PySem PySem.Spec PyProof.Rows L2
def dg (i : Int) : List Nat := [48 + i.toNat]
def stL : List Nat := [115, 116, 97, 116, 101]
def maL : List Nat := [109, 97, 99, 104, 105, 110, 101]
def wordsR (r : Row) : List (List Nat) := stL :: dg r.1 :: r.2.map dg
def rowT (r : Row) : List Nat := TL.joinL [32] (wordsR r)
def firstT (x : Str) : List Nat := TL.joinL [32] [maL, x.cps.toList]
def pageL (x : Str) (rs : List Row) : List Nat := TL.joinL [10] (firstT x :: rs.map rowT)
def pageT (x : Str) (rs : List Row) : Str := SX.S (pageL x rs)
theorem tS_st : SX.S stL = "state" := by decide +kernel
theorem tS_sp : SX.S [32] = " " := by decide +kernel
theorem tS_nl : SX.S [10] = "\n" := by decide +kernel
theorem tS_ms (x : Str) : ("machine " : Str) ++ x = SX.S (firstT x) := by
  have e : SX.S (maL ++ [32]) = "machine " := by decide +kernel
  have h : SX.S x.cps.toList = x := SX.S_tl x
  have e2 : firstT x = (maL ++ [32]) ++ x.cps.toList := rfl
  rw [e2, ← SX.S_cat, h, e]
theorem six {i : Int} (h0 : 0 ≤ i) (h1 : i ≤ 6) : i = 0 ∨ i = 1 ∨ i = 2 ∨ i = 3 ∨ i = 4 ∨ i = 5 ∨ i = 6 := by omega
theorem strF_dg {i : Int} (h0 : 0 ≤ i) (h1 : i ≤ 6) : strF [.int i] = some (.str (SX.S (dg i))) := by
  rcases six h0 h1 with rfl | rfl | rfl | rfl | rfl | rfl | rfl <;> kernel_rfl
theorem strsD_S : ∀ ys : List (List Nat), strsD (ys.map fun l => .str (SX.S l)) = some (ys.map SX.S)
  | [] => rfl
  | y :: ys => by
    rw [List.map_cons, strsD, strsD_S ys]
    rfl
theorem join_F (c : List Nat) (ys : List (List Nat)) (h : (ys.map (·.length)).sum + ys.length * c.length ≤ 16777216) : joinF (SX.S c) [.lst (ys.map fun l => .str (SX.S l))] = some (.str (SX.S (TL.joinL c ys))) := by
  simp only [joinF, seqD, Option.bind_some, strsD_S, SX.lens, List.length_map, SX.S_len]
  rw [if_pos h, SX.join_S]
theorem joinL_len (c : List Nat) : ∀ ys : List (List Nat), (TL.joinL c ys).length ≤ (ys.map (·.length)).sum + ys.length * c.length
  | [] => by simp [TL.joinL]
  | [p] => by simp [TL.joinL]
  | p :: q :: r => by
    have h := joinL_len c (q :: r)
    show (p ++ (c ++ TL.joinL c (q :: r))).length ≤ _
    simp only [List.length_append, List.map_cons, List.sum_cons, List.length_cons] at h ⊢
    rw [Nat.add_mul (r.length + 1) 1]
    omega
theorem joinL_mem {c : List Nat} : ∀ {ys : List (List Nat)} {d : Nat}, d ∈ TL.joinL c ys → d ∈ c ∨ ∃ y ∈ ys, d ∈ y
  | [], d, h => by cases h
  | [p], d, h => .inr ⟨p, List.mem_cons_self, h⟩
  | p :: q :: r, d, h => by
    have h : d ∈ p ++ (c ++ TL.joinL c (q :: r)) := h
    rcases List.mem_append.mp h with h | h
    · exact .inr ⟨p, List.mem_cons_self, h⟩
    · rcases List.mem_append.mp h with h | h
      · exact .inl h
      · rcases joinL_mem h with h | ⟨y, hy, h⟩
        · exact .inl h
        · exact .inr ⟨y, List.mem_cons_of_mem _ hy, h⟩
theorem sum_le {n : Nat} : ∀ {ys : List (List Nat)}, (∀ y ∈ ys, y.length ≤ n) → (ys.map (·.length)).sum ≤ ys.length * n
  | [], _ => by simp
  | y :: ys, h => by
    have h1 := h y List.mem_cons_self
    have h2 := sum_le fun q hq => h q (List.mem_cons_of_mem _ hq)
    rw [List.map_cons, List.sum_cons, List.length_cons, Nat.add_mul, Nat.one_mul]
    omega
theorem words_len {k n : Nat} {r : Row} (hr : RowOk k n r) (hk : k ≤ 3) : (wordsR r).length ≤ 5 ∧ ∀ y ∈ wordsR r, y.length ≤ 5 := by
  refine ⟨by simp [wordsR, hr.len]; omega, fun y hy => ?_⟩
  unfold wordsR at hy
  rcases List.mem_cons.mp hy with rfl | hy
  · decide
  · rcases List.mem_cons.mp hy with rfl | hy
    · simp [dg]
    · obtain ⟨g, _, rfl⟩ := List.mem_map.mp hy
      simp [dg]
theorem rowT_len {k n : Nat} {r : Row} (hr : RowOk k n r) (hk : k ≤ 3) : (rowT r).length ≤ 30 := by
  obtain ⟨h1, h2⟩ := words_len hr hk
  have h3 := joinL_len [32] (wordsR r)
  have h4 := sum_le h2
  unfold rowT
  simp only [List.length_cons, List.length_nil] at h3
  omega
theorem row_sum {k n : Nat} {r : Row} (hr : RowOk k n r) (hk : k ≤ 3) : ((wordsR r).map (·.length)).sum + (wordsR r).length * 1 ≤ 16777216 := by
  obtain ⟨h1, h2⟩ := words_len hr hk
  have h4 := sum_le h2
  omega
theorem goals_str {F : EF} {k n : Nat} {r : Row} (hr : RowOk k n r) (hn : n ≤ 7) {i : Nat} (ρ : Env) (b : Bag) (hF : ∀ g : Int, 0 ≤ g → g ≤ 6 → F (ρ.set i (some (.sh (.int g)))) b = .ok (.str (SX.S (dg g))) b) :
    lcD (gN i) bYes F (r.2.map D.int) ρ b = .ok ((r.2.map dg).map fun l => .str (SX.S l)) b := by
  have h := lc_map (g := gN i) (F := F) (f := fun d => match d with | .int g => .str (SX.S (dg g)) | d => d) (r.2.map D.int) ρ b (fun d hd => by
    obtain ⟨g, hg, rfl⟩ := List.mem_map.mp hd
    obtain ⟨g0, g1⟩ := hr.go g hg
    exact ⟨_, rfl, hF g g0 (by omega)⟩)
  rw [h, List.map_map, List.map_map]
  rfl
theorem staterow_ok {k n : Nat} {r : Row} (hr : RowOk k n r) (hk : k ≤ 3) (hn : n ≤ 7) (b : Bag) : F_state_row [rowD r] b = .ok (.str (SX.S (rowT r))) b := by
  have hj := join_F [32] (wordsR r) (row_sum hr hk)
  rw [tS_sp] at hj
  have h0 := strF_dg hr.c0 hr.c1
  have hg := goals_str (F := eB strF (aCons (eV 1) aNil)) (i := 1) hr hn [some (.sh (rowD r)), none] b (fun g g0 g1 => by simp [strF_dg g0 g1, -strF])
  have hl : r.2.length ≤ 100000 := by rw [hr.len]; omega
  have hl2 : r.2.length + 1 + 1 ≤ 100000 := by rw [hr.len]; omega
  unfold rowD at hg ⊢
  unfold wordsR at hj
  simp only [List.map_cons, tS_st, List.map_map] at hj
  unfold F_state_row G_state_row
  simp [-strF, eM, h0, hg, aStar, anySeq, hl, hl2, aAny, eLc, hj]
  rfl
end DL

set_option maxHeartbeats 1000000
namespace DL
open PySem PySem.Spec PyProof.Rows L2
variable {x : Str} {rs : List Row}
theorem first_len (hx : x ∈ sgs) : (firstT x).length ≤ 30 := by
  have h : x.cps.toList.length = x.length := by simp [Str.length]
  obtain ⟨l1, l2⟩ := sg_len hx
  have e : firstT x = (maL ++ [32]) ++ x.cps.toList := rfl
  rw [e, List.length_append, h]
  simp [maL]
  omega
def linesL (x : Str) (rs : List Row) : List (List Nat) := firstT x :: rs.map rowT
theorem lines_len (hx : x ∈ sgs) (hr : RowsOk x.length rs) : (linesL x rs).length ≤ 7 ∧ ∀ y ∈ linesL x rs, y.length ≤ 30 := by
  obtain ⟨l1, l2⟩ := sg_len hx
  have n6 := hr.n1
  refine ⟨by simp [linesL]; omega, fun y hy => ?_⟩
  unfold linesL at hy
  rcases List.mem_cons.mp hy with rfl | hy
  · exact first_len hx
  · obtain ⟨r, h, rfl⟩ := List.mem_map.mp hy
    exact rowT_len (hr.ok r h) l2
theorem lines_sum (hx : x ∈ sgs) (hr : RowsOk x.length rs) : ((linesL x rs).map (·.length)).sum + (linesL x rs).length * 1 ≤ 300 := by
  obtain ⟨h1, h2⟩ := lines_len hx hr
  have h4 := sum_le h2
  omega
theorem page_len (hx : x ∈ sgs) (hr : RowsOk x.length rs) : (pageL x rs).length ≤ 300 := by
  have h := joinL_len [10] (linesL x rs)
  have h2 := lines_sum hx hr
  simp only [List.length_cons, List.length_nil] at h
  unfold pageL
  unfold linesL at *
  omega
theorem join_page (hx : x ∈ sgs) (hr : RowsOk x.length rs) : joinF "\n" [.lst ((linesL x rs).map fun l => .str (SX.S l))] = some (.str (pageT x rs)) := by
  have h := join_F [10] (linesL x rs) (by have := lines_sum hx hr; simp only [List.length_cons, List.length_nil]; omega)
  rw [tS_nl] at h
  exact h
theorem lc_mapm {α : Type} {g : GF} {F : EF} {e f : α → D} : ∀ (xs : List α) (ρ : Env) (b : Bag), (∀ a ∈ xs, ∃ ρ', g (e a) ρ b = some (ρ', b) ∧ F ρ' b = .ok (f a) b) → lcD g bYes F (xs.map e) ρ b = .ok (xs.map f) b
  | [], ρ, b, _ => rfl
  | a :: xs, ρ, b, h => by
    obtain ⟨ρ', h0, h1⟩ := h a List.mem_cons_self
    have h3 := lc_mapm xs ρ b fun d hd => h d (List.mem_cons_of_mem _ hd)
    simp [lcD, h0, h1, h3]
theorem str_ok (M : Addr) (hx : x ∈ sgs) (hr : RowsOk x.length rs) (b : Bag) : F_Machine_str_ M [machD M x rs] b = .ok (.str (pageT x rs)) b := by
  obtain ⟨l1, l2⟩ := sg_len hx
  have n6 := hr.n1
  have hj := join_page hx hr
  have hl : x.length ≤ 100000 := by omega
  have h8 : ("machine " : Str).length ≤ 100000 := by decide +kernel
  have h9 : (SX.S (firstT x)).length ≤ 200000 := by rw [SX.S_len]; have := first_len hx; omega
  have hm : (Str.ofString "machine ") ++ x = SX.S (firstT x) := tS_ms x
  have hl2 : rs.length ≤ 100000 := by omega
  have hl3 : rs.length + 1 ≤ 100000 := by omega
  have hc := lc_mapm (g := gN 1) (F := eCall (F_state_row) (aCons (eV 1) aNil)) (e := rowD) (f := fun r => .str (SX.S (rowT r))) rs [some (.sh (machD M x rs)), none] b (fun r h => by
    refine ⟨_, rfl, ?_⟩
    have hs := staterow_ok (hr.ok r h) l2 (by omega) b
    simp [hs])
  unfold linesL at hj
  simp only [List.map_cons, List.map_map] at hj
  have hj : joinF "\n" [.lst (.str (SX.S (firstT x)) :: rs.map fun r => .str (SX.S (rowT r)))] = some (.str (pageT x rs)) := hj
  unfold machD rowsD at hc ⊢
  unfold F_Machine_str_ G_Machine_str_
  rw [← hm] at h9
  have hf : eJ2 (eC (.str (Str.ofString "machine "))) (e1 (fldF M "_letters") (eV 0)) [some (.sh (.ins M ["_letters", "_states"] [.str x, .tup (rs.map rowD)])), none] b = .ok (.str (SX.S (firstT x))) b := by
    have hfl : fldF M "_letters" (.ins M ["_letters", "_states"] [.str x, .tup (rs.map rowD)]) = some (.str x) := fld_l M x rs
    simp [eJ2, fmtD, h8, hl, h9, hfl]
    exact hm
  have hfs : fldF M "_states" (.ins M ["_letters", "_states"] [.str x, .tup (rs.map rowD)]) = some (.tup (rs.map rowD)) := fld_s M x rs
  simp [eM, hfs, hf, hc, aStar, anySeq, hl, hl2, hl3, aAny, eLc]
  simp [hj]
end DL

set_option maxHeartbeats 1000000
namespace DL
open PySem PySem.Spec PyProof.Rows L2
def okC : List Nat := [10, 32] ++ (List.range 10).map (48 + ·) ++ (List.range 26).map (97 + ·)
theorem okC_rch : ∀ c ∈ okC, (Builtin.Str.reprChar 39 c).length ≤ 2 ∧ (∀ d ∈ Builtin.Str.reprChar 39 c, d < 0x110000) ∧ c ≠ 39 ∧ c < 0x110000 := by decide +kernel
theorem rep_C {w : Str} (h : ∀ c ∈ w.cps.toList, c ∈ okC) : (reprText w).cps.toList = 39 :: (w.cps.toList.flatMap (Builtin.Str.reprChar 39) ++ [39]) := by
  have hq : reprQuote w = 39 := by
    unfold reprQuote
    have : w.cps.contains 39 = false := by
      rw [← Array.contains_toList, Bool.eq_false_iff]
      intro hc
      have := List.contains_iff_mem.mp hc
      exact (okC_rch 39 (h 39 this)).2.2.1 rfl
    rw [this]
    rfl
  unfold reprText
  rw [hq]
  show ((w.cps.foldl (fun out c => out ++ (Builtin.Str.reprChar 39 c).toArray) #[39]).push 39).toList = _
  rw [Array.toList_push, ← Array.foldl_toList, cps_fold]
  rfl
theorem flat_lenC {f : Nat → List Nat} : ∀ {l : List Nat}, (∀ c ∈ l, (f c).length ≤ 2) → (l.flatMap f).length ≤ 2 * l.length
  | [], _ => by simp
  | c :: l, h => by
    have h1 := h c List.mem_cons_self
    have h2 := flat_lenC fun d hd => h d (List.mem_cons_of_mem _ hd)
    rw [List.flatMap_cons, List.length_append, List.length_cons]
    omega
theorem shB_strC {w : Str} (h : ∀ c ∈ w.cps.toList, c ∈ okC) : ShB (.str w) 0 (2 * w.length + 2) := by
  have e := rep_C h
  refine ⟨.str w, rfl, rfl, rfl, Nat.le_refl _, ?_, ?_⟩
  · show (reprText w).length ≤ _
    have h1 := flat_lenC (f := Builtin.Str.reprChar 39) fun c hc => (okC_rch c (h c hc)).1
    rw [← str_len, e]
    simp only [List.length_cons, List.length_append, List.length_nil]
    have : w.cps.toList.length = w.length := by simp [Str.length]
    omega
  · show PyData.strOk (reprText w) = true
    unfold PyData.strOk
    rw [← Array.all_toList, List.all_eq_true, e]
    intro c hc
    rcases List.mem_cons.mp hc with rfl | hc
    · decide
    · rcases List.mem_append.mp hc with hc | hc
      · obtain ⟨d, hd, hc⟩ := List.mem_flatMap.mp hc
        exact decide_eq_true ((okC_rch d (h d hd)).2.1 c hc)
      · have : c = 39 := by simpa using hc
        subst this
        decide
theorem sg_C : ∀ x ∈ sgs, ∀ c ∈ x.cps.toList, c ∈ okC := by decide +kernel
variable {x : Str} {rs : List Row}
theorem dg_C {i : Int} (h0 : 0 ≤ i) (h1 : i ≤ 6) : ∀ c ∈ dg i, c ∈ okC := by
  rcases six h0 h1 with rfl | rfl | rfl | rfl | rfl | rfl | rfl <;> decide +kernel
theorem page_C (hx : x ∈ sgs) (hr : RowsOk x.length rs) : ∀ c ∈ (pageT x rs).cps.toList, c ∈ okC := by
  intro c hc
  have hc : c ∈ TL.joinL [10] (linesL x rs) := hc
  rcases joinL_mem hc with hc | ⟨y, hy, hc⟩
  · have : ∀ c ∈ ([10] : List Nat), c ∈ okC := by decide +kernel
    exact this c hc
  · unfold linesL at hy
    rcases List.mem_cons.mp hy with rfl | hy
    · have e : firstT x = (maL ++ [32]) ++ x.cps.toList := rfl
      rw [e] at hc
      rcases List.mem_append.mp hc with hc | hc
      · have : ∀ c ∈ maL ++ [32], c ∈ okC := by decide +kernel
        exact this c hc
      · exact sg_C x hx c hc
    · obtain ⟨r, h, rfl⟩ := List.mem_map.mp hy
      have ok := hr.ok r h
      have n6 := hr.n1
      rcases joinL_mem hc with hc | ⟨y, hy, hc⟩
      · have : ∀ c ∈ ([32] : List Nat), c ∈ okC := by decide +kernel
        exact this c hc
      · unfold wordsR at hy
        rcases List.mem_cons.mp hy with rfl | hy
        · have : ∀ c ∈ stL, c ∈ okC := by decide +kernel
          exact this c hc
        · rcases List.mem_cons.mp hy with rfl | hy
          · exact dg_C ok.c0 ok.c1 c hc
          · obtain ⟨g, hg, rfl⟩ := List.mem_map.mp hy
            obtain ⟨g0, g1⟩ := ok.go g hg
            exact dg_C g0 (by omega) c hc
end DL

set_option maxHeartbeats 1000000
namespace DL
open PySem PySem.Spec PyProof.Rows L2
abbrev NoM (M : Addr) (d : D) : Prop := isiF (.ref M) kitM (ownM M) [d, .obj (.ref M)] = some (.bl false)
theorem check_bad {M : Addr} {d : D} (h : NoM M d) (b : Bag) : F_check_machine M [d] b = .ex "NotAMachine" ["given"] [d] b := by
  unfold F_check_machine G_check_machine
  simp [h, sRaise]
  rfl
theorem first_bad {M : Addr} {n k : Nat} {R : SF} {Fn : DFn} {d : D} {ds : List D} (e : Fn = runD n k (sSeq (sDrop (eCall (F_check_machine M) (aCons (eV 0) aNil))) R)) (hl : ds.length = k) (h0 : (startE n ds)[0]? = some (some (.sh d))) (h : NoM M d) (b : Bag) : Fn ds b = .ex "NotAMachine" ["given"] [d] b := by
  have c := check_bad h b
  have c1 : eCall (F_check_machine M) (aCons (eV 0) aNil) (startE n ds) b = .ex "NotAMachine" ["given"] [d] b := by
    have v : eV 0 (startE n ds) b = .ok d b := by unfold eV; rw [h0]
    unfold eCall
    simp only [aCons, v, bind_ok_, aNil]
    exact c
  rw [e]
  unfold runD
  rw [if_pos hl]
  unfold sSeq sDrop
  rw [c1]
  rfl
/-- a tale of an outcome -/
theorem told_bad {M : Addr} {F : EF} {ρ : Env} {b : Bag} {d : D} {z : Str} {c : Str} (hc : c = "NotAMachine" ∨ c = "InvalidVerdict") (h : F ρ b = .ex c ["given"] [d] b) (hz : reprA [d] = some (.str z)) : eTold (kCaught M) F ρ b = .ok (.lst [.str c, .str z]) b := by
  unfold eTold tellD
  rw [h]
  show Out.pureO (if ("given" : Str) = "given" then (if c = "NotAMachine" ∨ c = "InvalidVerdict" then (reprA [d]).map fun z => D.lst [D.str c, z] else none) else none) b = _
  rw [if_pos rfl, if_pos hc, hz]
  rfl
theorem told_ok {M : Addr} {F : EF} {ρ : Env} {b : Bag} {d : D} (h : F ρ b = .ok d b) : eTold (kCaught M) F ρ b = .ok (.lst []) b := by
  unfold eTold tellD
  rw [h]
  rfl
def Fit (d : D) : Prop := ∃ p, d.pd = some p ∧ p.canLay0 = true ∧ p.depth ≤ 20
theorem fit_nil : Fit (.lst []) := ⟨.list [], rfl, rfl, by decide⟩
theorem fit_two {x y : Str} (hx : PyData.strOk x = true) (hy : PyData.strOk y = true) : Fit (.lst [.str x, .str y]) := ⟨.list [.str x, .str y], rfl, by simp [PyData.canLay0, PyData.canLayAll0, hx, hy], by simp [PyData.depth, PyData.depthAll]⟩
theorem pds_rep {d : D} {p : PyData} (h : d.pd = some p) : ∀ n : Nat, pds (List.replicate n d) = some (List.replicate n p)
  | 0 => rfl
  | n + 1 => by
    rw [List.replicate_succ, List.replicate_succ]
    simp only [pds, h, pds_rep h n, Option.map_some]
theorem can_rep {p : PyData} (h : p.canLay0 = true) : ∀ n : Nat, PyData.canLayAll0 (List.replicate n p) = true
  | 0 => rfl
  | n + 1 => by
    rw [List.replicate_succ]
    simp only [PyData.canLayAll0, h, can_rep h n, Bool.and_self]
theorem dep_rep {p : PyData} {k : Nat} (h : p.depth ≤ k) : ∀ n : Nat, PyData.depthAll (List.replicate n p) ≤ k
  | 0 => Nat.zero_le _
  | n + 1 => by
    rw [List.replicate_succ]
    have := dep_rep h n
    simp only [PyData.depthAll]
    omega
theorem neF_fit {d : D} (h : Fit d) (n : Nat) : neF (.lst (List.replicate n d)) (.lst (List.replicate n d)) = some (.bl false) := by
  obtain ⟨p, h1, h2, h3⟩ := h
  have e : (D.lst (List.replicate n d)).pd = some (.list (List.replicate n p)) := by simp only [D.pd, pds_rep h1, Option.map_some]
  have c : (PyData.list (List.replicate n p)).canLay0 = true := can_rep h2 n
  have dd : (PyData.list (List.replicate n p)).depth ≤ 64 := by
    have := dep_rep h3 n
    simp only [PyData.depth]
    omega
  have s : SeqAt.shaped (.list (List.replicate n p)) = true := by
    unfold SeqAt.shaped
    rw [c, decide_eq_true dd]
    rfl
  unfold neF
  rw [e]
  dsimp only
  rw [if_pos ⟨s, s⟩, SeqAt.eqv_refl _ c]
  rfl
theorem neF_two {x y : Str} (hx : PyData.strOk x = true) (hy : PyData.strOk y = true) : neF (.lst [.str x, .str y]) (.lst []) = some (.bl true) := by
  have s : SeqAt.shaped (.list [.str x, .str y]) = true := by
    unfold SeqAt.shaped
    simp [PyData.canLay0, PyData.canLayAll0, hx, hy, PyData.depth, PyData.depthAll]
  have s2 : SeqAt.shaped (.list []) = true := by kernel_rfl
  unfold neF
  simp only [D.pd, pds, Option.map_some]
  rw [if_pos ⟨s, s2⟩]
  rfl
theorem neF_nil2 : neF (.lst []) (.lst []) = some (.bl false) := by kernel_rfl
def lp_0 (M : Addr) : SF := (sOwn (eLst (aCons (eTold (kCaught M) (eCall (F_guard M) (aCons (eV 0) aNil))) aNil)) 1)
def lp_1 (M : Addr) : SF := (sPush 1 (eTold (kCaught M) (eCallK 1 (F_hope M) (pick [0]) (aCons (eV 0) aNil))))
def lp_2 (M : Addr) : SF := (sPush 1 (eTold (kCaught M) (eCall (F_opposite M) (aCons (eV 0) aNil))))
def lp_3 (M : Addr) : SF := (sPush 1 (eTold (kCaught M) (eCallK 1 (F_recoloured M) (pick [0]) (aCons (eV 0) aNil))))
def lp_4 (M : Addr) : SF := (sPush 1 (eTold (kCaught M) (eCall (F_is_guard M) (aCons (eV 0) aNil))))
def lp_5 (M : Addr) : SF := (sPush 1 (eTold (kCaught M) (eCallK 1 (F_is_hope M) (pick [0]) (aCons (eV 0) aNil))))
def lp_6 (M : Addr) : SF := (sPush 1 (eTold (kCaught M) (eCall (F_is_promise M) (aCons (eV 0) aNil))))
def lp_7 (M : Addr) : SF := (sPush 1 (eTold (kCaught M) (eCallK 1 (F_is_duty M) (pick [0]) (aCons (eV 0) aNil))))
def lp_8 (M : Addr) : SF := (sPush 1 (eTold (kCaught M) (eCall (F_comes_again M) (aCons (eV 0) aNil))))
def lp_9 (M : Addr) : SF := (sPush 1 (eTold (kCaught M) (eCallK 1 (F_does_stay M) (pick [0]) (aCons (eV 0) aNil))))
def lp_10 (M : Addr) : SF := (sPush 1 (eTold (kCaught M) (eCall (F_depth M) (aCons (eV 0) aNil))))
def lp_11 (M : Addr) : SF := (sFreeze 1 (sRet (eV 1)))
def lp (M : Addr) : SF := (sSeq (lp_0 M) (sSeq (lp_1 M) (sSeq (lp_2 M) (sSeq (lp_3 M) (sSeq (lp_4 M) (sSeq (lp_5 M) (sSeq (lp_6 M) (sSeq (lp_7 M) (sSeq (lp_8 M) (sSeq (lp_9 M) (sSeq (lp_10 M) (lp_11 M))))))))))))
theorem lp_def (M : Addr) : F__law_of_parts M = runD 2 1 (lp M) := rfl
abbrev ePr (d e : D) (n : Nat) : Env := [some (.sh d), some (.ow (.lst (List.replicate n e)))]
theorem push_told {d e : D} {F : EF} {n : Nat} {b : Bag} (hn : n ≤ 100) (h : F (ePr d e n) b = .ok e b) : sPush 1 F (ePr d e n) b = .nx (ePr d e (n + 1)) b := by
  have hl : (List.replicate n e).length ≤ 100000 := by rw [List.length_replicate]; omega
  unfold sPush
  show (F (ePr d e n) b).st (ePr d e n) _ = _
  rw [h]
  simp only [st_ok_]
  rw [if_pos hl]
  show _ = SO.nx [some (.sh d), some (.ow (.lst (List.replicate (n + 1) e)))] b
  rw [List.replicate_succ']
  rfl
theorem call_ex {F : DFn} {G : EF} {ρ : Env} {b : Bag} {d : D} {o : Out D} (v : G ρ b = .ok d b) (h : F [d] b = o) : eCall F (aCons G aNil) ρ b = o := by
  unfold eCall
  simp only [aCons, v, bind_ok_, aNil]
  exact h
theorem callK_ex {F : DFn} {G : EF} {ρ : Env} {b : Bag} {d : D} {o : Out D} (v : G ρ b = .ok d b) (h : F [d] b = o) : eCallK 1 F (pick [0]) (aCons G aNil) ρ b = o := by
  unfold eCallK
  simp only [aCons, v, bind_ok_, aNil]
  simpa [pick] using h
theorem parts_told {M : Addr} {d e : D} {b : Bag} (h : ∀ F ∈ [F_guard M, F_hope M, F_opposite M, F_recoloured M, F_is_guard M, F_is_hope M, F_is_promise M, F_is_duty M, F_comes_again M, F_does_stay M, F_depth M], ∀ (C : EF) (ρ : Env), C ρ b = F [d] b → eTold (kCaught M) C ρ b = .ok e b) :
    F__law_of_parts M [d] b = .ok (.lst (List.replicate 11 e)) b := by
  have hst : startE 2 [d] = [some (.sh d), none] := rfl
  have r0 : lp_0 M [some (.sh d), none] b = .nx (ePr d e 1) b := by
    have t := h (F_guard M) (by simp) (eCall (F_guard M) (aCons (eV 0) aNil)) [some (.sh d), none] (call_ex rfl rfl)
    unfold lp_0 sOwn
    have : eLst (aCons (eTold (kCaught M) (eCall (F_guard M) (aCons (eV 0) aNil))) aNil) [some (.sh d), none] b = .ok (.lst [e]) b := by
      generalize eTold (kCaught M) (eCall (F_guard M) (aCons (eV 0) aNil)) = T at t
      simp only [eLst, aCons, t, bind_ok_, aNil]
      rfl
    rw [this]
    rfl
  have st : ∀ (n : Nat) (F : DFn), n ≤ 100 → F ∈ [F_guard M, F_hope M, F_opposite M, F_recoloured M, F_is_guard M, F_is_hope M, F_is_promise M, F_is_duty M, F_comes_again M, F_does_stay M, F_depth M] →
      sPush 1 (eTold (kCaught M) (eCall F (aCons (eV 0) aNil))) (ePr d e n) b = .nx (ePr d e (n + 1)) b ∧ sPush 1 (eTold (kCaught M) (eCallK 1 F (pick [0]) (aCons (eV 0) aNil))) (ePr d e n) b = .nx (ePr d e (n + 1)) b := fun n F hn hF =>
    ⟨push_told hn (h F hF _ _ (call_ex rfl rfl)), push_told hn (h F hF _ _ (callK_ex rfl rfl))⟩
  rw [lp_def]
  simp only [runD, List.length_cons, List.length_nil, if_true, hst]
  unfold lp
  rw [seq_step r0, seq_step (show lp_1 M (ePr d e 1) b = .nx (ePr d e 2) b from (st 1 (F_hope M) (by decide) (by simp)).2), seq_step (show lp_2 M (ePr d e 2) b = .nx (ePr d e 3) b from (st 2 (F_opposite M) (by decide) (by simp)).1), seq_step (show lp_3 M (ePr d e 3) b = .nx (ePr d e 4) b from (st 3 (F_recoloured M) (by decide) (by simp)).2), seq_step (show lp_4 M (ePr d e 4) b = .nx (ePr d e 5) b from (st 4 (F_is_guard M) (by decide) (by simp)).1), seq_step (show lp_5 M (ePr d e 5) b = .nx (ePr d e 6) b from (st 5 (F_is_hope M) (by decide) (by simp)).2), seq_step (show lp_6 M (ePr d e 6) b = .nx (ePr d e 7) b from (st 6 (F_is_promise M) (by decide) (by simp)).1), seq_step (show lp_7 M (ePr d e 7) b = .nx (ePr d e 8) b from (st 7 (F_is_duty M) (by decide) (by simp)).2), seq_step (show lp_8 M (ePr d e 8) b = .nx (ePr d e 9) b from (st 8 (F_comes_again M) (by decide) (by simp)).1), seq_step (show lp_9 M (ePr d e 9) b = .nx (ePr d e 10) b from (st 9 (F_does_stay M) (by decide) (by simp)).2), seq_step (show lp_10 M (ePr d e 10) b = .nx (ePr d e 11) b from (st 10 (F_depth M) (by decide) (by simp)).1)]
  rfl
theorem parts_bad {M : Addr} {d : D} (hd : NoM M d) {z : Str} (hz : reprA [d] = some (.str z)) (b : Bag) : F__law_of_parts M [d] b = .ok (.lst (List.replicate 11 (.lst [.str "NotAMachine", .str z]))) b := by
  have ag : F_comes_again M [d] b = .ex "NotAMachine" ["given"] [d] b := first_bad rfl rfl rfl hd b
  have key : ∀ F ∈ [F_guard M, F_hope M, F_opposite M, F_recoloured M, F_is_guard M, F_is_hope M, F_is_promise M, F_is_duty M, F_comes_again M, F_does_stay M, F_depth M], F [d] b = .ex "NotAMachine" ["given"] [d] b := fun F hF => by
    simp only [List.mem_cons, List.not_mem_nil, or_false] at hF
    rcases hF with rfl | rfl | rfl | rfl | rfl | rfl | rfl | rfl | rfl | rfl | rfl
    · exact first_bad rfl rfl rfl hd b
    · exact first_bad rfl rfl rfl hd b
    · exact first_bad rfl rfl rfl hd b
    · exact first_bad rfl rfl rfl hd b
    · exact first_bad rfl rfl rfl hd b
    · exact first_bad rfl rfl rfl hd b
    · exact first_bad rfl rfl rfl hd b
    · have c : eCall (F_comes_again M) (aCons (eV 0) aNil) (startE 1 [d]) b = .ex "NotAMachine" ["given"] [d] b := call_ex rfl ag
      show (runD 1 1 (sRet (eAnd (eCall (F_comes_again M) (aCons (eV 0) aNil)) (eCall (F_does_stay M) (aCons (eV 0) aNil)))) [d] b) = _
      unfold runD sRet eAnd
      simp only [List.length_cons, List.length_nil, if_true]
      rw [c]
      rfl
    · exact ag
    · exact first_bad rfl rfl rfl hd b
    · exact first_bad rfl rfl rfl hd b
  exact parts_told fun F hF C ρ hC => told_bad (.inl rfl) (hC.trans (key F hF)) hz
theorem parts_good (M : Addr) {x : Str} {rs : List Row} (hx : x ∈ sgs) (hr : RowsOk x.length rs) (b : Bag) : F__law_of_parts M [machD M x rs] b = .ok (.lst (List.replicate 11 (.lst []))) b := by
  have l2 := (sg_len hx).2
  have lx : x.length ≤ 100 := by omega
  have key : ∀ F ∈ [F_guard M, F_hope M, F_opposite M, F_recoloured M, F_is_guard M, F_is_hope M, F_is_promise M, F_is_duty M, F_comes_again M, F_does_stay M, F_depth M], ∃ d, F [machD M x rs] b = .ok d b := fun F hF => by
    simp only [List.mem_cons, List.not_mem_nil, or_false] at hF
    rcases hF with rfl | rfl | rfl | rfl | rfl | rfl | rfl | rfl | rfl | rfl | rfl
    · obtain ⟨f, _, h, _⟩ := guard_ok' M hx hr b; exact ⟨_, h⟩
    · exact ⟨_, hope_ok' M hx hr b⟩
    · obtain ⟨f, h, _⟩ := opposite_ok M hx hr b; exact ⟨_, h⟩
    · obtain ⟨re, f, h, _⟩ := recoloured_ok M hx hr b; exact ⟨_, h⟩
    · exact ⟨_, guard_ok M hr lx b⟩
    · exact ⟨_, hope_ok M hr lx b⟩
    · exact ⟨_, promise_ok M hr lx b⟩
    · exact ⟨_, duty_ok M hr lx b⟩
    · exact ⟨_, again_ok2 M hr lx b⟩
    · exact ⟨_, stay_ok2 M hr lx b⟩
    · obtain ⟨d, h, _⟩ := depth_ok M hx hr b; exact ⟨_, h⟩
  exact parts_told fun F hF C ρ hC => by
    obtain ⟨d, hd⟩ := key F hF
    exact told_ok (hC.trans hd)
end DL

set_option maxHeartbeats 1000000

set_option maxHeartbeats 1000000

set_option maxHeartbeats 1000000

set_option maxHeartbeats 1000000

set_option maxHeartbeats 1000000

set_option maxHeartbeats 1000000

set_option maxHeartbeats 1000000

set_option maxHeartbeats 1000000

set_option maxHeartbeats 1000000

set_option maxHeartbeats 1000000

set_option maxHeartbeats 1000000

set_option maxHeartbeats 1000000

set_option maxHeartbeats 1000000

set_option maxHeartbeats 1000000
namespace DL
open PySem PySem.Spec PyProof.Rows L2
instance (x w : Str) : Decidable (Wd x w) := inferInstanceAs (Decidable (∀ c ∈ w.cps.toList, c ∈ x.cps.toList))
end DL

set_option maxHeartbeats 1000000
namespace DL
open PySem PySem.Spec PyProof.Rows L2
theorem RowsT.rows {k : Nat} {rs : List Row} (h : RowsT k 6 rs) : RowsOk k rs := ⟨h.n0, h.n1, fun r hr => by
  obtain ⟨a, b, c, d⟩ := h.ok r hr
  exact ⟨a, b, c, d⟩⟩
theorem RowsT.set {k : Nat} {T : Int} {rs : List Row} (h : RowsT k T rs) (j : Nat) {r : Row} (h0 : 0 ≤ r.1) (h1 : r.1 ≤ T) (h2 : r.2.length = k) (h3 : ∀ g ∈ r.2, 0 ≤ g ∧ g < rs.length) : RowsT k T (rs.set j r) := by
  refine ⟨by rw [List.length_set]; exact h.n0, by rw [List.length_set]; exact h.n1, fun q hq => ?_⟩
  rw [List.length_set]
  rcases List.mem_or_eq_of_mem_set hq with hq | rfl
  · exact h.ok q hq
  · exact ⟨h0, h1, h2, h3⟩
end DL

set_option maxHeartbeats 1000000

set_option maxHeartbeats 1000000

set_option maxHeartbeats 1000000

set_option maxHeartbeats 1000000
namespace DL
open PySem PySem.Spec PyProof.Rows L2
theorem acons_ok {F : EF} {G : AF} {ρ : Env} {b : Bag} {d : D} {ds : List D} (u : F ρ b = .ok d b) (v : G ρ b = .ok ds b) : aCons F G ρ b = .ok (d :: ds) b := by
  simp only [aCons, u, v, bind_ok_]
theorem call1 {Fn : DFn} {F : EF} {ρ : Env} {b b' : Bag} {d z : D} (u : F ρ b = .ok d b) (h : Fn [d] b = .ok z b') : eCall Fn (aCons F aNil) ρ b = .ok z b' := by
  simp only [eCall, aCons, u, bind_ok_, aNil, h]
theorem call2 {Fn : DFn} {F G : EF} {ρ : Env} {b b' : Bag} {d g z : D} (u : F ρ b = .ok d b) (v : G ρ b = .ok g b) (h : Fn [d, g] b = .ok z b') : eCall Fn (aCons F (aCons G aNil)) ρ b = .ok z b' := by
  simp only [eCall, aCons, u, v, bind_ok_, aNil, h]
theorem lst2 {F G : EF} {ρ : Env} {b : Bag} {d g : D} (u : F ρ b = .ok d b) (v : G ρ b = .ok g b) : eLst (aCons F (aCons G aNil)) ρ b = .ok (.lst [d, g]) b := by
  simp only [eLst, aCons, u, v, bind_ok_, aNil]
  rfl
theorem asg_ok {F : EF} {ρ ρ' : Env} {b b' : Bag} {d : D} {i : Nat} (h : F ρ b = .ok d b') (e : ρ.set i (some (.sh d)) = ρ') : sAsg F (gN i) ρ b = .nx ρ' b' := by
  subst e
  simp only [sAsg, h, st_ok_]
  rfl
theorem rep1 {f : List D → Option D} {F : EF} {ρ : Env} {b : Bag} {d : D} {z : D} (u : F ρ b = .ok d b) (h : f [d] = some z) : eB f (aCons F aNil) ρ b = .ok z b := by
  simp only [eB, aCons, u, bind_ok_, aNil, h, pureO_some_]

end DL

set_option maxHeartbeats 1000000
namespace DL
open PySem PySem.Spec PyProof.Rows L2
def lr_0 (M : Addr) : SF := (sAsg (eCall (F__law_made M) (aCons (eCall (F__law_tool) (aCons (eV 0) (aCons (eCall (F__law_pick) (aCons (eV 0) (aCons (eLst (aCons (eC (.str "a")) (aCons (eC (.str "ab")) (aCons (eC (.str "abc")) aNil)))) aNil))) (aCons (eC (.int 5)) (aCons (eC (.int 6)) aNil))))) aNil)) (gN 1))
def lr_1 (M : Addr) : SF := (sAsg (eLst (aCons (eC .non) (aCons (eC (.int 0)) (aCons (eC (.bl true)) (aCons (eC (.str "machine a")) (aCons (eStrO M (F_Machine_str_ M) (aCons (eV 1) aNil)) (aCons (eTup aNil) (aCons (eLst aNil) (aCons eDnew (aCons (e1 (fldF M "_states") (eV 1)) (aCons (e1 (fldF M "_letters") (eV 1)) aNil))))))))))) (gN 2))
def lr_2b_0 (M : Addr) : SF := (sAsg (eIf (bB (eB (isiF (.ref M) kitM (ownM M)) (aCons (eV 7) (aCons (eC (.obj (.ref M))) aNil)))) (eLst aNil) (eLst (aCons (eC (.str "NotAMachine")) (aCons (eB reprA (aCons (eV 7) aNil)) aNil)))) (gN 3))
def lr_2b_1 (M : Addr) : SF := (sIf (bB (e2 neF (eCall (F__law_of_parts M) (aCons (eV 7) aNil)) (e2 mulF (eLst (aCons (eV 3) aNil)) (eC (.int 11))))) (sRet (eC (.bl false))) sNil)
def lr_2b_2b_0 (M : Addr) : SF := (sAsg (eAnd (eB (isiF (.ty "str") (fun n => kitB n "str") (ownB M)) (aCons (eV 8) (aCons (eC (.obj (.ty "str"))) aNil))) (e2 inQ (eV 8) (eLst (aCons (eC (.str "again")) (aCons (eC (.str "stays")) aNil))))) (gN 4))
def lr_2b_2b_1 (M : Addr) : SF := (sAsg (eCall (F__law_first) (aCons (eLst (aCons (eV 3) (aCons (eIf (bB (eV 4)) (eLst aNil) (eLst (aCons (eC (.str "InvalidVerdict")) (aCons (eB reprA (aCons (eV 8) aNil)) aNil)))) aNil))) aNil)) (gN 5))
def lr_2b_2b_2 (M : Addr) : SF := (sOwn (eLst (aCons (eTold (kCaught M) (eCall (F_turning M) (aCons (eV 7) (aCons (eV 8) aNil)))) aNil)) 6)
def lr_2b_2b_3 (M : Addr) : SF := (sPush 6 (eTold (kCaught M) (eCallK 2 (F_turning M) (pick [1, 0]) (aCons (eV 8) (aCons (eV 7) aNil)))))
def lr_2b_2b_4 (M : Addr) : SF := (sFreeze 6 (sIf (bB (e2 neF (eV 6) (eLst (aCons (eV 5) (aCons (eV 5) aNil))))) (sRet (eC (.bl false))) sNil))
def lr_2b_2b (M : Addr) : SF := (sSeq (lr_2b_2b_0 M) (sSeq (lr_2b_2b_1 M) (sSeq (lr_2b_2b_2 M) (sSeq (lr_2b_2b_3 M) (lr_2b_2b_4 M)))))
def lr_2b_2 (M : Addr) : SF := (sFor (aAny (eLst (aCons (eC (.str "again")) (aCons (eC (.str "stays")) (aCons (eC (.str "Again")) (aCons (eC (.str "")) (aCons (eC (.str "bad")) (aCons (eC .non) (aCons (eC (.int 0)) (aCons (eC (.bl true)) (aCons (eTup (aCons (eC (.str "again")) aNil)) (aCons (eLst aNil) (aCons eDnew aNil))))))))))))) (gN 8) (lr_2b_2b M))
def lr_2b (M : Addr) : SF := (sSeq (lr_2b_0 M) (sSeq (lr_2b_1 M) (lr_2b_2 M)))
def lr_2 (M : Addr) : SF := (sFor (aAny (e2 addF (eLst (aCons (eV 1) aNil)) (eV 2))) (gN 7) (lr_2b M))
def lr_3 (M : Addr) : SF := (sRet (eC (.bl true)))
def lr (M : Addr) : SF := (sSeq (lr_0 M) (sSeq (lr_1 M) (sSeq (lr_2 M) (lr_3 M))))

theorem lr_def (M : Addr) : F__law_right M = runD 9 1 (lr M) := rfl
theorem tst35 {F : EF} {ρ : Env} {b b' : Bag} {c : Bool} (u : F ρ b = .ok (.bl c) b') : bB F ρ b = .ok c b' := by
  simp only [bB, u, bind_ok_]
theorem op35 {f : D → D → Option D} {F G : EF} {ρ : Env} {b b1 b2 : Bag} {d g z : D} (u : F ρ b = .ok d b1) (v : G ρ b1 = .ok g b2) (h : f d g = some z) : e2 f F G ρ b = .ok z b2 := by
  simp only [e2, u, v, bind_ok_, h, pureO_some_]
def w35 : List (D × Option Str) := [(.str "again", none), (.str "stays", none), (.str "Again", some "'Again'"), (.str "", some "''"), (.str "bad", some "'bad'"), (.non, some "None"), (.int 0, some "0"), (.bl true, some "True"), (.tup [.str "again"], some "('again',)"), (.lst [], some "[]"), (.dct [] [], some "{}")]
def eE (n : Str) : Option Str → D
  | none => .lst []
  | some z => .lst [.str n, .str z]
theorem rep_w : ∀ p ∈ w35, ∀ z, p.2 = some z → reprA [p.1] = some (.str z) ∧ PyData.strOk z = true := fun p hp z hz => by
  simp only [w35, List.mem_cons, List.not_mem_nil, or_false] at hp
  rcases hp with rfl | rfl | rfl | rfl | rfl | rfl | rfl | rfl | rfl | rfl | rfl
  all_goals first
    | (cases hz; done)
    | (cases hz; exact ⟨by kernel_rfl, by kernel_rfl⟩)
def isS (d : D) : Bool := match d with
  | .str _ => true
  | _ => false
theorem isi_w (M : Addr) : ∀ p ∈ w35, isiF (.ty "str") (fun n => kitB n "str") (ownB M) [p.1, .obj (.ty "str")] = some (.bl (isS p.1)) := fun p hp => by
  simp only [w35, List.mem_cons, List.not_mem_nil, or_false] at hp
  rcases hp with rfl | rfl | rfl | rfl | rfl | rfl | rfl | rfl | rfl | rfl | rfl
  all_goals kernel_rfl
theorem in_w : ∀ p ∈ w35, isS p.1 = true → inQ p.1 (.lst [.str "again", .str "stays"]) = some (.bl p.2.isNone) ∧ ninQ p.1 (.tup [.str "again", .str "stays"]) = some (.bl p.2.isSome) := fun p hp => by
  simp only [w35, List.mem_cons, List.not_mem_nil, or_false] at hp
  rcases hp with rfl | rfl | rfl | rfl | rfl | rfl | rfl | rfl | rfl | rfl | rfl
  all_goals
    intro h
    first
    | (cases h; done)
    | exact ⟨by kernel_rfl, by kernel_rfl⟩
theorem no_w : ∀ p ∈ w35, isS p.1 = false → p.2.isNone = false := fun p hp => by
  simp only [w35, List.mem_cons, List.not_mem_nil, or_false] at hp
  rcases hp with rfl | rfl | rfl | rfl | rfl | rfl | rfl | rfl | rfl | rfl | rfl
  all_goals first
    | exact fun _ => rfl
    | exact fun h => (by cases h)
theorem good_w : ∀ p ∈ w35, p.2 = none → p.1 = .str "again" ∨ p.1 = .str "stays" := fun p hp => by
  simp only [w35, List.mem_cons, List.not_mem_nil, or_false] at hp
  rcases hp with rfl | rfl | rfl | rfl | rfl | rfl | rfl | rfl | rfl | rfl | rfl
  all_goals first
    | exact fun _ => .inl rfl
    | exact fun _ => .inr rfl
    | exact fun h => (by cases h)
theorem wanted_bad (M : Addr) {p : D × Option Str} (hp : p ∈ w35) {z : Str} (hz : p.2 = some z) (b : Bag) : F_check_wanted M [p.1, .tup [.str "again", .str "stays"]] b = .ex "InvalidVerdict" ["given"] [p.1] b := by
  have h1 := isi_w M p hp
  unfold F_check_wanted G_check_wanted
  cases hs : isS p.1 with
  | false =>
    rw [hs] at h1
    simp [h1, sRaise]
    rfl
  | true =>
    have h2 := (in_w p hp hs).2
    rw [hs] at h1
    rw [hz] at h2
    let E : Env := [some (.sh p.1), some (.sh (.tup [.str "again", .str "stays"]))]
    have t1 : bB (eB (isiF (.ty "str") (fun n => kitB n "str") (ownB M)) (aCons (eV 0) (aCons (eC (.obj (.ty "str"))) aNil))) E b = .ok true b := tst35 (by
      have v : aCons (eV 0) (aCons (eC (.obj (.ty "str"))) aNil) E b = .ok [p.1, .obj (.ty "str")] b := rfl
      unfold eB
      rw [v, bind_ok_, h1]
      rfl)
    have t2 : bB (e2 ninQ (eV 0) (eV 1)) E b = .ok true b := tst35 (op35 (f := ninQ) (show eV 0 E b = .ok p.1 b from rfl) (show eV 1 E b = .ok (.tup [.str "again", .str "stays"]) b from rfl) h2)
    show (sIf (bOr (bNot (bB (eB (isiF (.ty "str") (fun n => kitB n "str") (ownB M)) (aCons (eV 0) (aCons (eC (.obj (.ty "str"))) aNil))))) (bB (e2 ninQ (eV 0) (eV 1)))) (sRaise "InvalidVerdict" "given" (eV 0)) sNil E b).out = _
    generalize bB (eB (isiF (.ty "str") (fun n => kitB n "str") (ownB M)) (aCons (eV 0) (aCons (eC (.obj (.ty "str"))) aNil))) = B1 at t1
    generalize bB (e2 ninQ (eV 0) (eV 1)) = B2 at t2
    simp only [sIf, bOr, bNot, t1, t2, bind_ok_, st_ok_]
    rfl
/-- a head: the machine, or something else with its repr -/
def HdOk (M : Addr) (x : Str) (rs : List Row) (p : D × Option Str) : Prop := match p.2 with
  | none => p.1 = machD M x rs
  | some z => NoM M p.1 ∧ reprA [p.1] = some (.str z) ∧ PyData.strOk z = true
section
variable (M : Addr) {x : Str} {rs : List Row} (hx : x ∈ sgs) (hr : RowsOk x.length rs)
include hx hr
/-- what is due of a head and a word -/
def due35 (o ow : Option Str) : D := match o with
  | some z => .lst [.str "NotAMachine", .str z]
  | none => eE "InvalidVerdict" ow
omit hx hr in
theorem due_fit {o ow : Option Str} (h : ∀ z, o = some z → PyData.strOk z = true) (hw : ∀ z, ow = some z → PyData.strOk z = true) : Fit (due35 o ow) := by
  cases o with
  | some z => exact fit_two (by kernel_rfl) (h z rfl)
  | none =>
    cases ow with
    | none => exact fit_nil
    | some z => exact fit_two (by kernel_rfl) (hw z rfl)
theorem turn_told {p q : D × Option Str} (hp : HdOk M x rs p) (hq : q ∈ w35) (b : Bag) (C : EF) (ρ : Env) (hC : C ρ b = F_turning M [p.1, q.1] b) : eTold (kCaught M) C ρ b = .ok (due35 p.2 q.2) b := by
  obtain ⟨d, o⟩ := p
  obtain ⟨w, ow⟩ := q
  cases o with
  | some z =>
    obtain ⟨h1, h2, _⟩ := hp
    exact told_bad (.inl rfl) (hC.trans (first_bad rfl rfl rfl h1 b)) h2
  | none =>
    have hd : d = machD M x rs := hp
    subst hd
    cases ow with
    | some z =>
      have hw := wanted_bad M hq rfl b
      have hc := check_ok M x rs b
      have hz := (rep_w _ hq z rfl).1
      refine told_bad (c := "InvalidVerdict") (d := w) (z := z) (.inr rfl) (hC.trans ?_) hz
      show F_turning M [machD M x rs, w] b = _
      unfold F_turning G_turning
      unfold machD at hc ⊢
      simp [hc, hw]
      rfl
    | none =>
      rcases good_w _ hq rfl with h | h
      · have h : w = .str "again" := h
        subst h
        rcases turning_ok M hx hr "again" 0 1 (.inl ⟨rfl, rfl, rfl⟩) b with ⟨_, e⟩ | ⟨_, _, _, _, _, _, e, _⟩
        · exact told_ok (hC.trans e)
        · exact told_ok (hC.trans e)
      · have h : w = .str "stays" := h
        subst h
        rcases turning_ok M hx hr "stays" 1 0 (.inr ⟨rfl, rfl, rfl⟩) b with ⟨_, e⟩ | ⟨_, _, _, _, _, _, e, _⟩
        · exact told_ok (hC.trans e)
        · exact told_ok (hC.trans e)
omit hx hr in
theorem first35 {o ow : Option Str} (h : ∀ z, o = some z → PyData.strOk z = true) (hw : ∀ z, ow = some z → PyData.strOk z = true) (b : Bag) : F__law_first [.lst [eE "NotAMachine" o, eE "InvalidVerdict" ow]] b = .ok (due35 o ow) b := by
  have n0 := neF_nil2
  unfold F__law_first G__law_first
  cases o with
  | none =>
    cases ow with
    | none =>
      simp [eE, due35, n0, eLc, lcD]
      try rfl
    | some y =>
      have n1 := neF_two (x := "InvalidVerdict") (y := y) (by kernel_rfl) (hw y rfl)
      simp [eE, due35, n0, n1, eLc, lcD]
      try rfl
  | some z =>
    have n2 := neF_two (x := "NotAMachine") (y := z) (by kernel_rfl) (h z rfl)
    cases ow with
    | none =>
      simp [eE, due35, n0, n2, eLc, lcD]
      try rfl
    | some y =>
      have n1 := neF_two (x := "InvalidVerdict") (y := y) (by kernel_rfl) (hw y rfl)
      simp [eE, due35, n0, n1, n2, eLc, lcD]
      try rfl
end
end DL

set_option maxHeartbeats 1000000
namespace DL
open PySem PySem.Spec PyProof.Rows L2
abbrev e35 (m od : D) (f g du tl h w : Option D) : Env := [some (.sh .bag), some (.sh m), some (.sh od), f.map SD.sh, g.map SD.sh, du.map SD.sh, tl.map SD.sh, h.map SD.sh, w.map SD.sh]
section
variable (M : Addr) {x : Str} {rs : List Row} (hx : x ∈ sgs) (hr : RowsOk x.length rs)
include hx hr
theorem hd_str {p : D × Option Str} (hp : HdOk M x rs p) : ∀ z, p.2 = some z → PyData.strOk z = true := fun z hz => by
  unfold HdOk at hp
  rw [hz] at hp
  exact hp.2.2
theorem word_one (m od : D) {p q : D × Option Str} (hp : HdOk M x rs p) (hq : q ∈ w35) (g du tl : Option D) (b : Bag) : ∃ g' du' tl', lr_2b_2b M (e35 m od (some (eE "NotAMachine" p.2)) g du tl (some p.1) (some q.1)) b = .nx (e35 m od (some (eE "NotAMachine" p.2)) g' du' tl' (some p.1) (some q.1)) b := by
  have hs := hd_str M hx hr hp
  have hw : ∀ z, q.2 = some z → PyData.strOk z = true := fun z hz => (rep_w q hq z hz).2
  let e := due35 p.2 q.2
  have hf := due_fit hs hw
  let E0 := e35 m od (some (eE "NotAMachine" p.2)) g du tl (some p.1) (some q.1)
  let E1 := e35 m od (some (eE "NotAMachine" p.2)) (some (.bl q.2.isNone)) du tl (some p.1) (some q.1)
  let E2 := e35 m od (some (eE "NotAMachine" p.2)) (some (.bl q.2.isNone)) (some e) tl (some p.1) (some q.1)
  let E3 : D → Env := fun l => [some (.sh .bag), some (.sh m), some (.sh od), some (.sh (eE "NotAMachine" p.2)), some (.sh (.bl q.2.isNone)), some (.sh e), some (.ow l), some (.sh p.1), some (.sh q.1)]
  let E4 := e35 m od (some (eE "NotAMachine" p.2)) (some (.bl q.2.isNone)) (some e) (some (.lst [e, e])) (some p.1) (some q.1)
  have s0 : lr_2b_2b_0 M E0 b = .nx E1 b := by
    have v : eB (isiF (.ty "str") (fun n => kitB n "str") (ownB M)) (aCons (eV 8) (aCons (eC (.obj (.ty "str"))) aNil)) E0 b = .ok (.bl (isS q.1)) b := by
      have v1 : aCons (eV 8) (aCons (eC (.obj (.ty "str"))) aNil) E0 b = .ok [q.1, .obj (.ty "str")] b := rfl
      unfold eB
      rw [v1, bind_ok_, isi_w M q hq]
      rfl
    refine asg_ok (d := .bl q.2.isNone) ?_ rfl
    cases h : isS q.1 with
    | true =>
      have h2 := (in_w q hq h).1
      have v2 : e2 inQ (eV 8) (eLst (aCons (eC (.str "again")) (aCons (eC (.str "stays")) aNil))) E0 b = .ok (.bl q.2.isNone) b := op35 (f := inQ) (show eV 8 E0 b = .ok q.1 b from rfl) (show eLst (aCons (eC (.str "again")) (aCons (eC (.str "stays")) aNil)) E0 b = .ok (.lst [.str "again", .str "stays"]) b from rfl) h2
      rw [h] at v
      generalize eB (isiF (.ty "str") (fun n => kitB n "str") (ownB M)) (aCons (eV 8) (aCons (eC (.obj (.ty "str"))) aNil)) = B1 at v
      generalize e2 inQ (eV 8) (eLst (aCons (eC (.str "again")) (aCons (eC (.str "stays")) aNil))) = B2 at v2
      show eAnd B1 B2 E0 b = _
      simp only [eAnd, v, bind_ok_, if_true]
      exact v2
    | false =>
      rw [h] at v
      generalize eB (isiF (.ty "str") (fun n => kitB n "str") (ownB M)) (aCons (eV 8) (aCons (eC (.obj (.ty "str"))) aNil)) = B1 at v
      show eAnd B1 _ E0 b = _
      simp only [eAnd, v, bind_ok_]
      rw [no_w q hq h]
      rfl
  have s1 : lr_2b_2b_1 M E1 b = .nx E2 b := by
    have v4 : bB (eV 4) E1 b = .ok q.2.isNone b := tst35 rfl
    have vi : eIf (bB (eV 4)) (eLst aNil) (eLst (aCons (eC (.str "InvalidVerdict")) (aCons (eB reprA (aCons (eV 8) aNil)) aNil))) E1 b = .ok (eE "InvalidVerdict" q.2) b := by
      unfold eIf
      rw [v4, bind_ok_]
      cases hq2 : q.2 with
      | none => rfl
      | some z =>
        have vr : eB reprA (aCons (eV 8) aNil) E1 b = .ok (.str z) b := rep1 (d := q.1) rfl (rep_w q hq z hq2).1
        show eLst (aCons (eC (.str "InvalidVerdict")) (aCons (eB reprA (aCons (eV 8) aNil)) aNil)) E1 b = _
        exact lst2 (show eC (.str "InvalidVerdict") E1 b = .ok (.str "InvalidVerdict") b from rfl) vr
    have vl := lst2 (show eV 3 E1 b = .ok (eE "NotAMachine" p.2) b from rfl) vi
    exact asg_ok (call1 vl (first35 hs hw b)) rfl
  have t1 : eTold (kCaught M) (eCall (F_turning M) (aCons (eV 7) (aCons (eV 8) aNil))) E2 b = .ok e b := turn_told M hx hr hp hq b _ _ rfl
  have s2 : lr_2b_2b_2 M E2 b = .nx (E3 (.lst [e])) b := by
    unfold lr_2b_2b_2 sOwn
    have : eLst (aCons (eTold (kCaught M) (eCall (F_turning M) (aCons (eV 7) (aCons (eV 8) aNil)))) aNil) E2 b = .ok (.lst [e]) b := by
      generalize eTold (kCaught M) (eCall (F_turning M) (aCons (eV 7) (aCons (eV 8) aNil))) = T at t1
      simp only [eLst, aCons, t1, bind_ok_, aNil]
      rfl
    rw [this]
    rfl
  have t2 : eTold (kCaught M) (eCallK 2 (F_turning M) (pick [1, 0]) (aCons (eV 8) (aCons (eV 7) aNil))) (E3 (.lst [e])) b = .ok e b := turn_told M hx hr hp hq b _ _ rfl
  have s3 : lr_2b_2b_3 M (E3 (.lst [e])) b = .nx (E3 (.lst [e, e])) b := by
    unfold lr_2b_2b_3 sPush
    show (eTold (kCaught M) (eCallK 2 (F_turning M) (pick [1, 0]) (aCons (eV 8) (aCons (eV 7) aNil))) (E3 (.lst [e])) b).st _ _ = _
    rw [t2]
    rfl
  have s4 : lr_2b_2b_4 M (E3 (.lst [e, e])) b = .nx E4 b := by
    have v6 : eV 6 E4 b = .ok (.lst [e, e]) b := rfl
    have v5 : eV 5 E4 b = .ok e b := rfl
    have t : bB (e2 neF (eV 6) (eLst (aCons (eV 5) (aCons (eV 5) aNil)))) E4 b = .ok false b := tst35 (op35 (f := neF) v6 (lst2 v5 v5) (neF_fit hf 2))
    show sIf (bB (e2 neF (eV 6) (eLst (aCons (eV 5) (aCons (eV 5) aNil))))) (sRet (eC (.bl false))) sNil E4 b = _
    generalize bB (e2 neF (eV 6) (eLst (aCons (eV 5) (aCons (eV 5) aNil)))) = B at t
    simp only [sIf, t, st_ok_]
    rfl
  refine ⟨some (.bl q.2.isNone), some e, some (.lst [e, e]), ?_⟩
  unfold lr_2b_2b
  rw [seq_step s0, seq_step s1, seq_step s2, seq_step s3]
  exact s4
theorem word_loop (m od : D) {p : D × Option Str} (hp : HdOk M x rs p) (b : Bag) : ∀ (qs : List (D × Option Str)), (∀ q ∈ qs, q ∈ w35) → ∀ (g du tl w : Option D), ∃ g' du' tl' w', loopD (gN 8) (lr_2b_2b M) (qs.map (·.1)) (e35 m od (some (eE "NotAMachine" p.2)) g du tl (some p.1) w) b = .nx (e35 m od (some (eE "NotAMachine" p.2)) g' du' tl' (some p.1) w') b
  | [], _, g, du, tl, w => ⟨g, du, tl, w, rfl⟩
  | q :: qs, h, g, du, tl, w => by
    obtain ⟨g1, du1, tl1, h1⟩ := word_one M hx hr m od hp (h q List.mem_cons_self) g du tl b
    obtain ⟨g', du', tl', w', h2⟩ := word_loop m od hp b qs (fun q hq => h q (List.mem_cons_of_mem _ hq)) g1 du1 tl1 (some q.1)
    refine ⟨g', du', tl', w', ?_⟩
    rw [List.map_cons]
    unfold loopD
    rw [show gN 8 q.1 (e35 m od (some (eE "NotAMachine" p.2)) g du tl (some p.1) w) b = some (e35 m od (some (eE "NotAMachine" p.2)) g du tl (some p.1) (some q.1), b) from rfl]
    dsimp only
    rw [h1]
    exact h2
theorem head_one (m od : D) {p : D × Option Str} (hp : HdOk M x rs p) (f g du tl w : Option D) (b : Bag) : ∃ f' g' du' tl' w', lr_2b M (e35 m od f g du tl (some p.1) w) b = .nx (e35 m od f' g' du' tl' (some p.1) w') b := by
  have hs := hd_str M hx hr hp
  let E0 := e35 m od f g du tl (some p.1) w
  let E1 := e35 m od (some (eE "NotAMachine" p.2)) g du tl (some p.1) w
  have hi : isiF (.ref M) kitM (ownM M) [p.1, .obj (.ref M)] = some (.bl p.2.isNone) := by
    obtain ⟨d, o⟩ := p
    cases o with
    | none =>
      have hd : d = machD M x rs := hp
      subst hd
      exact isi_M M x rs
    | some z => exact hp.1
  have s0 : lr_2b_0 M E0 b = .nx E1 b := by
    have t : bB (eB (isiF (.ref M) kitM (ownM M)) (aCons (eV 7) (aCons (eC (.obj (.ref M))) aNil))) E0 b = .ok p.2.isNone b := tst35 (by
      have v1 : aCons (eV 7) (aCons (eC (.obj (.ref M))) aNil) E0 b = .ok [p.1, .obj (.ref M)] b := rfl
      unfold eB
      rw [v1, bind_ok_, hi]
      rfl)
    refine asg_ok (d := eE "NotAMachine" p.2) ?_ rfl
    unfold eIf
    rw [t, bind_ok_]
    cases ho : p.2 with
    | none => rfl
    | some z =>
      have hz : reprA [p.1] = some (.str z) := by
        unfold HdOk at hp
        rw [ho] at hp
        exact hp.2.1
      have vr : eB reprA (aCons (eV 7) aNil) E0 b = .ok (.str z) b := rep1 (d := p.1) rfl hz
      show eLst (aCons (eC (.str "NotAMachine")) (aCons (eB reprA (aCons (eV 7) aNil)) aNil)) E0 b = _
      exact lst2 (show eC (.str "NotAMachine") E0 b = .ok (.str "NotAMachine") b from rfl) vr
  have hf : Fit (eE "NotAMachine" p.2) := by
    cases ho : p.2 with
    | none => exact fit_nil
    | some z => exact fit_two (by kernel_rfl) (hs z ho)
  have hparts : F__law_of_parts M [p.1] b = .ok (.lst (List.replicate 11 (eE "NotAMachine" p.2))) b := by
    obtain ⟨d, o⟩ := p
    cases o with
    | none =>
      have hd : d = machD M x rs := hp
      subst hd
      exact parts_good M hx hr b
    | some z => exact parts_bad hp.1 hp.2.1 b
  have s1 : lr_2b_1 M E1 b = .nx E1 b := by
    have v1 : eCall (F__law_of_parts M) (aCons (eV 7) aNil) E1 b = .ok (.lst (List.replicate 11 (eE "NotAMachine" p.2))) b := call1 (d := p.1) rfl hparts
    have v2 : e2 mulF (eLst (aCons (eV 3) aNil)) (eC (.int 11)) E1 b = .ok (.lst (List.replicate 11 (eE "NotAMachine" p.2))) b := op35 (f := mulF) (show eLst (aCons (eV 3) aNil) E1 b = .ok (.lst [eE "NotAMachine" p.2]) b from rfl) (show eC (.int 11) E1 b = .ok (.int 11) b from rfl) rfl
    have t : bB (e2 neF (eCall (F__law_of_parts M) (aCons (eV 7) aNil)) (e2 mulF (eLst (aCons (eV 3) aNil)) (eC (.int 11)))) E1 b = .ok false b := tst35 (op35 (f := neF) v1 v2 (neF_fit hf 11))
    unfold lr_2b_1
    generalize bB (e2 neF (eCall (F__law_of_parts M) (aCons (eV 7) aNil)) (e2 mulF (eLst (aCons (eV 3) aNil)) (eC (.int 11)))) = B at t
    simp only [sIf, t, st_ok_]
    rfl
  obtain ⟨g', du', tl', w', h2⟩ := word_loop M hx hr m od hp b w35 (fun q hq => hq) g du tl w
  have s2 : lr_2b_2 M E1 b = .nx (e35 m od (some (eE "NotAMachine" p.2)) g' du' tl' (some p.1) w') b := h2
  refine ⟨some (eE "NotAMachine" p.2), g', du', tl', w', ?_⟩
  unfold lr_2b
  rw [seq_step s0, seq_step s1]
  exact s2
theorem head_loop (m od : D) (b : Bag) : ∀ (ps : List (D × Option Str)), (∀ p ∈ ps, HdOk M x rs p) → ∀ (f g du tl h w : Option D), ∃ f' g' du' tl' h' w', loopD (gN 7) (lr_2b M) (ps.map (·.1)) (e35 m od f g du tl h w) b = .nx (e35 m od f' g' du' tl' h' w') b
  | [], _, f, g, du, tl, h, w => ⟨f, g, du, tl, h, w, rfl⟩
  | p :: ps, hp, f, g, du, tl, h, w => by
    obtain ⟨f1, g1, du1, tl1, w1, h1⟩ := head_one M hx hr m od (hp p List.mem_cons_self) f g du tl w b
    obtain ⟨f', g', du', tl', h', w', h2⟩ := head_loop m od b ps (fun p hm => hp p (List.mem_cons_of_mem _ hm)) f1 g1 du1 tl1 (some p.1) w1
    refine ⟨f', g', du', tl', h', w', ?_⟩
    rw [List.map_cons]
    unfold loopD
    rw [show gN 7 p.1 (e35 m od f g du tl h w) b = some (e35 m od f g du tl (some p.1) w, b) from rfl]
    dsimp only
    rw [h1]
    exact h2
end
theorem rep_txt {w : Str} (h : ∀ c ∈ w.cps.toList, c ∈ okC) (hl : 2 * w.length + 2 ≤ 1000000) : reprA [.str w] = some (.str (reprText w)) ∧ PyData.strOk (reprText w) = true := by
  obtain ⟨p, hp, sh⟩ := shB_strC h
  have e : p = .str w := by cases hp; rfl
  subst e
  have hln : (reprText w).length ≤ 2 * w.length + 2 := sh.ln
  exact ⟨if_pos (by omega), sh.ok⟩
theorem abc_sgs : ∀ y ∈ ([.str "a", .str "ab", .str "abc"] : List D), ∃ x : Str, y = .str x ∧ x ∈ sgs := by
  intro y hy
  simp only [List.mem_cons, List.not_mem_nil, or_false] at hy
  rcases hy with rfl | rfl | rfl
  · exact ⟨_, rfl, by decide +kernel⟩
  · exact ⟨_, rfl, by decide +kernel⟩
  · exact ⟨_, rfl, by decide +kernel⟩
theorem nom (M : Addr) {d : D} {n : String} (h : tyD d = some (.inl n)) (hk : kitM n = some false) : NoM M d := by
  show (if V.ref M = V.ref M then (match tyD d with
    | some (.inl n) => (kitM n).map D.bl
    | some (.inr A) => (ownM M A).map D.bl
    | none => none) else none) = _
  rw [if_pos rfl, h]
  show (kitM n).map D.bl = _
  rw [hk]
  rfl
theorem right35_ok (M : Addr) (b : Bag) : ∃ b', F__law_right M [.bag] b = .ok (.bl true) b' := by
  obtain ⟨dx, hdx, b1, h1⟩ := pick_ok b [.str "a", .str "ab", .str "abc"] (by simp) (by decide)
  obtain ⟨x, rfl, hx⟩ := abc_sgs dx hdx
  obtain ⟨rs, b2, h2, hr⟩ := tool_ok b1 hx (most := 5) (by decide) (by decide) (top := 6) (by decide) (by decide)
  have h2 : F__law_tool [.bag, .str x, .int 5, .int 6] b1 = .ok (toolD x rs) b2 := h2
  have h3 := made_ok M b2 hx hr
  have l2 := (sg_len hx).2
  have hp : (pageT x rs).length ≤ 300 := by
    unfold pageT
    rw [SX.S_len]
    exact page_len hx hr
  obtain ⟨z1, k1, o1⟩ := repr_ofT (ds := rs.map rowD) (shB_rows hr l2) (by decide) (by decide)
  obtain ⟨k2, o2⟩ := rep_txt (page_C hx hr) (by omega)
  obtain ⟨k3, o3⟩ := rep_txt (sg_C x hx) (by omega)
  let Od : List (D × Option Str) := [(.non, some "None"), (.int 0, some "0"), (.bl true, some "True"), (.str "machine a", some "'machine a'"), (.str (pageT x rs), some (reprText (pageT x rs))), (.tup [], some "()"), (.lst [], some "[]"), (.dct [] [], some "{}"), (rowsD rs, some z1), (.str x, some (reprText x))]
  let m := machD M x rs
  let od : D := .lst (Od.map (·.1))
  have hall : ∀ p ∈ (m, none) :: Od, HdOk M x rs p := fun p hm => by
    rcases List.mem_cons.mp hm with rfl | hm
    · rfl
    · simp only [Od, List.mem_cons, List.not_mem_nil, or_false] at hm
      rcases hm with rfl | rfl | rfl | rfl | rfl | rfl | rfl | rfl | rfl | rfl
      · exact ⟨nom M (n := "NoneType") rfl (by decide), by kernel_rfl, by kernel_rfl⟩
      · exact ⟨nom M (n := "int") rfl (by decide), by kernel_rfl, by kernel_rfl⟩
      · exact ⟨nom M (n := "bool") rfl (by decide), by kernel_rfl, by kernel_rfl⟩
      · exact ⟨nom M (n := "str") rfl (by decide), by kernel_rfl, by kernel_rfl⟩
      · exact ⟨nom M (n := "str") rfl (by decide), k2, o2⟩
      · exact ⟨nom M (n := "tuple") rfl (by decide), by kernel_rfl, by kernel_rfl⟩
      · exact ⟨nom M (n := "list") rfl (by decide), by kernel_rfl, by kernel_rfl⟩
      · exact ⟨nom M (n := "dict") rfl (by decide), by kernel_rfl, by kernel_rfl⟩
      · exact ⟨nom M (n := "tuple") rfl (by decide), k1, o1⟩
      · exact ⟨nom M (n := "str") rfl (by decide), k3, o3⟩
  have hst : startE 9 [D.bag] = [some (.sh .bag), none, none, none, none, none, none, none, none] := rfl
  let E0 : Env := [some (.sh .bag), none, none, none, none, none, none, none, none]
  let E1 : Env := [some (.sh .bag), some (.sh m), none, none, none, none, none, none, none]
  have r0 : lr_0 M E0 b = .nx E1 b2 := by
    have c1 : eCall (F__law_pick) (aCons (eV 0) (aCons (eLst (aCons (eC (.str "a")) (aCons (eC (.str "ab")) (aCons (eC (.str "abc")) aNil)))) aNil)) E0 b = .ok (.str x) b1 := call2 (d := .bag) (g := .lst [.str "a", .str "ab", .str "abc"]) rfl rfl h1
    have c2 : eCall (F__law_tool) (aCons (eV 0) (aCons (eCall (F__law_pick) (aCons (eV 0) (aCons (eLst (aCons (eC (.str "a")) (aCons (eC (.str "ab")) (aCons (eC (.str "abc")) aNil)))) aNil))) (aCons (eC (.int 5)) (aCons (eC (.int 6)) aNil)))) E0 b = .ok (toolD x rs) b2 := by
      have v0 : eV 0 E0 b = .ok .bag b := rfl
      generalize eCall (F__law_pick) (aCons (eV 0) (aCons (eLst (aCons (eC (.str "a")) (aCons (eC (.str "ab")) (aCons (eC (.str "abc")) aNil)))) aNil)) = G at c1
      unfold eCall
      simp only [aCons, v0, c1, eC, bind_ok_, aNil]
      exact h2
    refine asg_ok (d := m) ?_ rfl
    generalize eCall (F__law_tool) (aCons (eV 0) (aCons (eCall (F__law_pick) (aCons (eV 0) (aCons (eLst (aCons (eC (.str "a")) (aCons (eC (.str "ab")) (aCons (eC (.str "abc")) aNil)))) aNil))) (aCons (eC (.int 5)) (aCons (eC (.int 6)) aNil)))) = G at c2
    unfold eCall
    simp only [aCons, c2, bind_ok_, aNil]
    exact h3
  have r1 : lr_1 M E1 b2 = .nx (e35 m od none none none none none none) b2 := by
    have hfs : fldF M "_states" m = some (rowsD rs) := fld_s M x rs
    have hfl : fldF M "_letters" m = some (.str x) := fld_l M x rs
    have v1 : eV 1 E1 b2 = .ok m b2 := rfl
    have vs : eStrO M (F_Machine_str_ M) (aCons (eV 1) aNil) E1 b2 = .ok (.str (pageT x rs)) b2 := by
      have h := str_ok M hx hr b2
      unfold machD at h
      have v1' : eV 1 E1 b2 = .ok (.ins M ["_letters", "_states"] [.str x, rowsD rs]) b2 := rfl
      simp only [eStrO, aCons, v1', bind_ok_, aNil, if_true, h]
    have vst : e1 (fldF M "_states") (eV 1) E1 b2 = .ok (rowsD rs) b2 := by simp only [e1, v1, bind_ok_, hfs]; rfl
    have vlt : e1 (fldF M "_letters") (eV 1) E1 b2 = .ok (.str x) b2 := by simp only [e1, v1, bind_ok_, hfl]; rfl
    refine asg_ok (d := od) ?_ rfl
    have c : ∀ {F : EF} {G : AF} {d : D} {ds : List D}, F E1 b2 = .ok d b2 → G E1 b2 = .ok ds b2 → aCons F G E1 b2 = .ok (d :: ds) b2 := fun u v => acons_ok u v
    have hA := c (show eC .non E1 b2 = .ok .non b2 from rfl) (c (show eC (.int 0) E1 b2 = .ok (.int 0) b2 from rfl) (c (show eC (.bl true) E1 b2 = .ok (.bl true) b2 from rfl) (c (show eC (.str "machine a") E1 b2 = .ok (.str "machine a") b2 from rfl) (c vs (c (show eTup aNil E1 b2 = .ok (.tup []) b2 from rfl) (c (show eLst aNil E1 b2 = .ok (.lst []) b2 from rfl) (c (show eDnew E1 b2 = .ok (.dct [] []) b2 from rfl) (c vst (c vlt (show aNil E1 b2 = .ok [] b2 from rfl))))))))))
    exact (congrArg (fun o : Out (List D) => o.bind fun ds b' => if ds.length ≤ 100000 then Out.ok (D.lst ds) b' else Out.stuck) hA).trans rfl
  obtain ⟨f', g', du', tl', h', w', h4⟩ := head_loop M hx hr m od b2 ((m, none) :: Od) hall none none none none none none
  have r2 : lr_2 M (e35 m od none none none none none none) b2 = .nx (e35 m od f' g' du' tl' h' w') b2 := by
    have va : e2 addF (eLst (aCons (eV 1) aNil)) (eV 2) (e35 m od none none none none none none) b2 = .ok (.lst (m :: Od.map (·.1))) b2 := op35 (f := addF) (d := .lst [m]) (g := od) rfl rfl rfl
    unfold lr_2 sFor aAny
    rw [va]
    exact h4
  refine ⟨b2, ?_⟩
  rw [lr_def]
  simp only [runD, List.length_cons, List.length_nil, if_true, hst]
  unfold lr
  rw [seq_step r0, seq_step r1, seq_step r2]
  rfl
theorem m_law (M : Addr) (ns : List Int) (h : ns.length ≤ 63) : ∃ b', F_law M [.fl (ns.map D.int)] ⟨0, 0, 0⟩ = .ok (.bl true) b' :=
  law_for (F__law_right M) 6 (by decide) (by decide) (fun x y => right35_ok M _) ns h
end DL

set_option maxHeartbeats 0
open PySem PySem.W PySem.Calls PyProof.Rows
theorem PySem.Challenge.cw_guardhopes_k35_errors_of_kinds_and_parts_holds : PySem.Challenge.rw_guardhopes_k35_errors_of_kinds_and_parts.Holds := by
  w_on; o_law
  refine HandSHeadRun.head_any (r := OpenLaw.row PySem.Challenge.rw_guardhopes_k35_errors_of_kinds_and_parts) (q := view DL.R.prog [78]) (H := DL.hk) (ob := DL.ob) (M := 6000) (loose := DL.loose) (d := HandSHeadRun.topDef DL.R.prog 78) (kwd := []) DL.ob_eq
    (by kernel_rfl) (fun s => by kernel_rfl) DL.run (by kernel_rfl) (by kernel_rfl) (by kernel_rfl) (by rfl) (by first | assumption | decide +kernel) (by decide +kernel) ⟨rfl, rfl, rfl, rfl, rfl, by decide +kernel⟩ ?hw ?hc
  case hw => w_witness2
  case hc =>
    refine DL.walkT (tf := DL.tfs) (l := PySem.Challenge.rw_guardhopes_k35_errors_of_kinds_and_parts) (n := 63) (k := 19) (x := "_law_script") rfl (by decide) (by kernel_rfl) ⟨rfl, by decide, by decide⟩ ?F
    intro w mg fa h Y G hmg0
    obtain ⟨K, KX, c, ta⟩ := Y
    have hmg : mg ("law" : PySem.Str) = some (.ref fa) := by
      have e : (HandSHeadRun.topDef DL.R.prog 78).name = ("law" : PySem.Str) := by kernel_rfl
      rw [← e]
      exact hmg0
    obtain ⟨fd, hb, hF⟩ := DL.ok_all KX G c ta
    have e : fa = He.ga K "law" := by
      have g := He.glo_ok KX G (x := "law") (DL.glo_law c)
      rw [hmg] at g
      cases g
      rfl
    subst e
    exact ⟨K, fd, DL.F_law (He.ga K "Machine"), KX, ta, hb, fun ns hn => DL.m_law _ ns hn, fun base _ _ tb => hF _ w base tb⟩
