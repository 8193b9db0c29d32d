import PyProof.Rows.All
import Wide.All
import OpenK.AllK
import Wide.FinOn
import HandS.ForMost
import HandS.ForExc
import HandS.Walk
import HandS.Wide
import HandS.TupAny
import HandS.Strs
import HandS.More
import HandS.SetFor
import HandS.Conv
import HandS.Style
import HandS.IsInst
import HandS.Flow
import HandS.Deep
import HandS.SortInts
import HandS.SortRule
import HandS.NoneIn
import KE.GoesEnum
import KE.GoesMore
import HandS.Property
import HandS.ClsMeth
import HandS.CallSlots
import HandS.ExcInit
import HandS.ExcField
import HandS.TryOnly
import HandS.TryMany
import HandS.ExcIs
import KE.KExcIs
import HandS.OwnEq
import KE.KTupSum
import PySem.Challenge.RW_outagain_k04_head_and_tail
set_option Elab.async false
set_option linter.all false
set_option maxRecDepth 100000
set_option maxHeartbeats 2000000
set_option autoImplicit false
namespace Pu
open PySem L2

/-! # Pure data: what values stand for, without a heap -/
inductive D where
  | non | bl (b : Bool) | int (i : Int) | str (x : Str) | lst (ds : List D) | tup (ds : List D)
  | obj (c : Nat) (ds : List D) | pool | cls (c : Nat) | script (ns : List Int) | pin (a : Addr) (ns : List Int)
deriving Inhabited

/-- classes by number: the name, the attributes in the order in which they are first stored -/
def ctab : Nat → Str × List Str
  | 0 => ("Depot", ["period", "quota", "firsts"])
  | 1 => ("Book", ["stretches", "days"])
  | 2 => ("After", ["days", "passes", "longs", "nexts", "_depot"])
  | 20 => ("OutagainError", [])
  | 21 => ("OutOfRange", ["at", "code"])
  | 22 => ("BadDepot", ["at", "code"])
  | 23 => ("BadBook", ["at", "code"])
  | 24 => ("BadLives", ["at", "code"])
  | 25 => ("BadPasses", ["at", "code"])
  | 26 => ("BadCrews", ["at", "code"])
  | 27 => ("BadWish", ["at", "code"])
  | 28 => ("BadBounds", ["at", "code"])
  | 29 => ("BadNotes", ["at", "code"])
  | 30 => ("BadLists", ["at", "code"])
  | 31 => ("BadLine", ["at", "code"])
  | 32 => ("NoBook", ["reason"])
  | 33 => ("GoalLost", ["reason"])
  | 34 => ("NothingLeft", [])
  | _ => ("", [])
def cname (c : Nat) : Str := (ctab c).1
def cfs (c : Nat) : List Str := (ctab c).2

/-- what is known of an address: it holds o and will not change; or it is a pool of draws -/
inductive GO where
  | fz (o : HO) | pool (l : Addr) (ns : List Int)
abbrev Gp := Addr → Option GO
def updG (G : Gp) (a : Addr) (g : GO) : Gp := fun b => if b = a then some g else G b
theorem updG_same {G : Gp} {a : Addr} {g : GO} : updG G a g a = some g := by unfold updG; rw [if_pos rfl]
theorem updG_ne {G : Gp} {a b : Addr} {g : GO} (h : b ≠ a) : updG G a g b = G b := by unfold updG; rw [if_neg h]
structure Ctx where
  K : PySem.W.Frag
  mg : Str → Option Value

def KL (K : PySem.W.Frag) (a : Addr) (xs : List V) : Prop :=
  ∃ (o : Obj) (its : Array Value) (n : Nat), K.lookup a = some o ∧ o.cls = .type "list" ∧ o.dict = none ∧ o.data = .seq its n ∧ its.size ≤ sizeLine ∧ Vals xs its.toList
def KT (K : PySem.W.Frag) (a : Addr) (xs : List V) : Prop :=
  ∃ (o : Obj) (its : Array Value) (n : Nat), K.lookup a = some o ∧ o.cls = .type "tuple" ∧ o.dict = none ∧ o.data = .seq its n ∧ its.size ≤ sizeLine ∧ Vals xs its.toList
def LsG (C : Ctx) (G : Gp) (a : Addr) (xs : List V) : Prop := G a = some (.fz (.lst xs)) ∨ (∃ o, G a = some (.fz (.frz o (.lst xs)))) ∨ KL C.K a xs
/-- a list is never one of the written part: so it may be given where a list that stands is asked for -/
def LfG (G : Gp) (a : Addr) (xs : List V) : Prop := G a = some (.fz (.lst xs))
def TpG (C : Ctx) (G : Gp) (a : Addr) (xs : List V) : Prop := (∃ o, G a = some (.fz (.frz o (.tup xs))) ∧ o.dict = none) ∨ KT C.K a xs
def mkF (c : Nat) (vs : List V) : List (Str × V) := (cfs c).zip vs

mutual
inductive R (C : Ctx) (G : Gp) : V → D → Prop
  | non : R C G .non .non
  | bl (b) : R C G (.bl b) (.bl b)
  | int (i) : R C G (.int i) (.int i)
  | str (x) : R C G (.str x) (.str x)
  | lst {a xs ds} : LfG G a xs → RAll C G xs ds → R C G (.ref a) (.lst ds)
  | script {a} {ns : List Int} : LsG C G a (ns.map V.int) → R C G (.ref a) (.script ns)
  | tup {a xs ds} : TpG C G a xs → RAll C G xs ds → R C G (.ref a) (.tup ds)
  | obj {a A dx vs c ds} : C.mg (cname c) = some (.ref A) → G a = some (.fz (.ins A dx (mkF c vs))) → RAll C G vs ds → ds.length = (cfs c).length → R C G (.ref a) (.obj c ds)
  | pool {a l ns} : G a = some (.pool l ns) → R C G (.ref a) .pool
  | pin {a ns} : LfG G a (ns.map V.int) → R C G (.ref a) (.pin a ns)
  | cls {A c} : C.mg (cname c) = some (.ref A) → R C G (.ref A) (.cls c)
inductive RAll (C : Ctx) (G : Gp) : List V → List D → Prop
  | nil : RAll C G [] []
  | cons {v d vs ds} : R C G v d → RAll C G vs ds → RAll C G (v :: vs) (d :: ds)
end

section
variable {C : Ctx} {G G' : Gp}
theorem LsG.mono {a xs} (k : ∀ a g, G a = some g → G' a = some g) (h : LsG C G a xs) : LsG C G' a xs := by
  rcases h with h | ⟨o, h⟩ | h
  · exact .inl (k _ _ h)
  · exact .inr (.inl ⟨o, k _ _ h⟩)
  · exact .inr (.inr h)
theorem TpG.mono {a xs} (k : ∀ a g, G a = some g → G' a = some g) (h : TpG C G a xs) : TpG C G' a xs := by
  rcases h with ⟨o, h, hd⟩ | h
  · exact .inl ⟨o, k _ _ h, hd⟩
  · exact .inr h
mutual
theorem R.mono (k : ∀ a g, G a = some g → G' a = some g) : ∀ {v d}, R C G v d → R C G' v d
  | _, _, .non => .non
  | _, _, .bl b => .bl b
  | _, _, .int i => .int i
  | _, _, .str x => .str x
  | _, _, .lst h r => .lst (k _ _ h) (RAll.mono k r)
  | _, _, .script h => .script (h.mono k)
  | _, _, .tup h r => .tup (h.mono k) (RAll.mono k r)
  | _, _, .obj h g r l => .obj h (k _ _ g) (RAll.mono k r) l
  | _, _, .pool g => .pool (k _ _ g)
  | _, _, .pin g => .pin (k _ _ g)
  | _, _, .cls h => .cls h
theorem RAll.mono (k : ∀ a g, G a = some g → G' a = some g) : ∀ {vs ds}, RAll C G vs ds → RAll C G' vs ds
  | _, _, .nil => .nil
  | _, _, .cons r t => .cons (R.mono k r) (RAll.mono k t)
end
theorem RAll.length : ∀ {vs ds}, RAll C G vs ds → vs.length = ds.length
  | _, _, .nil => rfl
  | _, _, .cons _ t => congrArg (· + 1) (RAll.length t)
theorem RAll.append : ∀ {vs ds ws es}, RAll C G vs ds → RAll C G ws es → RAll C G (vs ++ ws) (ds ++ es)
  | _, _, _, _, .nil, s => s
  | _, _, _, _, .cons r t, s => .cons r (RAll.append t s)
theorem RAll.get : ∀ {vs ds} {i : Nat} {d : D}, RAll C G vs ds → ds[i]? = some d → ∃ v, vs[i]? = some v ∧ R C G v d
  | _, _, i, d, .nil, e => by simp at e
  | _, _, 0, d, .cons (v := v) r _, e => by
    have : _ = d := Option.some.inj e
    subst this
    exact ⟨v, rfl, r⟩
  | _, _, i + 1, d, .cons r t, e => by
    obtain ⟨v, h1, h2⟩ := RAll.get (i := i) (d := d) t (by simpa using e)
    exact ⟨v, by simpa using h1, h2⟩
theorem RAll.getV : ∀ {vs ds} {i : Nat} {v : V}, RAll C G vs ds → vs[i]? = some v → ∃ d, ds[i]? = some d ∧ R C G v d
  | _, _, i, d, .nil, e => by simp at e
  | _, _, 0, v, .cons (d := d) r _, e => by
    have : _ = v := Option.some.inj e
    subst this
    exact ⟨d, rfl, r⟩
  | _, _, i + 1, d, .cons r t, e => by
    obtain ⟨v, h1, h2⟩ := RAll.getV (i := i) (v := d) t (by simpa using e)
    exact ⟨v, by simpa using h1, h2⟩
theorem RAll.set {v : V} {d : D} (r : R C G v d) : ∀ {vs ds} (i : Nat), RAll C G vs ds → RAll C G (vs.set i v) (ds.set i d)
  | _, _, _, .nil => .nil
  | _, _, 0, .cons _ t => .cons r t
  | _, _, i + 1, .cons q t => .cons q (RAll.set r i t)
theorem RAll.take : ∀ {vs ds} (n : Nat), RAll C G vs ds → RAll C G (vs.take n) (ds.take n)
  | _, _, 0, _ => by simpa using RAll.nil
  | _, _, _ + 1, .nil => .nil
  | _, _, n + 1, .cons r t => .cons r (RAll.take n t)
theorem RAll.drop : ∀ {vs ds} (n : Nat), RAll C G vs ds → RAll C G (vs.drop n) (ds.drop n)
  | _, _, 0, r => r
  | _, _, _ + 1, .nil => .nil
  | _, _, n + 1, .cons _ t => RAll.drop n t
theorem RAll.one {v d} (r : R C G v d) : RAll C G [v] [d] := .cons r .nil
theorem RAll.reverse : ∀ {vs ds}, RAll C G vs ds → RAll C G vs.reverse ds.reverse
  | _, _, .nil => .nil
  | _, _, .cons r t => by simp only [List.reverse_cons]; exact RAll.append (RAll.reverse t) (.one r)
theorem RAll.dropLast : ∀ {vs ds}, RAll C G vs ds → RAll C G vs.dropLast ds.dropLast
  | _, _, h => by rw [List.dropLast_eq_take, List.dropLast_eq_take, h.length]; exact h.take _
theorem RAll.eraseIdx : ∀ {vs ds} (i : Nat), RAll C G vs ds → RAll C G (vs.eraseIdx i) (ds.eraseIdx i)
  | _, _, _, .nil => .nil
  | _, _, 0, .cons _ t => t
  | _, _, i + 1, .cons r t => .cons r (RAll.eraseIdx i t)
theorem RAll.int : ∀ {vs : List V} {ns : List Int}, RAll C G vs (ns.map D.int) → vs = ns.map V.int
  | _, [], .nil => rfl
  | _, n :: ns, .cons r t => by
    cases r
    rw [List.map_cons, RAll.int t]
theorem RAll.ints : ∀ (ns : List Int), RAll C G (ns.map V.int) (ns.map D.int)
  | [] => .nil
  | n :: ns => .cons (.int n) (RAll.ints ns)
end

/-! ### the heap and what is known of it -/
def PoolAt (H : Hp) (a l : Addr) (ns : List Int) : Prop :=
  ns.length ≤ 63 ∧ ∃ s0 s1 s2 s3 : Int, H a = some (.lst [.int s0, .int s1, .int s2, .int s3, .ref l]) ∧ 0 ≤ s0 ∧ 0 ≤ s1 ∧ s1 < 2147483629 ∧ 0 ≤ s2 ∧ 0 ≤ s3 ∧ s3 ≤ ns.length
def GOk (G : Gp) (H : Hp) (a : Addr) : GO → Prop
  | .fz o => H a = some o
  | .pool l ns => PoolAt H a l ns ∧ G l = some (.fz (.lst (ns.map V.int)))
structure Ok (G : Gp) (H : Hp) : Prop where
  at_ : ∀ a g, G a = some g → GOk G H a g
theorem Ok.fz {G : Gp} {H : Hp} {a : Addr} {o : HO} (k : Ok G H) (h : G a = some (.fz o)) : H a = some o := k.at_ a _ h
structure Ext (G : Gp) (H : Hp) (G' : Gp) (H' : Hp) : Prop where
  g : ∀ a o, G a = some o → G' a = some o
  ok : Ok G' H'
  h : ∀ a o, H a = some o → G a = none → H' a = some o ∧ G' a = none
theorem Ext.refl {G : Gp} {H : Hp} (k : Ok G H) : Ext G H G H := ⟨fun _ _ h => h, k, fun _ _ h g => ⟨h, g⟩⟩
theorem Ext.trans {G G1 G2 : Gp} {H H1 H2 : Hp} (a : Ext G H G1 H1) (b : Ext G1 H1 G2 H2) : Ext G H G2 H2 :=
  ⟨fun x o h => b.g x o (a.g x o h), b.ok, fun x o h g => let ⟨h1, g1⟩ := a.h x o h g; b.h x o h1 g1⟩
theorem Ok.none_of {G : Gp} {H : Hp} (k : Ok G H) {a : Addr} (h : H a = none) : G a = none := by
  cases e : G a with
  | none => rfl
  | some g =>
    have x := k.at_ a g e
    cases g with
    | fz o =>
      have x' : H a = some o := x
      rw [h] at x'; cases x'
    | pool l ns =>
      obtain ⟨⟨_, _, _, _, _, x', _⟩, _⟩ : PoolAt H a l ns ∧ _ := x
      rw [h] at x'; cases x'
theorem Ext.back {G G1 : Gp} {H H1 : Hp} (x : Ext G H G1 H1) {p : Addr} (h : H1 p = none) : H p = none := by
  cases e : H p with
  | none => rfl
  | some o =>
    cases eg : G p with
    | none => rw [(x.h p o e eg).1] at h; cases h
    | some g =>
      have z := x.ok.none_of h
      rw [x.g p g eg] at z; cases z
/-- a new object that is not shared as yet -/
theorem Ext.new {G : Gp} {H : Hp} (k : Ok G H) {p : Addr} {o : HO} (hp : H p = none) : Ext G H G (upd H p o) := by
  refine ⟨fun _ _ h => h, ⟨fun a g h => ?_⟩, fun a u h g => ⟨by rw [upd_ne (ne_of_none h hp)]; exact h, g⟩⟩
  have x := k.at_ a g h
  have hne : a ≠ p := fun e => by rw [e, k.none_of hp] at h; cases h
  cases g with
  | fz u =>
    show upd H p o a = some u
    rw [upd_ne hne]; exact x
  | pool l ns =>
    obtain ⟨⟨hl, s0, s1, s2, s3, x', r⟩, y⟩ : PoolAt H a l ns ∧ _ := x
    exact ⟨⟨hl, s0, s1, s2, s3, by rw [upd_ne hne]; exact x', r⟩, y⟩
theorem Ok.fzG {G : Gp} {H : Hp} (k : Ok G H) {p : Addr} {o : HO} (hp : H p = some o) (gp : G p = none) : Ok (updG G p (.fz o)) H := by
  refine ⟨fun a g h => ?_⟩
  by_cases e : a = p
  · subst e
    rw [updG_same] at h
    cases h
    exact hp
  · rw [updG_ne e] at h
    have x := k.at_ a g h
    cases g with
    | fz u => exact x
    | pool l ns =>
      obtain ⟨x', y⟩ : PoolAt H a l ns ∧ _ := x
      refine ⟨x', ?_⟩
      rw [updG_ne (fun z => by rw [z, gp] at y; cases y)]
      exact y
theorem updG_keep {G : Gp} {p : Addr} {g : GO} (gp : G p = none) : ∀ a o, G a = some o → updG G p g a = some o := fun a o h => by
  rw [updG_ne (fun z => by rw [z, gp] at h; cases h)]; exact h
/-- an object that was made since is shared from now on -/
theorem Ext.share {G G1 : Gp} {H H1 : Hp} (x : Ext G H G1 H1) {p : Addr} {o : HO} (hn : H p = none) (hp : H1 p = some o) (gp : G1 p = none) : Ext G H (updG G1 p (.fz o)) H1 := by
  refine ⟨fun a u h => updG_keep gp a u (x.g a u h), x.ok.fzG hp gp, fun a u h g => ?_⟩
  obtain ⟨h1, g1⟩ := x.h a u h g
  exact ⟨h1, by rw [updG_ne (ne_of_none h hn)]; exact g1⟩
theorem Ext.newG {G : Gp} {H : Hp} (k : Ok G H) {p : Addr} {o : HO} (hp : H p = none) : Ext G H (updG G p (.fz o)) (upd H p o) :=
  (Ext.new k hp).share hp upd_same (k.none_of hp)
/-- an own object changes -/
theorem Ext.write {G0 G : Gp} {H0 H : Hp} (x : Ext G0 H0 G H) {p : Addr} {o : HO} (hn : H0 p = none) (gp : G p = none) : Ext G0 H0 G (upd H p o) := by
  refine ⟨x.g, ⟨fun a g h => ?_⟩, fun a u h g => ?_⟩
  · have y := x.ok.at_ a g h
    have hne : a ≠ p := fun e => by rw [e, gp] at h; cases h
    cases g with
    | fz u =>
      show upd H p o a = some u
      rw [upd_ne hne]; exact y
    | pool l ns =>
      obtain ⟨⟨hl, s0, s1, s2, s3, x', r⟩, y'⟩ : PoolAt H a l ns ∧ _ := y
      exact ⟨⟨hl, s0, s1, s2, s3, by rw [upd_ne hne]; exact x', r⟩, y'⟩
  · obtain ⟨h1, g1⟩ := x.h a u h g
    exact ⟨by rw [upd_ne (ne_of_none h hn)]; exact h1, g1⟩

section
variable {C : Ctx} {G G' : Gp} {H H' : Hp}
theorem LsG.seq {a xs} (k : Ok G H) (h : LsG C G a xs) : SqL C.K H a xs := by
  rcases h with h | ⟨o, h⟩ | h
  · exact .inl (.inl (k.fz h))
  · exact .inl (.inr ⟨o, k.fz h⟩)
  · exact .inr h
theorem TpG.seq {a xs} (k : Ok G H) (h : TpG C G a xs) : SqT C.K H a xs := by
  rcases h with ⟨o, h, _⟩ | ⟨o, its, n, h1, h2, _, h3⟩
  · exact .inl (.inr ⟨o, k.fz h⟩)
  · exact .inr ⟨o, its, n, h1, h2, h3⟩
/-- a new tuple -/
theorem Ext.newT {p : Addr} {o : Obj} {xs : List V} {ds : List D} (k : Ok G H) (hp : H p = none) (hd : o.dict = none) (r : RAll C G xs ds) :
    Ext G H (updG G p (.fz (.frz o (.tup xs)))) (upd H p (.frz o (.tup xs))) ∧ R C (updG G p (.fz (.frz o (.tup xs)))) (.ref p) (.tup ds) :=
  ⟨Ext.newG k hp, .tup (.inl ⟨o, updG_same, hd⟩) (r.mono (updG_keep (k.none_of hp)))⟩
/-- a view: what v shows at H, though its own object may change later -/
def RV (C : Ctx) (G : Gp) (H : Hp) (v : V) (d : D) : Prop :=
  R C G v d ∨ ∃ a xs ds, v = .ref a ∧ d = .lst ds ∧ H a = some (.lst xs) ∧ G a = none ∧ RAll C G xs ds
theorem RV.lst {v ds} (k : Ok G H) (r : RV C G H v (.lst ds)) : ∃ a xs, v = .ref a ∧ H a = some (.lst xs) ∧ RAll C G xs ds := by
  rcases r with r | ⟨a, xs, ds', rfl, e, h, g, r⟩
  · cases r with
    | lst h r => exact ⟨_, _, rfl, k.fz h, r⟩
  · cases e
    exact ⟨a, xs, rfl, h, r⟩
theorem RV.tup {v ds} (k : Ok G H) (r : RV C G H v (.tup ds)) : ∃ a xs, v = .ref a ∧ SqT C.K H a xs ∧ RAll C G xs ds := by
  rcases r with r | ⟨a, xs, ds', rfl, e, h, g, r⟩
  · cases r with
    | tup h r => exact ⟨_, _, rfl, h.seq k, r⟩
  · cases e
theorem RV.ext {v d} (x : Ext G H G' H') (r : RV C G H v d) : RV C G' H' v d := by
  rcases r with r | ⟨a, xs, ds', rfl, e, h, g, r⟩
  · exact .inl (r.mono x.g)
  · obtain ⟨h1, g1⟩ := x.h _ _ h g
    exact .inr ⟨a, xs, ds', rfl, e, h1, g1, r.mono x.g⟩
theorem RV.scal {v d} (r : RV C G H v d) (n : ∀ ds, d ≠ .lst ds) : R C G v d := by
  rcases r with r | ⟨a, xs, ds', rfl, e, h, g, r⟩
  · exact r
  · exact absurd e (n _)
end

/-! ### exceptions -/
structure Exn where
  c : Nat
  ds : List D
def XR (C : Ctx) (G : Gp) (cls : Value) (d : Option Addr) (e : Exn) : Prop :=
  ∃ A, C.mg (cname e.c) = some (.ref A) ∧ cls = .ref A ∧ e.ds.length = (cfs e.c).length ∧
    ((e.ds = [] ∧ d = none) ∨ ∃ dd vs, d = some dd ∧ G dd = some (.fz (.xd ((mkF e.c vs).reverse))) ∧ RAll C G vs e.ds)
theorem XR.ext {C : Ctx} {G G' : Gp} {cls : Value} {d : Option Addr} {e : Exn} (k : ∀ a g, G a = some g → G' a = some g) (r : XR C G cls d e) : XR C G' cls d e := by
  obtain ⟨A, h1, h2, h3, h4⟩ := r
  refine ⟨A, h1, h2, h3, ?_⟩
  rcases h4 with h4 | ⟨dd, vs, e1, e2, e3⟩
  · exact .inl h4
  · exact .inr ⟨dd, vs, e1, k _ _ e2, e3.mono k⟩

/-! ### slots -/
/-- what a name holds: shared data; or a list of its own, which nobody else knows -/
inductive S where
  | d (d : D) | own (oa : Option Addr) (ds : List D) | slf (a : Addr) (c : Nat) (ds : List D) | exc (a : Addr) (cls : Value) (dx : Option Addr) (e : Exn)
abbrev Dl := List (Option S)
inductive SR1 (C : Ctx) (H0 : Hp) (G : Gp) (H : Hp) : V → S → Prop
  | d {v d} : R C G v d → SR1 C H0 G H v (.d d)
  | own {a oa xs ds} : (∀ b, oa = some b → b = a) → H a = some (.lst xs) → G a = none → H0 a = none → RAll C G xs ds → SR1 C H0 G H (.ref a) (.own oa ds)
  | slf {a A dx vs c ds} : C.mg (cname c) = some (.ref A) → H a = some (.ins A dx (mkF c vs)) → G a = none → H0 a = none → RAll C G vs ds → ds.length ≤ (cfs c).length → SR1 C H0 G H (.ref a) (.slf a c ds)
  | exc {a cls dx e} : XR C G cls dx e → SR1 C H0 G H (.ref a) (.exc a cls dx e)
def S.isOwn : S → Bool
  | .d _ => false
  | .own _ _ => true
  | .slf _ _ _ => true
  | .exc _ _ _ _ => false
structure SRel (C : Ctx) (H0 : Hp) (G : Gp) (H : Hp) (σ : St) (δ : Dl) : Prop where
  len : σ.length = δ.length
  at_ : ∀ (i : Nat) (s : S), δ[i]? = some (some s) → ∃ v, σ[i]? = some (some v) ∧ SR1 C H0 G H v s
  apart : ∀ (i j : Nat) (s s' : S) (v v' : V), i ≠ j → δ[i]? = some (some s) → δ[j]? = some (some s') → s.isOwn = true → s'.isOwn = true → σ[i]? = some (some v) → σ[j]? = some (some v') → v ≠ v'
section
variable {C : Ctx} {G G' G0 : Gp} {H H' H0 : Hp} {σ : St} {δ : Dl}
theorem SR1.ext {v s} (x : Ext G H G' H') (r : SR1 C H0 G H v s) : SR1 C H0 G' H' v s := by
  cases r with
  | d r => exact .d (r.mono x.g)
  | own ha h g n r =>
    obtain ⟨h1, g1⟩ := x.h _ _ h g
    exact .own ha h1 g1 n (r.mono x.g)
  | slf m h g n r l =>
    obtain ⟨h1, g1⟩ := x.h _ _ h g
    exact .slf m h1 g1 n (r.mono x.g) l
  | exc r => exact .exc (r.ext x.g)
theorem SRel.ext (x : Ext G H G' H') (s : SRel C H0 G H σ δ) : SRel C H0 G' H' σ δ :=
  ⟨s.len, fun i t h => let ⟨v, e, r⟩ := s.at_ i t h; ⟨v, e, r.ext x⟩, s.apart⟩
theorem SRel.rvD {i : Nat} {e : D} (t : SRel C H0 G H σ δ) (h : δ[i]? = some (some (.d e))) : ∃ v, σ[i]? = some (some v) ∧ R C G v e := by
  obtain ⟨v, e, r⟩ := t.at_ i _ h
  refine ⟨v, e, ?_⟩
  cases r with
  | d r => exact r
theorem SRel.rvO {i : Nat} {oa : Option Addr} {ds : List D} (t : SRel C H0 G H σ δ) (h : δ[i]? = some (some (.own oa ds))) : ∃ v, σ[i]? = some (some v) ∧ RV C G H v (.lst ds) := by
  obtain ⟨v, e, r⟩ := t.at_ i _ h
  refine ⟨v, e, ?_⟩
  cases r with
  | own _ hx gx nx rx => exact .inr ⟨_, _, _, rfl, rfl, hx, gx, rx⟩
theorem SRel.setN {i : Nat} {o : Option V} (t : SRel C H0 G H σ δ) : SRel C H0 G H (σ.set i o) (δ.set i none) := by
  have key : ∀ (j : Nat) (s : S), (δ.set i none)[j]? = some (some s) → j ≠ i ∧ δ[j]? = some (some s) := fun j s h => by
    by_cases e : i = j
    · subst e
      by_cases hl : i < δ.length
      · rw [List.getElem?_set_self hl] at h; cases h
      · rw [List.getElem?_eq_none (by simpa using hl)] at h; cases h
    · rw [List.getElem?_set_ne e] at h
      exact ⟨fun z => e z.symm, h⟩
  refine ⟨by rw [List.length_set, List.length_set, t.len], fun j s h => ?_, fun j k s s' v v' n h1 h2 o1 o2 e1 e2 => ?_⟩
  · obtain ⟨n, h⟩ := key j s h
    obtain ⟨v, e, r⟩ := t.at_ j s h
    exact ⟨v, by rw [List.getElem?_set_ne (Ne.symm n)]; exact e, r⟩
  · obtain ⟨n1, h1⟩ := key j s h1
    obtain ⟨n2, h2⟩ := key k s' h2
    rw [List.getElem?_set_ne (Ne.symm n1)] at e1
    rw [List.getElem?_set_ne (Ne.symm n2)] at e2
    exact t.apart j k s s' v v' n h1 h2 o1 o2 e1 e2
theorem SRel.set {i : Nat} {v : V} {s : S} (t : SRel C H0 G H σ δ) (r : SR1 C H0 G H v s) (ap : s.isOwn = true → ∀ (j : Nat) (s' : S), δ[j]? = some (some s') → s'.isOwn = true → j ≠ i → σ[j]? ≠ some (some v)) :
    SRel C H0 G H (σ.set i (some v)) (δ.set i (some s)) := by
  have key : ∀ (j : Nat) (u : S), (δ.set i (some s))[j]? = some (some u) → (j = i ∧ u = s ∧ i < δ.length) ∨ (j ≠ i ∧ δ[j]? = some (some u)) := fun j u h => by
    by_cases e : i = j
    · subst e
      by_cases hl : i < δ.length
      · rw [List.getElem?_set_self hl] at h
        exact .inl ⟨rfl, (Option.some.inj (Option.some.inj h)).symm, hl⟩
      · rw [List.getElem?_eq_none (by simpa using hl)] at h; cases h
    · rw [List.getElem?_set_ne e] at h
      exact .inr ⟨fun z => e z.symm, h⟩
  refine ⟨by rw [List.length_set, List.length_set, t.len], fun j u h => ?_, fun j k u u' v1 v2 n h1 h2 o1 o2 e1 e2 => ?_⟩
  · rcases key j u h with ⟨rfl, rfl, hl⟩ | ⟨n, h⟩
    · exact ⟨v, List.getElem?_set_self (by rw [t.len]; exact hl), r⟩
    · obtain ⟨v', e, r'⟩ := t.at_ j u h
      exact ⟨v', by rw [List.getElem?_set_ne (Ne.symm n)]; exact e, r'⟩
  · rcases key j u h1 with ⟨ej, eu, hl⟩ | ⟨n1, g1⟩
    · rcases key k u' h2 with ⟨ek, _, _⟩ | ⟨n2, g2⟩
      · exact absurd (ej.trans ek.symm) n
      · rw [ej, List.getElem?_set_self (by rw [t.len]; exact hl)] at e1
        rw [List.getElem?_set_ne (Ne.symm n2)] at e2
        have ev : v = v1 := Option.some.inj (Option.some.inj e1)
        intro z
        exact ap (by rw [← eu]; exact o1) k u' g2 o2 n2 (by rw [ev, z]; exact e2)
    · rcases key k u' h2 with ⟨ek, eu, hl⟩ | ⟨n2, g2⟩
      · rw [ek, List.getElem?_set_self (by rw [t.len]; exact hl)] at e2
        rw [List.getElem?_set_ne (Ne.symm n1)] at e1
        have ev : v = v2 := Option.some.inj (Option.some.inj e2)
        intro z
        exact ap (by rw [← eu]; exact o2) j u g1 o1 n1 (by rw [ev, ← z]; exact e1)
      · rw [List.getElem?_set_ne (Ne.symm n1)] at e1
        rw [List.getElem?_set_ne (Ne.symm n2)] at e2
        exact t.apart j k u u' v1 v2 n g1 g2 o1 o2 e1 e2
theorem SRel.setD {i : Nat} {v : V} {d : D} (t : SRel C H0 G H σ δ) (r : R C G v d) : SRel C H0 G H (σ.set i (some v)) (δ.set i (some (.d d))) :=
  t.set (.d r) fun z => by cases z
end
def wipeD (δ : Dl) : List Nat → Dl
  | [] => δ
  | v :: vs => (wipeD δ vs).set v none
theorem SRel.wipe {C : Ctx} {G : Gp} {H H0 : Hp} {σ : St} {δ : Dl} (t : SRel C H0 G H σ δ) : ∀ vs : List Nat, SRel C H0 G H (wipe σ vs) (wipeD δ vs)
  | [] => t
  | v :: vs => (SRel.wipe t vs).setN

/-- a state of a body: G₀, H₀ at its entry -/
structure Stt (C : Ctx) (G0 : Gp) (H0 : Hp) (σ : St) (δ : Dl) (G : Gp) (H : Hp) : Prop where
  ext : Ext G0 H0 G H
  sr : SRel C H0 G H σ δ
theorem Stt.ok {C : Ctx} {G0 G : Gp} {H0 H : Hp} {σ : St} {δ : Dl} (t : Stt C G0 H0 σ δ G H) : Ok G H := t.ext.ok
theorem Stt.step {C : Ctx} {G0 G G' : Gp} {H0 H H' : Hp} {σ : St} {δ : Dl} (t : Stt C G0 H0 σ δ G H) (x : Ext G H G' H') : Stt C G0 H0 σ δ G' H' := ⟨t.ext.trans x, t.sr.ext x⟩

/-! ### what exceptions want -/
def EOk (C : Ctx) (G : Gp) (H : Hp) (E : XK) (P : Exn → Prop) : Prop :=
  ∀ G' H' cls d e, Ext G H G' H' → XR C G' cls d e → P e → E cls d H'
theorem EOk.ext {C : Ctx} {G G' : Gp} {H H' : Hp} {E : XK} {P : Exn → Prop} (h : EOk C G H E P) (x : Ext G H G' H') : EOk C G' H' E P :=
  fun G2 H2 cls d e y r p => h G2 H2 cls d e (x.trans y) r p
/-! ### pure readings -/
abbrev PX := Dl → (D → Prop) → (Exn → Prop) → Prop
abbrev PAx := Dl → (List D → Prop) → (Exn → Prop) → Prop
abbrev PTx := Dl → (Bool → Prop) → (Exn → Prop) → Prop
abbrev PLx := Dl → (List D → Prop) → (Exn → Prop) → Prop
structure PEnds where
  nx : Dl → Prop
  rt : Dl → D → Prop
  bk : Dl → Prop
  ct : Dl → Prop
  ex : Dl → Exn → Prop
abbrev PSx := PEnds → Dl → Prop
abbrev PSp := List D → (D → Prop) → (Exn → Prop) → Prop

abbrev cx (X : Cx) : Ctx := ⟨X.K, X.mg⟩

/-- an expression: its reading te, its pure reading pe; the value is shared data -/
structure LX (X : Cx) (E : St → XK) (e : Expr) (te : TE) (pe : PX) : Prop where
  py : PE X e te
  le : ∀ {δ : Dl} {σ : St} {G : Gp} {H H0 : Hp} {Q : VK} {P : D → Prop} {P2 : Exn → Prop}, Ok G H → SRel (cx X) H0 G H σ δ → EOk (cx X) G H (E σ) P2 → pe δ P P2 →
    (∀ v d G' H', Ext G H G' H' → R (cx X) G' v d → P d → Q v H') → te σ H Q
/-- .. the value may be a list of one's own: a view -/
structure LV (X : Cx) (E : St → XK) (e : Expr) (te : TE) (pe : PX) : Prop where
  py : PE X e te
  le : ∀ {δ : Dl} {σ : St} {G : Gp} {H H0 : Hp} {Q : VK} {P : D → Prop} {P2 : Exn → Prop}, Ok G H → SRel (cx X) H0 G H σ δ → EOk (cx X) G H (E σ) P2 → pe δ P P2 →
    (∀ v d G' H', Ext G H G' H' → RV (cx X) G' H' v d → P d → Q v H') → te σ H Q
/-- .. the value is a new list -/
structure LO (X : Cx) (E : St → XK) (e : Expr) (te : TE) (pe : PX) : Prop where
  py : PE X e te
  le : ∀ {δ : Dl} {σ : St} {G : Gp} {H H0 : Hp} {Q : VK} {P : D → Prop} {P2 : Exn → Prop}, Ok G H → SRel (cx X) H0 G H σ δ → EOk (cx X) G H (E σ) P2 → pe δ P P2 →
    (∀ p xs ds G' H', Ext G H G' H' → H p = none → H' p = some (.lst xs) → G' p = none → RAll (cx X) G' xs ds → P (.lst ds) → Q (.ref p) H') → te σ H Q
structure LA (X : Cx) (E : St → XK) (es : List Expr) (ta : TA) (pa : PAx) : Prop where
  py : PA X es ta
  le : ∀ {δ : Dl} {σ : St} {G : Gp} {H H0 : Hp} {Q : List V → Hp → Prop} {P : List D → Prop} {P2 : Exn → Prop}, Ok G H → SRel (cx X) H0 G H σ δ → EOk (cx X) G H (E σ) P2 → pa δ P P2 →
    (∀ vs ds G' H', Ext G H G' H' → RAll (cx X) G' vs ds → P ds → Q vs H') → ta σ H Q
structure LT (X : Cx) (E : St → XK) (e : Expr) (tt : TT) (pt : PTx) : Prop where
  py : PT X e tt
  le : ∀ {δ : Dl} {σ : St} {G : Gp} {H H0 : Hp} {Q : Bool → Hp → Prop} {P : Bool → Prop} {P2 : Exn → Prop}, Ok G H → SRel (cx X) H0 G H σ δ → EOk (cx X) G H (E σ) P2 → pt δ P P2 →
    (∀ b G' H', Ext G H G' H' → P b → Q b H') → tt σ H Q
/-- what a statement's ends want -/
structure EndsR (C : Ctx) (G0 : Gp) (H0 : Hp) (E : St → XK) (Dn : Ends) (P : PEnds) : Prop where
  nx : ∀ {σ : St} {δ : Dl} {G : Gp} {H : Hp}, Stt C G0 H0 σ δ G H → P.nx δ → Dn.nx σ H
  rt : ∀ {σ : St} {δ : Dl} {v : V} {d : D} {G : Gp} {H : Hp}, Stt C G0 H0 σ δ G H → R C G v d → P.rt δ d → Dn.rt v H
  bk : ∀ {σ : St} {δ : Dl} {G : Gp} {H : Hp}, Stt C G0 H0 σ δ G H → P.bk δ → Dn.bk σ H
  ct : ∀ {σ : St} {δ : Dl} {G : Gp} {H : Hp}, Stt C G0 H0 σ δ G H → P.ct δ → Dn.ct σ H
  ex : ∀ {σ : St} {δ : Dl} {G : Gp} {H : Hp}, Stt C G0 H0 σ δ G H → EOk C G H (E σ) (P.ex δ)
structure LS (X : Cx) (E : St → XK) (st : Stmt) (ts : TS) (ps : PSx) : Prop where
  py : PS X st ts
  le : ∀ {G0 : Gp} {H0 : Hp} {Dn : Ends} {P : PEnds} {δ : Dl} {σ : St} {G : Gp} {H : Hp}, EndsR (cx X) G0 H0 E Dn P → Stt (cx X) G0 H0 σ δ G H → ps P δ → ts Dn σ H
structure LSs (X : Cx) (E : St → XK) (st : List Stmt) (ts : TS) (ps : PSx) : Prop where
  py : PSs X st ts
  le : ∀ {G0 : Gp} {H0 : Hp} {Dn : Ends} {P : PEnds} {δ : Dl} {σ : St} {G : Gp} {H : Hp}, EndsR (cx X) G0 H0 E Dn P → Stt (cx X) G0 H0 σ δ G H → ps P δ → ts Dn σ H
/-- outside js the slots are as they were -/
def Out (js : List Nat) (σ σ' : St) : Prop := σ'.length = σ.length ∧ ∀ i, i ∉ js → σ'[i]? = σ[i]?
structure LG (X : Cx) (tg : Expr) (g : TG) (pg : D → Dl → (Dl → Prop) → Prop) (js : List Nat) : Prop where
  py : PG X tg g
  le : ∀ {δ : Dl} {σ : St} {G : Gp} {H H0 : Hp} {v : V} {d : D} {P : Dl → Prop} {Q : St → Hp → Prop}, Ok G H → SRel (cx X) H0 G H σ δ → R (cx X) G v d → pg d δ P →
    (∀ σ' δ', SRel (cx X) H0 G H σ' δ' → Out js σ σ' → P δ' → Q σ' H) → g v σ H Q
theorem Out.refl {js : List Nat} {σ : St} : Out js σ σ := ⟨rfl, fun _ _ => rfl⟩
theorem Out.set {i : Nat} {σ : St} {o : Option V} : Out [i] σ (σ.set i o) := ⟨List.length_set, fun j h => List.getElem?_set_ne (fun e => h (by rw [e]; exact List.mem_singleton_self _))⟩
theorem Out.trans {js ks : List Nat} {σ σ1 σ2 : St} (a : Out js σ σ1) (b : Out ks σ1 σ2) : Out (js ++ ks) σ σ2 :=
  ⟨b.1.trans a.1, fun i h => (b.2 i fun m => h (List.mem_append_right _ m)).trans (a.2 i fun m => h (List.mem_append_left _ m))⟩
theorem wipe_at {σ : St} {i : Nat} : ∀ {vs : List Nat}, i ∈ vs → (wipe σ vs)[i]? = if i < σ.length then some none else none
  | [], h => by cases h
  | v :: vs, h => by
    unfold wipe
    by_cases e : v = i
    · subst e
      by_cases hl : v < σ.length
      · rw [List.getElem?_set_self (by rw [wipe_length]; exact hl), if_pos hl]
      · rw [List.getElem?_eq_none (by rw [List.length_set, wipe_length]; omega), if_neg hl]
    · rw [List.getElem?_set_ne e]
      exact wipe_at (by rcases List.mem_cons.mp h with h | h; exact absurd h.symm e; exact h)
theorem Out.wipe {js vs : List Nat} {σ σ' : St} (o : Out js σ σ') (h : ∀ i ∈ js, i ∈ vs) : wipe σ' vs = wipe σ vs := by
  apply List.ext_getElem?
  intro i
  by_cases m : i ∈ vs
  · rw [wipe_at m, wipe_at m, o.1]
  · rw [wipe_out m, wipe_out m]
    exact o.2 i fun z => m (h i z)
end Pu
set_option Elab.async false
set_option linter.all false
set_option maxRecDepth 100000
set_option maxHeartbeats 2000000
set_option autoImplicit false
namespace Pu
open PySem PySem.Spec PyProof.Rows L2
/-! # Tuples of which it is kept that they have no attributes of their own -/
section
variable {X : Cx}
theorem layN {pins : List (Addr × Obj)} {σ : L2.St} {H : Hp} {s : Shared} {xs : List V} {its : List Value} {Q : VK} {h : Heap} {tk : Nat} (I : Inv X pins σ H s) (k : ∀ b u, s.heap.get? b = some u → h.get? b = some u) (r : Vals xs its) (z : xs.length ≤ sizeLine) (le : s.heap.objs.size ≤ h.objs.size)
    (q : ∀ p o, H p = none → o.dict = none → Q (.ref p) (upd H p (.frz o (.tup xs)))) : EP X pins σ Q (.ref h.objs.size) { s with heap := h.push { cls := .type "tuple", data := .seq its.toArray }, toks := tk } := by
  have hn : H h.objs.size = none := I.hok.fresh le
  refine ⟨.ref h.objs.size, upd H h.objs.size (.frz { cls := .type "tuple", data := .seq its.toArray } (.tup xs)), ?_, rfl, q _ _ hn rfl⟩
  have at_ : (h.push { cls := .type "tuple", data := .seq its.toArray }).get? h.objs.size = some { cls := .type "tuple", data := .seq its.toArray } := Heap.get?_push_size _ rfl
  exact I.laid (t' := tk) (fun b u e => Heap.get?_push_of_some _ (k b u e)) le ⟨at_, z, its, r, _, at_, rfl, _, rfl⟩
def tTupN (t : TA) : TE := fun σ H Q => t σ H fun xs H1 => xs.length ≤ sizeLine ∧ ∀ p o, H1 p = none → o.dict = none → Q (.ref p) (upd H1 p (.frz o (.tup xs)))
theorem pe_tupN {es : List Expr} {x1 : Nat} {pos : Pos} {t : TA} (h : PA X es t) : PE X (.Tuple es x1 pos) (tTupN t) :=
  ⟨fun pins s σ H Q I hq => wpAny_Tuple_spliced (thn (h.run pos pins s σ H _ I hq) fun us s1 ⟨xs, H1, I1, r, z, q⟩ =>
    ⟨by rw [← r.length] <;> exact z, layN (tk := s1.toks) (h := s1.heap) I1 (fun _ _ e => e) r z (Nat.le_refl _) q⟩)⟩
def rTupN (K : PySem.W.Frag) : List V → Hp → VK → Prop := fun xs H Q => ∃ a ys, xs = [.ref a] ∧ ((SqL K H a ys ∧ ∀ p o, H p = none → o.dict = none → Q (.ref p) (upd H p (.frz o (.tup ys)))) ∨ (SqT K H a ys ∧ Q (.ref a) H))
theorem call_tupN : CallR X (.type "tuple") (rTupN X.K) := fun pins s σ H xs us Q I r ⟨a, ys, e, h⟩ => by
  subst e
  obtain ⟨u, rfl, rx⟩ := vals1 r
  cases rx
  rcases h with ⟨hs, q⟩ | ⟨hs, q⟩
  · obtain ⟨its, rv, pl, z⟩ := I.list hs
    have el := rv.length
    exact call_tuple_list pl.isList (fun h1 kp => layN (s := { s with heap := h1, toks := s.toks }) (tk := s.toks) (h := h1) (I.kept (h' := h1) (t' := s.toks) kp) (fun _ _ e => e) rv z (Nat.le_refl _) q) (by simp only [List.size_toArray]; omega)
  · obtain ⟨its, rv, pl, z⟩ := I.tuple hs
    exact call_tuple_same pl ⟨.ref a, H, I, rfl, q⟩
/-- t + u -/
def rCatN (K : PySem.W.Frag) : R2 := fun x y H Q => ∃ a b xs ys, x = .ref a ∧ y = .ref b ∧ SqT K H a xs ∧ SqT K H b ys ∧ xs.length + ys.length ≤ sizeLine ∧
  (xs = [] → Q (.ref b) H) ∧ (xs ≠ [] → ys = [] → Q (.ref a) H) ∧ (xs ≠ [] → ys ≠ [] → ∀ p o, H p = none → o.dict = none → Q (.ref p) (upd H p (.frz o (.tup (xs ++ ys)))))
theorem op_catN : OpR X (binaryOp .Add) (rCatN X.K) := fun pins s σ H x y v u Q I rx ry ⟨a, b, xs, ys, ex, ey, ha, hb, hz, q0, q1, q2⟩ => by
  subst ex ey
  cases rx
  cases ry
  obtain ⟨its, r1, p1, z1⟩ := I.tuple ha
  obtain ⟨jts, r2, p2, z2⟩ := I.tuple hb
  by_cases hx : xs = []
  · cases hx
    cases r1
    exact cat_tup0 p1 p2 ⟨.ref b, H, I, rfl, q0 rfl⟩
  · refine HT.cat_tup p1 p2 (fun w => hx (r1.nil_iff.mp w)) (fun w => ⟨.ref a, H, I, rfl, q1 hx (r2.nil_iff.mp w)⟩) (fun w => ?_) (by rw [← r1.length, ← r2.length] <;> exact hz)
    exact layN (tk := s.toks) (h := s.heap) I (fun _ _ e => e) (r1.append r2) (by rw [List.length_append] <;> exact hz) (Nat.le_refl _) (q2 hx fun w => by cases w; cases r2; exact absurd rfl ‹_›)
/-- t[lo:hi] -/
def rSlN (K : PySem.W.Frag) : V → Option Int → Option Int → Hp → VK → Prop := fun x lo hi H Q => ∃ a xs, x = .ref a ∧ SqT K H a xs ∧
  (HT.sIx xs.length 0 lo = 0 ∧ HT.sIx xs.length xs.length hi = xs.length → Q (.ref a) H) ∧ (¬ (HT.sIx xs.length 0 lo = 0 ∧ HT.sIx xs.length xs.length hi = xs.length) → ∀ p o, H p = none → o.dict = none → Q (.ref p) (upd H p (.frz o (.tup (cutV xs lo hi)))))
theorem sl_tupN : SlR X (rSlN X.K) := fun pins s σ H x v vl vu lo hi sl Q I rx hs pl pu ⟨a, xs, ex, hx, q1, q2⟩ => by
  subst ex
  cases rx
  obtain ⟨its, r, ht, hz⟩ := I.tuple hx
  have hlen : its.toArray.size = xs.length := by rw [List.size_toArray] <;> exact r.length.symm
  refine ⟨"tuple", _, PyProof.Rows.slot_tuple_getitem.lookup, ht.typeIs, ?_⟩
  by_cases hw : HT.sIx xs.length 0 lo = 0 ∧ HT.sIx xs.length xs.length hi = xs.length
  · exact getItem_tuple_whole ht hs pl pu (by rw [hlen] <;> exact hw) ⟨.ref a, H, I, rfl, q1 hw⟩
  · refine HT.getItem_tuple_cut ht hs pl pu (by rw [hlen] <;> exact hw) ?_ (by rw [hlen] <;> exact hz)
    rw [hlen]
    exact layN (tk := s.toks) (h := s.heap) I (fun _ _ e => e) ((r.drop (HT.sIx xs.length 0 lo)).take (HT.sIx xs.length xs.length hi - HT.sIx xs.length 0 lo)) (Nat.le_trans (cutV_length xs lo hi) hz) (Nat.le_refl _) (q2 hw)
/-! ### xs.count(k): a list or a tuple of ints, an int -/
/-- what is known of a list or tuple whose method is asked for -/
def Nd (K : PySem.W.Frag) (H : Hp) (a : Addr) (T : String) (xs : List V) : Prop :=
  (T = "list" ∧ SqL K H a xs) ∨ (T = "tuple" ∧ ((∃ o, H a = some (.frz o (.tup xs)) ∧ o.dict = none) ∨ ∃ (o : Obj) (its : Array Value) (n : Nat), K.lookup a = some o ∧ o.cls = .type "tuple" ∧ o.dict = none ∧ o.data = .seq its n ∧ its.size ≤ sizeLine ∧ Vals xs its.toList))
theorem Nd.is {pins : List (Addr × Obj)} {σ : L2.St} {H : Hp} {s : Shared} {T : String} {a : Addr} {xs : List V} (I : Inv X pins σ H s) (h : Nd X.K H a T xs) :
    ∃ (its : Array Value) (n : Nat) (sl : Array (Option Value)), s.heap.get? a = some ⟨.type T, none, .seq its n, sl⟩ ∧ Vals xs its.toList := by
  rcases h with ⟨rfl, h⟩ | ⟨rfl, h | h⟩
  · obtain ⟨its, r, ⟨⟨c, d, dt, sl⟩, n, e, hc, hd, hs⟩, _⟩ := I.list h
    simp only at hc hd hs
    subst hc hd hs
    exact ⟨its.toArray, n, sl, e, by simpa using r⟩
  · obtain ⟨⟨c, d, dt, sl⟩, h, hd⟩ := h
    obtain ⟨e, z, its, r, o', e', hc, n, hs⟩ := (show ObjOk X.prog X.w H s.heap a (.frz _ (.tup xs)) from I.hok a _ h)
    have eo := Option.some.inj (e.symm.trans e')
    subst eo
    simp only at hc hd hs
    subst hc hd hs
    exact ⟨its.toArray, n, sl, e, by simpa using r⟩
  · obtain ⟨⟨c, d, dt, sl⟩, its, n, hk, hc, hd, hs, z, r⟩ := h
    simp only at hc hd hs
    subst hc hd hs
    exact ⟨its, n, sl, I.kIn a _ hk, r⟩
def tCnt (K : PySem.W.Frag) (to te : TE) : TE := fun σ H Q => to σ H fun x H1 => ∃ (a : Addr) (T : String) (ns : List Int), x = .ref a ∧ Nd K H1 a T (ns.map V.int) ∧ te σ H1 fun y H2 => ∃ k : Int, [y] = [V.int k] ∧ Nd K H2 a T (ns.map V.int) ∧ Q (.int (ns.count k : Nat)) H2
theorem pe_cnt {o e : Expr} {to te : TE} {apos cpos : Pos} (ho : PE X o to) (he : PE X e te) (hbase : attributeBase o "count" X.env (eval o X.env) = eval o X.env := by rfl)
    (hfew : ((backTo cpos (starEach [e] X.env)).all (fun x => !x.1) && (backToKw cpos (keywordEach [] X.env)).all (fun x => x.1.isSome) && decide ([e].length + ([] : List Keyword).length + (if ([] : List Keyword).isEmpty then 0 else 1) < 30)) = true := by rfl)
    (hline : (apos.endLine == cpos.line) = true := by rfl) (hs : starEach [e] X.env = (false, eval e X.env) :: starEach [] X.env := by rfl) :
    PE X (.Call (.Attribute o "count" apos) [e] [] cpos) (tCnt X.K to te) := by
  refine ⟨fun pins s σ H Q I h => wpAny_Call_method_late hbase hfew hline rfl (thn (ho.run pins s σ H _ I h) fun v s1 ⟨x, H1, I1, r1, a, T, ns, ex, nd, q⟩ => ?_)⟩
  subst ex
  cases r1
  have hA := (pa_cons he pa_nil hs).run cpos pins s1 σ H1 (fun ys H2 => ∃ k : Int, ys = [V.int k] ∧ Nd X.K H2 a T (ns.map V.int) ∧ Q (.int (ns.count k : Nat)) H2) I1 q
  obtain ⟨its, n, sl, at1, rv1⟩ := nd.is I1
  have run : ∀ (id : String), (∀ us s2 ys H2, Inv X pins σ H2 s2 → Vals ys us → (∃ k : Int, ys = [V.int k] ∧ Nd X.K H2 a T (ns.map V.int) ∧ Q (.int (ns.count k : Nat)) H2) → wpAny (model X.prog X.w) X.A (call (.builtin id) (.ref a :: us)) (EP X pins σ Q) X.xe s2) →
      wpAny (model X.prog X.w) X.A (callWith cpos (.builtin id) [.ref a] (backTo cpos (starEach [e] X.env)) []) (EP X pins σ Q) X.xe s1 := fun id hm => by
    rw [hs] at hA ⊢
    exact Calls.callWith_builtin rfl (Calls.evalArgs_plain (thn hA fun us s2 ⟨vs, H2, I2, r2, q2⟩ => hm us s2 vs H2 I2 r2 q2))
  have one : ∀ {us : List Value} {s2 : Shared} {ys : List V} {H2 : Hp}, Inv X pins σ H2 s2 → Vals ys us → (∃ k : Int, ys = [V.int k] ∧ Nd X.K H2 a T (ns.map V.int) ∧ Q (.int (ns.count k : Nat)) H2) →
      ∃ (k : Int) (t : Tok) (its : Array Value) (n : Nat) (sl : Array (Option Value)), us = [.int k t] ∧ s2.heap.get? a = some ⟨.type T, none, .seq its n, sl⟩ ∧ Vals (ns.map V.int) its.toList ∧ Q (.int (ns.count k : Nat)) H2 := fun I2 r2 ⟨k, ek, n2, q2⟩ => by
    subst ek
    obtain ⟨u, rfl, t, rfl⟩ := r2.one
    obtain ⟨its, n, sl, e2, rv⟩ := n2.is I2
    exact ⟨k, t, its, n, sl, rfl, e2, rv, q2⟩
  rcases nd with ⟨rfl, _⟩ | ⟨rfl, _⟩
  · refine ⟨"list", "list.count", PySem.F.plainAttrs_list, PySem.F.slot_list_count, PySem.F.type_list_count, ⟨_, at1, rfl⟩, fun b eb => by cases eb; exact ⟨_, at1, rfl⟩, run _ fun us s2 ys H2 I2 r2 w => ?_⟩
    obtain ⟨k, t, its, n, sl, rfl, at2, rv, q2⟩ := one I2 r2 w
    have hi := ints_of_vals rv
    refine call_meets PySem.F.slot_list_count ⟨_, at2, rfl⟩ PySem.F.entry_list_count (PySem.F.args_list_count_2 _ _) (SeqAt.list_countAt a its n none sl (.int k t) (eqk k)) ⟨at2, fun y hy => (eqk_gives hi y (by simpa using hy)).at _ _, ?_⟩
    exact ⟨.int (ns.count k : Nat), H2, I2.tok _, ⟨s2.toks, by rw [eqk_count hi]⟩, q2⟩
  · refine ⟨"tuple", "tuple.count", PySem.F.plainAttrs_tuple, PySem.F.slot_tuple_count, PySem.F.type_tuple_count, ⟨_, at1, rfl⟩, fun b eb => by cases eb; exact ⟨_, at1, rfl⟩, run _ fun us s2 ys H2 I2 r2 w => ?_⟩
    obtain ⟨k, t, its, n, sl, rfl, at2, rv, q2⟩ := one I2 r2 w
    have hi := ints_of_vals rv
    refine call_meets PySem.F.slot_tuple_count ⟨_, at2, rfl⟩ PySem.F.entry_tuple_count (PySem.F.args_tuple_count_2 _ _) (SeqAt.tuple_countAt a its n none sl (.int k t) (eqk k)) ⟨at2, fun y hy => (eqk_gives hi y (by simpa using hy)).at _ _, ?_⟩
    exact ⟨.int (ns.count k : Nat), H2, I2.tok _, ⟨s2.toks, by rw [eqk_count hi]⟩, q2⟩
end
end Pu
set_option Elab.async false
set_option linter.all false
set_option maxRecDepth 100000
set_option maxHeartbeats 2000000
set_option autoImplicit false
namespace Pu
open PySem L2

/-! # Pure expressions -/
def pVar (i : Nat) : PX := fun δ P _ => match δ[i]? with | some (some (.d d)) => P d | _ => False
def pVarV (i : Nat) : PX := fun δ P _ => match δ[i]? with | some (some (.d d)) => P d | some (some (.own _ ds)) => P (.lst ds) | _ => False
def pC (d : D) : PX := fun _ P _ => P d
abbrev POp := D → D → (D → Prop) → Prop
def pOp (f : POp) (pa pb : PX) : PX := fun δ P P2 => pa δ (fun x => pb δ (fun y => f x y P) P2) P2
abbrev PUn := D → (D → Prop) → Prop
def pUn (f : PUn) (pa : PX) : PX := fun δ P P2 => pa δ (fun x => f x P) P2

section
variable {X : Cx} {E : St → XK}
theorem LX.v {e : Expr} {te : TE} {pe : PX} (h : LX X E e te pe) : LV X E e te pe :=
  ⟨h.py, fun k s x p q => h.le k s x p fun v d G' H' y r pd => q v d G' H' y (.inl r) pd⟩
theorem LO.x {e : Expr} {te : TE} {pe : PX} (h : LO X E e te pe) : LX X E e te pe :=
  ⟨h.py, fun k s x p q => h.le k s x p fun a xs ds G' H' y hn hp gp r pd =>
    q (.ref a) (.lst ds) _ H' (y.share hn hp gp) (.lst (by show updG G' a _ a = _; exact updG_same) (r.mono (updG_keep gp))) pd⟩
theorem LO.v {e : Expr} {te : TE} {pe : PX} (h : LO X E e te pe) : LV X E e te pe := h.x.v

theorem lx_var (i : Nat) {x : Str} {pos : Pos} (hN : X.N[i]? = some x := by rfl) (hv : Vis X.env.scope x := by first | exact Or.inl rfl | exact Or.inr (Or.inl rfl) | exact Or.inr (Or.inr rfl))
    (hd : (x == ("__debug__" : Str)) = false := by decide) (hcd : (x == ("__classdict__" : Str)) = false := by decide) : LX X E (.Name x pos) (tVar i) (pVar i) := by
  refine ⟨pe_var hN hv hd hcd, fun {δ σ G H H0 Q P P2} k s x p q => ?_⟩
  unfold pVar at p
  split at p
  · rename_i d hd'
    obtain ⟨v, e, r⟩ := s.at_ i _ hd'
    cases r with
    | d r => exact ⟨v, e, q v d G H (.refl k) r p⟩
  · exact p.elim
theorem lv_var (i : Nat) {x : Str} {pos : Pos} (hN : X.N[i]? = some x := by rfl) (hv : Vis X.env.scope x := by first | exact Or.inl rfl | exact Or.inr (Or.inl rfl) | exact Or.inr (Or.inr rfl))
    (hd : (x == ("__debug__" : Str)) = false := by decide) (hcd : (x == ("__classdict__" : Str)) = false := by decide) : LV X E (.Name x pos) (tVar i) (pVarV i) := by
  refine ⟨pe_var hN hv hd hcd, fun {δ σ G H H0 Q P P2} k s x p q => ?_⟩
  unfold pVarV at p
  split at p
  · rename_i d hd'
    obtain ⟨v, e, r⟩ := s.rvD hd'
    exact ⟨v, e, q v _ G H (.refl k) (.inl r) p⟩
  · rename_i oa d hd'
    obtain ⟨v, e, r⟩ := s.rvO hd'
    exact ⟨v, e, q v _ G H (.refl k) r p⟩
  · exact p.elim
theorem lx_int {i : Int} {j : Nat} {pos : Pos} : LX X E (.Constant (.int i) j pos) (tC (.int i)) (pC (.int i)) := ⟨pe_int, fun k s x p q => q _ _ _ _ (.refl k) (.int i) p⟩
theorem lx_bl {b : Bool} {j : Nat} {pos : Pos} : LX X E (.Constant (.bool b) j pos) (tC (.bl b)) (pC (.bl b)) := ⟨pe_bl, fun k s x p q => q _ _ _ _ (.refl k) (.bl b) p⟩
theorem lx_non {j : Nat} {pos : Pos} : LX X E (.Constant .none j pos) (tC .non) (pC .non) := ⟨pe_non, fun k s x p q => q _ _ _ _ (.refl k) .non p⟩
theorem lx_str {x : Str} {j : Nat} {pos : Pos} : LX X E (.Constant (.str x) j pos) (tC (.str x)) (pC (.str x)) := ⟨pe_str, fun k s y p q => q _ _ _ _ (.refl k) (.str x) p⟩
/-- a module's name, whatever it holds -/
theorem lx_glob {x : Str} {v : V} {u : Value} {d : D} {pos : Pos} (hg : Gl X x) (hm : X.mg x = some u) (r : RelV v u) (hR : ∀ G, R (cx X) G v d) (hd : (x == ("__debug__" : Str)) = false := by decide) :
    LX X E (.Name x pos) (tC v) (pC d) := ⟨pe_glob hg hm r hd, fun k s y p q => q _ _ _ _ (.refl k) (hR _) p⟩

/-! ### operators -/
structure OL (X : Cx) (r : R2) (f : POp) : Prop where
  le : ∀ {G : Gp} {H : Hp} {x y : V} {dx dy : D} {Q : VK} {P : D → Prop}, Ok G H → RV (cx X) G H x dx → RV (cx X) G H y dy → f dx dy P →
    (∀ v d G' H', Ext G H G' H' → R (cx X) G' v d → P d → Q v H') → r x y H Q
structure UL (X : Cx) (r : V → Hp → VK → Prop) (f : PUn) : Prop where
  le : ∀ {G : Gp} {H : Hp} {x : V} {dx : D} {Q : VK} {P : D → Prop}, Ok G H → RV (cx X) G H x dx → f dx P →
    (∀ v d G' H', Ext G H G' H' → R (cx X) G' v d → P d → Q v H') → r x H Q
theorem op_le {r : R2} {f : POp} {a b : Expr} {ta tb : TE} {pa pb : PX} (ol : OL X r f) (ha : LV X E a ta pa) (hb : LV X E b tb pb) {δ : Dl} {σ : St} {G : Gp} {H H0 : Hp} {Q : VK} {P : D → Prop} {P2 : Exn → Prop}
    (k : Ok G H) (s : SRel (cx X) H0 G H σ δ) (x : EOk (cx X) G H (E σ) P2) (p : pOp f pa pb δ P P2) (q : ∀ v d G' H', Ext G H G' H' → R (cx X) G' v d → P d → Q v H') : tOp r ta tb σ H Q := by
  refine ha.le k s x p fun v d G1 H1 y1 r1 p1 => ?_
  refine hb.le y1.ok (s.ext y1) (x.ext y1) p1 fun u d2 G2 H2 y2 r2 p2 => ?_
  exact ol.le y2.ok (r1.ext y2) r2 p2 fun w d3 G3 H3 y3 r3 p3 => q w d3 G3 H3 ((y1.trans y2).trans y3) r3 p3
theorem lx_bin {op : Operator} {r : R2} {f : POp} {a b : Expr} {ta tb : TE} {pa pb : PX} {pos : Pos} (ho : OpR X (binaryOp op) r) (ol : OL X r f) (ha : LV X E a ta pa) (hb : LV X E b tb pb) : LX X E (.BinOp a op b pos) (tOp r ta tb) (pOp f pa pb) :=
  ⟨pe_op ho ha.py hb.py, op_le ol ha hb⟩
theorem lx_cmp {op : CmpOp} {r : R2} {f : POp} {a b : Expr} {ta tb : TE} {pa pb : PX} {pos : Pos} (ho : OpR X (compareOp op) r) (ol : OL X r f) (ha : LV X E a ta pa) (hb : LV X E b tb pb) (hm : behindInMarks op b = false) : LX X E (.Compare a [op] [b] pos) (tOp r ta tb) (pOp f pa pb) :=
  ⟨pe_cmpR ho ha.py hb.py hm, op_le ol ha hb⟩
theorem lx_un {op : UnaryOp} {r : V → Hp → VK → Prop} {f : PUn} {a : Expr} {ta : TE} {pa : PX} {pos : Pos} (ho : UnR X (unaryOp op) r) (ol : UL X r f) (ha : LV X E a ta pa) : LX X E (.UnaryOp op a pos) (tUn r ta) (pUn f pa) :=
  ⟨pe_un ho ha.py, fun k s x p q => ha.le k s x p fun v d G1 H1 y1 r1 p1 => ol.le y1.ok r1 p1 fun w d3 G3 H3 y3 r3 p3 => q w d3 G3 H3 (y1.trans y3) r3 p3⟩
theorem OL.or {r r' : R2} {f f' : POp} (h : OL X r f) (h' : OL X r' f') : OL X (fun x y H Q => r x y H Q ∨ r' x y H Q) (fun x y P => f x y P ∨ f' x y P) :=
  ⟨fun k rx ry p q => by
    rcases p with p | p
    · exact .inl (h.le k rx ry p q)
    · exact .inr (h'.le k rx ry p q)⟩
theorem RV.int {C : Ctx} {G : Gp} {H : Hp} {v : V} {i : Int} (r : RV C G H v (.int i)) : v = .int i := by
  cases r.scal (fun _ z => by cases z) with
  | int i => rfl
theorem RV.bl {C : Ctx} {G : Gp} {H : Hp} {v : V} {i : Bool} (r : RV C G H v (.bl i)) : v = .bl i := by
  cases r.scal (fun _ z => by cases z) with
  | bl i => rfl
theorem RV.str {C : Ctx} {G : Gp} {H : Hp} {v : V} {i : Str} (r : RV C G H v (.str i)) : v = .str i := by
  cases r.scal (fun _ z => by cases z) with
  | str i => rfl
/-- ints in, an int or a bool out -/
def fI (C : Int → Int → Prop) (g : Int → Int → D) : POp := fun x y P => match x, y with | .int i, .int j => C i j ∧ P (g i j) | _, _ => False
theorem ol_I {C : Int → Int → Prop} {g : Int → Int → V} {gd : Int → Int → D} (hR : ∀ Cx G i j, R Cx G (g i j) (gd i j)) : OL X (rI C g) (fI C gd) := by
  refine ⟨fun {G H x y dx dy Q P} k rx ry p q => ?_⟩
  unfold fI at p
  split at p
  · exact ⟨_, _, rx.int, ry.int, p.1, q _ _ _ _ (.refl k) (hR _ _ _ _) p.2⟩
  · exact p.elim
def fI0 (g : Int → Int → D) : POp := fun x y P => match x, y with | .int i, .int j => P (g i j) | _, _ => False
theorem ol_I0 {g : Int → Int → V} {gd : Int → Int → D} (hR : ∀ Cx G i j, R Cx G (g i j) (gd i j)) : OL X (rI0 g) (fI0 gd) := by
  refine ⟨fun {G H x y dx dy Q P} k rx ry p q => ?_⟩
  unfold fI0 at p
  split at p
  · exact ⟨_, _, rx.int, ry.int, q _ _ _ _ (.refl k) (hR _ _ _ _) p⟩
  · exact p.elim
abbrev fLt : POp := fI0 fun i j => .bl (decide (i < j))
abbrev fLe : POp := fI0 fun i j => .bl (decide (i ≤ j))
abbrev fGt : POp := fI0 fun i j => .bl (decide (j < i))
abbrev fGe : POp := fI0 fun i j => .bl (decide (j ≤ i))
abbrev fSub : POp := fI0 fun i j => .int (i - j)
abbrev fMod : POp := fI (fun _ j => 0 < j) fun i j => .int (i % j)
abbrev fDiv : POp := fI CDivW fun i j => .int (i / j)
abbrev fPow : POp := fI CPow fun i j => .int (i ^ j.toNat)
theorem ol_lt : OL X (rI0 fun i j => .bl (decide (i < j))) fLt := ol_I0 fun _ _ _ _ => .bl _
theorem ol_le : OL X (rI0 fun i j => .bl (decide (i ≤ j))) fLe := ol_I0 fun _ _ _ _ => .bl _
theorem ol_gt : OL X (rI0 fun i j => .bl (decide (j < i))) fGt := ol_I0 fun _ _ _ _ => .bl _
theorem ol_ge : OL X (rI0 fun i j => .bl (decide (j ≤ i))) fGe := ol_I0 fun _ _ _ _ => .bl _
theorem ol_sub : OL X (rI0 fun i j => .int (i - j)) fSub := ol_I0 fun _ _ _ _ => .int _
theorem ol_mod : OL X (rI (fun _ j => 0 < j) fun i j => .int (i % j)) fMod := ol_I fun _ _ _ _ => .int _
theorem ol_div : OL X (rI CDivW fun i j => .int (i / j)) fDiv := ol_I fun _ _ _ _ => .int _
theorem ol_pow : OL X (rI CPow fun i j => .int (i ^ j.toNat)) fPow := ol_I fun _ _ _ _ => .int _

abbrev szl : Nat := 16777216
/-- a + b: ints, lists, tuples, texts -/
def fAdd : POp := fun x y P => match x, y with
  | .int i, .int j => P (.int (i + j))
  | .lst a, .lst b => a.length + b.length ≤ szl ∧ P (.lst (a ++ b))
  | .tup a, .tup b => a.length + b.length ≤ szl ∧ P (.tup (a ++ b))
  | .str a, .str b => a.length + b.length ≤ szl ∧ P (.str (a ++ b))
  | _, _ => False
def rAddStr : R2 := fun x y H Q => ∃ i j, x = .str i ∧ y = .str j ∧ i.length + j.length ≤ sizeLine ∧ Q (.str (i ++ j)) H
def rAddAll (K : PySem.W.Frag) : R2 := fun x y H Q => (rI0 fun i j => .int (i + j)) x y H Q ∨ rCat x y H Q ∨ rCatN K x y H Q ∨ rAddStr x y H Q
theorem op_addAll : OpR X (binaryOp .Add) (rAddAll X.K) := op_add.or (op_cat.or (op_catN.or op_add_str))
theorem RV.tupR {C : Ctx} {G : Gp} {H : Hp} {v : V} {ds : List D} (r : RV C G H v (.tup ds)) : R C G v (.tup ds) := r.scal fun _ z => by cases z
theorem ol_add : OL X (rAddAll X.K) fAdd := by
  refine ⟨fun {G H x y dx dy Q P} k rx ry p q => ?_⟩
  unfold fAdd at p
  split at p
  · exact .inl ⟨_, _, rx.int, ry.int, q _ _ _ _ (.refl k) (.int _) p⟩
  · obtain ⟨a, xs, e1, h1, r1⟩ := rx.lst k
    obtain ⟨b, ys, e2, h2, r2⟩ := ry.lst k
    refine .inr (.inl ⟨a, b, xs, ys, e1, e2, h1, h2, by rw [r1.length, r2.length, sizeLine_eq]; exact p.1, fun l hl => ?_⟩)
    exact q _ (.lst _) _ _ (Ext.newG k hl) (.lst (by show updG G l _ l = _; exact updG_same) ((r1.append r2).mono (updG_keep (k.none_of hl)))) p.2
  · have rx' := rx.tupR
    have ry' := ry.tupR
    obtain ⟨a, xs, e1, h1, r1⟩ := rx.tup k
    obtain ⟨b, ys, e2, h2, r2⟩ := ry.tup k
    have l1 := r1.length
    have l2 := r2.length
    refine .inr (.inr (.inl ⟨a, b, xs, ys, e1, e2, h1, h2, by rw [l1, l2, sizeLine_eq]; exact p.1, fun z => ?_, fun _ z => ?_, fun _ _ l o hl ho => ?_⟩))
    · subst z
      have e : _ = [] := List.eq_nil_of_length_eq_zero l1.symm
      have p2 := p.2
      rw [e, List.nil_append] at p2
      rw [← e2]
      exact q _ _ _ _ (.refl k) ry' p2
    · subst z
      have e : _ = [] := List.eq_nil_of_length_eq_zero l2.symm
      have p2 := p.2
      rw [e, List.append_nil] at p2
      rw [← e1]
      exact q _ _ _ _ (.refl k) rx' p2
    · obtain ⟨x1, x2⟩ := Ext.newT (C := cx X) (o := o) k hl ho (r1.append r2)
      exact q _ (.tup _) _ _ x1 x2 p.2
  · exact .inr (.inr (.inr ⟨_, _, rx.str, ry.str, by rw [sizeLine_eq]; exact p.1, q _ _ _ _ (.refl k) (.str _) p.2⟩))
  · exact p.elim
/-- a * b: ints; a list, an int -/
def mulOk (i j : Int) : Prop := CMul i j ∨ CMulW i j
def fMul : POp := fun x y P => match x, y with
  | .int i, .int j => mulOk i j ∧ P (.int (i * j))
  | .lst a, .int j => -(2 ^ 63) ≤ j ∧ j < 2 ^ 63 ∧ a.length * j.toNat ≤ szl ∧ P (.lst (List.replicate j.toNat a).flatten)
  | _, _ => False
def rMulAll : R2 := fun x y H Q => (rI CMul fun i j => .int (i * j)) x y H Q ∨ (rI CMulW fun i j => .int (i * j)) x y H Q ∨ rRep x y H Q
theorem op_mulAll : OpR X (binaryOp .Mult) rMulAll := op_mul.or (op_mulW.or op_rep)
theorem RAll.rep {C : Ctx} {G : Gp} {xs : List V} {ds : List D} (r : RAll C G xs ds) : ∀ n : Nat, RAll C G (List.replicate n xs).flatten (List.replicate n ds).flatten
  | 0 => .nil
  | n + 1 => by
    rw [List.replicate_succ, List.replicate_succ, List.flatten_cons, List.flatten_cons]
    exact r.append (RAll.rep r n)
theorem ol_mul : OL X rMulAll fMul := by
  refine ⟨fun {G H x y dx dy Q P} k rx ry p q => ?_⟩
  unfold fMul at p
  split at p
  · rcases p.1 with c | c
    · exact .inl ⟨_, _, rx.int, ry.int, c, q _ _ _ _ (.refl k) (.int _) p.2⟩
    · exact .inr (.inl ⟨_, _, rx.int, ry.int, c, q _ _ _ _ (.refl k) (.int _) p.2⟩)
  · obtain ⟨a, xs, e1, h1, r1⟩ := rx.lst k
    refine .inr (.inr ⟨a, _, xs, e1, ry.int, h1, p.1, p.2.1, by rw [r1.length, sizeLine_eq]; exact p.2.2.1, fun l hl => ?_⟩)
    exact q _ (.lst _) _ _ (Ext.newG k hl) (.lst (by show updG G l _ l = _; exact updG_same) ((r1.rep _).mono (updG_keep (k.none_of hl)))) p.2.2.2
  · exact p.elim
def fNeg : PUn := fun x P => match x with | .int i => P (.int (-i)) | _ => False
theorem ul_neg : UL X (rU fun i => .int (-i)) fNeg := by
  refine ⟨fun {G H x dx Q P} k rx p q => ?_⟩
  unfold fNeg at p
  split at p
  · exact ⟨_, rx.int, q _ _ _ _ (.refl k) (.int _) p⟩
  · exact p.elim

/-! ### == -/
mutual
def toPy : D → Option PyData
  | .non => some .none
  | .bl b => some (.bool b)
  | .int i => some (.int i)
  | .str x => some (.str x)
  | .lst ds => (toPyAll ds).map .list
  | .tup ds => (toPyAll ds).map .tuple
  | .obj _ _ => none
  | .pool => none
  | .cls _ => none
  | .script _ => none
  | .pin _ _ => none
def toPyAll : List D → Option (List PyData)
  | [] => some []
  | d :: ds => match toPy d, toPyAll ds with
    | some a, some b => some (a :: b)
    | _, _ => none
end
section
variable {C : Ctx} {G : Gp} {H : Hp}
mutual
theorem dp_R (k : Ok G H) : ∀ {v : V} {d : D} {p : PyData}, R C G v d → toPy d = some p → Dp C.K H v p
  | _, _, _, .non, e => by cases e; exact .non
  | _, _, _, .bl b, e => by cases e; exact .bl b
  | _, _, _, .int i, e => by cases e; exact .int i
  | _, _, _, .str x, e => by cases e; exact .str x
  | _, .lst ds, p, .lst h r, e => by
    unfold toPy at e
    cases e2 : toPyAll ds with
    | none => rw [e2] at e; cases e
    | some ps => rw [e2] at e; cases e; exact .lst (SqL.of (k.fz h)) (dp_RAll k r e2)
  | _, .tup ds, p, .tup h r, e => by
    unfold toPy at e
    cases e2 : toPyAll ds with
    | none => rw [e2] at e; cases e
    | some ps => rw [e2] at e; cases e; exact .tup (h.seq k) (dp_RAll k r e2)
  | _, _, _, .obj _ _ _ _, e => by unfold toPy at e; cases e
  | _, _, _, .pool _, e => by unfold toPy at e; cases e
  | _, _, _, .cls _, e => by unfold toPy at e; cases e
  | _, _, _, .script _, e => by unfold toPy at e; cases e
  | _, _, _, .pin _, e => by unfold toPy at e; cases e
theorem dp_RAll (k : Ok G H) : ∀ {vs : List V} {ds : List D} {ps : List PyData}, RAll C G vs ds → toPyAll ds = some ps → DpAll C.K H vs ps
  | _, _, _, .nil, e => by unfold toPyAll at e; cases e; exact .nil
  | _, d :: ds, _, .cons r t, e => by
    unfold toPyAll at e
    cases e1 : toPy d with
    | none => rw [e1] at e; cases e
    | some a =>
      cases e2 : toPyAll ds with
      | none => rw [e1, e2] at e; cases e
      | some b => rw [e1, e2] at e; cases e; exact .cons (dp_R k r e1) (dp_RAll k t e2)
end
theorem dp_RV (k : Ok G H) {v : V} {d : D} {p : PyData} (r : RV C G H v d) (e : toPy d = some p) : Dp C.K H v p := by
  rcases r with r | ⟨a, xs, ds, rfl, rfl, h, g, r⟩
  · exact dp_R k r e
  · unfold toPy at e
    cases e2 : toPyAll ds with
    | none => rw [e2] at e; cases e
    | some ps => rw [e2] at e; cases e; exact .lst (SqL.of h) (dp_RAll k r e2)
end
def fEq : POp := fun x y P => ∃ a b, toPy x = some a ∧ toPy y = some b ∧ SeqAt.shaped a = true ∧ SeqAt.shaped b = true ∧ P (.bl (PyData.eqv a b))
def fNe : POp := fun x y P => ∃ a b, toPy x = some a ∧ toPy y = some b ∧ SeqAt.shaped a = true ∧ SeqAt.shaped b = true ∧ P (.bl (!PyData.eqv a b))
theorem ol_eq : OL X (rEqD X.K) fEq := ⟨fun k rx ry ⟨a, b, ea, eb, sa, sb, p⟩ q => ⟨a, b, dp_RV k rx ea, dp_RV k ry eb, sa, sb, q _ _ _ _ (.refl k) (.bl _) p⟩⟩
theorem ol_ne : OL X (rNeD X.K) fNe := ⟨fun k rx ry ⟨a, b, ea, eb, sa, sb, p⟩ q => ⟨a, b, dp_RV k rx ea, dp_RV k ry eb, sa, sb, q _ _ _ _ (.refl k) (.bl _) p⟩⟩
/-- is None -/
def isNon : D → Bool
  | .non => true
  | _ => false
def rIsN : R2 := fun x y H Q => y = .non ∧ Q (.bl (decide (x = .non))) H
theorem dec_non {C : Ctx} {G : Gp} {H : Hp} {v : V} {d : D} (r : RV C G H v d) : decide (v = .non) = isNon d := by
  rcases r with r | ⟨a, xs, ds, rfl, rfl, h, g, r⟩
  · cases r <;> rfl
  · rfl
def fIsN : POp := fun x y P => match y with | .non => P (.bl (isNon x)) | _ => False
def fNotN : POp := fun x y P => match y with | .non => P (.bl (!isNon x)) | _ => False

theorem ol_isN : OL X (fun x y H Q => y = .non ∧ Q (.bl (decide (x = .non))) H) fIsN := by
  refine ⟨fun {G H x y dx dy Q P} k rx ry p q => ?_⟩
  unfold fIsN at p
  split at p
  · cases ry.scal (fun _ z => by cases z) with
    | non => exact ⟨rfl, by rw [dec_non rx]; exact q _ _ _ _ (.refl k) (.bl _) p⟩
  · exact p.elim
theorem ol_notN : OL X (fun x y H Q => y = .non ∧ Q (.bl (!decide (x = .non))) H) fNotN := by
  refine ⟨fun {G H x y dx dy Q P} k rx ry p q => ?_⟩
  unfold fNotN at p
  split at p
  · cases ry.scal (fun _ z => by cases z) with
    | non => exact ⟨rfl, by rw [dec_non rx]; exact q _ _ _ _ (.refl k) (.bl _) p⟩
  · exact p.elim
/-- is, is not of bools -/
def fIsB : POp := fun x y P => match x, y with | .bl a, .bl b => P (.bl (decide (a = b))) | _, _ => False
def fNotB : POp := fun x y P => match x, y with | .bl a, .bl b => P (.bl (!decide (a = b))) | _, _ => False
theorem ol_isB : OL X rIsB fIsB := by
  refine ⟨fun {G H x y dx dy Q P} k rx ry p q => ?_⟩
  unfold fIsB at p
  split at p
  · exact ⟨_, _, rx.bl, ry.bl, q _ _ _ _ (.refl k) (.bl _) p⟩
  · exact p.elim
theorem ol_notB : OL X rNotB fNotB := by
  refine ⟨fun {G H x y dx dy Q P} k rx ry p q => ?_⟩
  unfold fNotB at p
  split at p
  · exact ⟨_, _, rx.bl, ry.bl, q _ _ _ _ (.refl k) (.bl _) p⟩
  · exact p.elim
/-! ### in -/
def flatD : D → Bool
  | .non => true
  | .bl _ => true
  | .int _ => true
  | .str _ => true
  | _ => false
def eqF : D → D → Bool
  | .non, .non => true
  | .bl a, .bl b => a == b
  | .bl a, .int b => (if a then 1 else 0) == b
  | .int a, .bl b => a == (if b then 1 else 0)
  | .int a, .int b => a == b
  | .str a, .str b => a == b
  | _, _ => false
def inF (x : D) (xs : List D) : Bool := xs.any fun y => eqF y x
theorem flatR {C : Ctx} {G : Gp} {v : V} {d : D} (r : R C G v d) (h : flatD d = true) : flatV v = true := by
  cases r <;> first | rfl | cases h
theorem flatRAll {C : Ctx} {G : Gp} : ∀ {vs : List V} {ds : List D}, RAll C G vs ds → ds.all flatD = true → vs.all flatV = true
  | _, _, .nil, _ => rfl
  | _, _, .cons r t, h => by
    simp only [List.all_cons, Bool.and_eq_true] at h ⊢
    exact ⟨flatR r h.1, flatRAll t h.2⟩
theorem eqFR {C : Ctx} {G : Gp} {v w : V} {d e : D} (r : R C G v d) (t : R C G w e) (h : flatD d = true) (h2 : flatD e = true) : eqV v w = eqF d e := by
  cases r <;> cases t <;> first | rfl | cases h | cases h2
theorem inFR {C : Ctx} {G : Gp} {v : V} {d : D} (r : R C G v d) (h : flatD d = true) : ∀ {vs : List V} {ds : List D}, RAll C G vs ds → ds.all flatD = true → inV v vs = inF d ds
  | _, _, .nil, _ => rfl
  | _, _, .cons r1 t, h2 => by
    simp only [List.all_cons, Bool.and_eq_true] at h2
    have ih := inFR r h t h2.2
    unfold inV inF at ih ⊢
    rw [List.any_cons, List.any_cons, eqFR r1 r h2.1 h, ih]
/-- the items of a list or tuple -/
def itemsD : D → Option (List D)
  | .lst ds => some ds
  | .tup ds => some ds
  | _ => none
theorem RV.items {C : Ctx} {G : Gp} {H : Hp} {v : V} {d : D} {ds : List D} (k : Ok G H) (r : RV C G H v d) (e : itemsD d = some ds) : ∃ a xs, v = .ref a ∧ (SqL C.K H a xs ∨ SqT C.K H a xs) ∧ RAll C G xs ds := by
  unfold itemsD at e
  split at e
  · cases e
    obtain ⟨a, xs, e, h, r⟩ := r.lst k
    exact ⟨a, xs, e, .inl (SqL.of h), r⟩
  · cases e
    obtain ⟨a, xs, e, h, r⟩ := r.tup k
    exact ⟨a, xs, e, .inr h, r⟩
  · cases e
def fIn (neg : Bool) : POp := fun x y P => flatD x = true ∧ ∃ ds, itemsD y = some ds ∧ ds.all flatD = true ∧ P (.bl (if neg then !inF x ds else inF x ds))
theorem RV.flat {C : Ctx} {G : Gp} {H : Hp} {v : V} {d : D} (r : RV C G H v d) (h : flatD d = true) : R C G v d := r.scal fun ds z => by rw [z] at h; cases h
theorem ol_in {neg : Bool} : OL X (rIn X.K neg) (fIn neg) := by
  refine ⟨fun {G H x y dx dy Q P} k rx ry ⟨fx, ds, ey, fs, p⟩ q => ?_⟩
  obtain ⟨a, xs, e, h, r⟩ := ry.items k ey
  refine ⟨a, xs, e, h, flatR (rx.flat fx) fx, flatRAll r fs, ?_⟩
  rw [inFR (rx.flat fx) fx r fs]
  exact q _ _ _ _ (.refl k) (.bl _) p
/-- in a list of data of any depth -/
def fInD (neg : Bool) : POp := fun x y P => ∃ d ds, toPy x = some d ∧ toPy y = some (.list ds) ∧ SeqAt.shaped d = true ∧ SeqAt.shaped (.list ds) = true ∧ P (.bl (if neg then !(ds.any fun z => PyData.eqv z d) else ds.any fun z => PyData.eqv z d))

/-! ### argument lists -/
inductive RVAll (C : Ctx) (G : Gp) (H : Hp) : List V → List D → Prop
  | nil : RVAll C G H [] []
  | cons {v d vs ds} : RV C G H v d → RVAll C G H vs ds → RVAll C G H (v :: vs) (d :: ds)
def pNil : PAx := fun _ P _ => P []
def pCons (pe : PX) (pa : PAx) : PAx := fun δ P P2 => pe δ (fun x => pa δ (fun xs => P (x :: xs)) P2) P2
theorem la_nil : LA X E [] tNil pNil := ⟨pa_nil, fun k s x p q => q _ _ _ _ (.refl k) .nil p⟩
theorem la_cons {e : Expr} {es : List Expr} {te : TE} {ta : TA} {pe : PX} {pa : PAx} (he : LX X E e te pe) (ha : LA X E es ta pa) (hs : starEach (e :: es) X.env = (false, eval e X.env) :: starEach es X.env := by rfl) : LA X E (e :: es) (tCons te ta) (pCons pe pa) :=
  ⟨pa_cons he.py ha.py hs, fun k s x p q => he.le k s x p fun v d G1 H1 y1 r1 p1 => ha.le y1.ok (s.ext y1) (x.ext y1) p1 fun vs ds G2 H2 y2 r2 p2 =>
    q _ _ G2 H2 (y1.trans y2) (.cons (r1.mono y2.g) r2) p2⟩
/-- .. that are looked at only -/
structure LW (X : Cx) (E : St → XK) (es : List Expr) (ta : TA) (pa : PAx) : Prop where
  py : PA X es ta
  le : ∀ {δ : Dl} {σ : St} {G : Gp} {H H0 : Hp} {Q : List V → Hp → Prop} {P : List D → Prop} {P2 : Exn → Prop}, Ok G H → SRel (cx X) H0 G H σ δ → EOk (cx X) G H (E σ) P2 → pa δ P P2 →
    (∀ vs ds G' H', Ext G H G' H' → RVAll (cx X) G' H' vs ds → P ds → Q vs H') → ta σ H Q
theorem lw_nil : LW X E [] tNil pNil := ⟨pa_nil, fun k s x p q => q _ _ _ _ (.refl k) .nil p⟩
theorem lw_cons {e : Expr} {es : List Expr} {te : TE} {ta : TA} {pe : PX} {pa : PAx} (he : LV X E e te pe) (ha : LW X E es ta pa) (hs : starEach (e :: es) X.env = (false, eval e X.env) :: starEach es X.env := by rfl) : LW X E (e :: es) (tCons te ta) (pCons pe pa) :=
  ⟨pa_cons he.py ha.py hs, fun k s x p q => he.le k s x p fun v d G1 H1 y1 r1 p1 => ha.le y1.ok (s.ext y1) (x.ext y1) p1 fun vs ds G2 H2 y2 r2 p2 =>
    q _ _ G2 H2 (y1.trans y2) (.cons (r1.ext y2) r2) p2⟩
/-! ### built-in calls -/
abbrev PFn := List D → (D → Prop) → Prop
structure CL (X : Cx) (r : List V → Hp → VK → Prop) (f : PFn) : Prop where
  le : ∀ {G : Gp} {H : Hp} {vs : List V} {ds : List D} {Q : VK} {P : D → Prop}, Ok G H → RVAll (cx X) G H vs ds → f ds P →
    (∀ v d G' H', Ext G H G' H' → R (cx X) G' v d → P d → Q v H') → r vs H Q
/-- .. that hand back a new list -/
structure CLo (X : Cx) (r : List V → Hp → VK → Prop) (f : PFn) : Prop where
  le : ∀ {G : Gp} {H : Hp} {vs : List V} {ds : List D} {Q : VK} {P : D → Prop}, Ok G H → RVAll (cx X) G H vs ds → f ds P →
    (∀ p xs es G' H', Ext G H G' H' → H p = none → H' p = some (.lst xs) → G' p = none → RAll (cx X) G' xs es → P (.lst es) → Q (.ref p) H') → r vs H Q
def pCB (f : PFn) (pa : PAx) : PX := fun δ P P2 => pa δ (fun ds => f ds P) P2
theorem lx_callB {x : Str} {p pos : Pos} {e : Expr} {es : List Expr} {t : TA} {id : String} {r : List V → Hp → VK → Prop} {f : PFn} {pa : PAx} (hc : CallR X (.builtin id) r) (cl : CL X r f) (hg : Gl X x) (hm : X.mg x = none) (hv : bootBuiltins x = some (.builtin id)) (ha : LW X E (e :: es) t pa)
    (hn : x ≠ "__name__" := by decide) (hdb : (x == ("__debug__" : Str)) = false := by decide)
    (he : starEach (e :: es) X.env = (false, eval e X.env) :: starEach es X.env := by rfl) (hpl : (backTo pos (starEach es X.env)).any (·.1) = false := by rfl) : LX X E (.Call (.Name x p) (e :: es) [] pos) (tCB r t) (pCB f pa) :=
  ⟨pe_callB hc hg hm hv ha.py hn hdb he hpl, fun k s x p q => ha.le k s x p fun vs ds G1 H1 y1 r1 p1 => cl.le y1.ok r1 p1 fun w d3 G3 H3 y3 r3 p3 => q w d3 G3 H3 (y1.trans y3) r3 p3⟩
theorem lx_callT {x : Str} {p pos : Pos} {e : Expr} {es : List Expr} {t : TA} {T : String} {r : List V → Hp → VK → Prop} {f : PFn} {pa : PAx} (hc : CallR X (.type T) r) (cl : CL X r f) (hg : Gl X x) (hm : X.mg x = none) (hv : bootBuiltins x = some (.type T)) (ha : LW X E (e :: es) t pa)
    (hn : x ≠ "__name__" := by decide) (hdb : (x == ("__debug__" : Str)) = false := by decide)
    (he : starEach (e :: es) X.env = (false, eval e X.env) :: starEach es X.env := by rfl) (hpl : (backTo pos (starEach es X.env)).any (·.1) = false := by rfl) : LX X E (.Call (.Name x p) (e :: es) [] pos) (tCB r t) (pCB f pa) :=
  ⟨pe_callTy hc hg hm hv ha.py hn hdb he hpl, fun k s x p q => ha.le k s x p fun vs ds G1 H1 y1 r1 p1 => cl.le y1.ok r1 p1 fun w d3 G3 H3 y3 r3 p3 => q w d3 G3 H3 (y1.trans y3) r3 p3⟩
theorem lo_callB {x : Str} {p pos : Pos} {e : Expr} {es : List Expr} {t : TA} {id : String} {r : List V → Hp → VK → Prop} {f : PFn} {pa : PAx} (hc : CallR X (.builtin id) r) (cl : CLo X r f) (hg : Gl X x) (hm : X.mg x = none) (hv : bootBuiltins x = some (.builtin id)) (ha : LW X E (e :: es) t pa)
    (hn : x ≠ "__name__" := by decide) (hdb : (x == ("__debug__" : Str)) = false := by decide)
    (he : starEach (e :: es) X.env = (false, eval e X.env) :: starEach es X.env := by rfl) (hpl : (backTo pos (starEach es X.env)).any (·.1) = false := by rfl) : LO X E (.Call (.Name x p) (e :: es) [] pos) (tCB r t) (pCB f pa) :=
  ⟨pe_callB hc hg hm hv ha.py hn hdb he hpl, fun k s x p q => ha.le k s x p fun vs ds G1 H1 y1 r1 p1 => cl.le y1.ok r1 p1 fun l xs es G3 H3 y3 hn3 hp gp r3 p3 =>
    q l xs es G3 H3 (y1.trans y3) (y1.back hn3) hp gp r3 p3⟩
theorem lo_callT {x : Str} {p pos : Pos} {e : Expr} {es : List Expr} {t : TA} {T : String} {r : List V → Hp → VK → Prop} {f : PFn} {pa : PAx} (hc : CallR X (.type T) r) (cl : CLo X r f) (hg : Gl X x) (hm : X.mg x = none) (hv : bootBuiltins x = some (.type T)) (ha : LW X E (e :: es) t pa)
    (hn : x ≠ "__name__" := by decide) (hdb : (x == ("__debug__" : Str)) = false := by decide)
    (he : starEach (e :: es) X.env = (false, eval e X.env) :: starEach es X.env := by rfl) (hpl : (backTo pos (starEach es X.env)).any (·.1) = false := by rfl) : LO X E (.Call (.Name x p) (e :: es) [] pos) (tCB r t) (pCB f pa) :=
  ⟨pe_callTy hc hg hm hv ha.py hn hdb he hpl, fun k s x p q => ha.le k s x p fun vs ds G1 H1 y1 r1 p1 => cl.le y1.ok r1 p1 fun l xs es G3 H3 y3 hn3 hp gp r3 p3 =>
    q l xs es G3 H3 (y1.trans y3) (y1.back hn3) hp gp r3 p3⟩
theorem RVAll.one {C : Ctx} {G : Gp} {H : Hp} {vs : List V} {d : D} (r : RVAll C G H vs [d]) : ∃ v, vs = [v] ∧ RV C G H v d := by
  cases r with
  | cons r t => cases t; exact ⟨_, rfl, r⟩
theorem RVAll.two {C : Ctx} {G : Gp} {H : Hp} {vs : List V} {d e : D} (r : RVAll C G H vs [d, e]) : ∃ v w, vs = [v, w] ∧ RV C G H v d ∧ RV C G H w e := by
  cases r with
  | cons r t =>
    obtain ⟨w, rfl, r2⟩ := t.one
    exact ⟨_, _, rfl, r, r2⟩
/-- len -/
def fLen : PFn := fun ds P => match ds with | [.lst a] => P (.int a.length) | [.tup a] => P (.int a.length) | [.str x] => x.length ≤ szl ∧ P (.int x.length) | [.pin _ ns] => P (.int ns.length) | _ => False
theorem cl_len : CL X (fun xs H Q => ∃ x n, xs = [x] ∧ LenV X.K x H n ∧ Q (.int n) H) fLen := by
  refine ⟨fun {G H vs ds Q P} k r0 p q => ?_⟩
  unfold fLen at p
  split at p
  · obtain ⟨v, rfl, r⟩ := r0.one
    obtain ⟨a, xs, rfl, h, r⟩ := r.lst k
    exact ⟨_, _, rfl, .inl ⟨xs, SqL.of h, rfl⟩, by rw [r.length]; exact q _ _ _ _ (.refl k) (.int _) p⟩
  · obtain ⟨v, rfl, r⟩ := r0.one
    obtain ⟨a, xs, rfl, h, r⟩ := r.tup k
    exact ⟨_, _, rfl, .inr ⟨xs, h, rfl⟩, by rw [r.length]; exact q _ _ _ _ (.refl k) (.int _) p⟩
  · obtain ⟨v, rfl, r⟩ := r0.one
    obtain rfl := r.str
    exact ⟨_, _, rfl, ⟨by rw [sizeLine_eq]; exact p.1, rfl⟩, q _ _ _ _ (.refl k) (.int _) p.2⟩
  · obtain ⟨v, rfl, r⟩ := r0.one
    cases r.scal (fun _ z => by cases z) with
    | pin h => exact ⟨_, _, rfl, .inl ⟨_, SqL.of (k.fz h), rfl⟩, by rw [List.length_map]; exact q _ _ _ _ (.refl k) (.int _) p⟩
  · exact p.elim
def fAbs : PFn := fun ds P => match ds with | [.int i] => P (.int (if i < 0 then -i else i)) | _ => False
theorem cl_abs : CL X (fun xs H Q => ∃ i, xs = [.int i] ∧ Q (.int (if i < 0 then -i else i)) H) fAbs := by
  refine ⟨fun {G H vs ds Q P} k r0 p q => ?_⟩
  unfold fAbs at p
  split at p
  · obtain ⟨v, rfl, r⟩ := r0.one
    obtain rfl := r.int
    exact ⟨_, rfl, q _ _ _ _ (.refl k) (.int _) p⟩
  · exact p.elim
def fMax2 : PFn := fun ds P => match ds with | [.int i, .int j] => P (.int (if j > i then j else i)) | _ => False
theorem cl_max2 : CL X (fun xs H Q => ∃ i j, xs = [.int i, .int j] ∧ Q (.int (if j > i then j else i)) H) fMax2 := by
  refine ⟨fun {G H vs ds Q P} k r0 p q => ?_⟩
  unfold fMax2 at p
  split at p
  · obtain ⟨v, w, rfl, r, r2⟩ := r0.two
    obtain rfl := r.int
    obtain rfl := r2.int
    exact ⟨_, _, rfl, q _ _ _ _ (.refl k) (.int _) p⟩
  · exact p.elim
def fMin2 : PFn := fun ds P => match ds with | [.int i, .int j] => P (.int (if j < i then j else i)) | _ => False
theorem cl_min2 : CL X (fun xs H Q => ∃ i j, xs = [.int i, .int j] ∧ Q (.int (if j < i then j else i)) H) fMin2 := by
  refine ⟨fun {G H vs ds Q P} k r0 p q => ?_⟩
  unfold fMin2 at p
  split at p
  · obtain ⟨v, w, rfl, r, r2⟩ := r0.two
    obtain rfl := r.int
    obtain rfl := r2.int
    exact ⟨_, _, rfl, q _ _ _ _ (.refl k) (.int _) p⟩
  · exact p.elim
def fInt : PFn := fun ds P => match ds with | [.int i] => P (.int i) | [.bl b] => P (.int (if b then 1 else 0)) | _ => False
theorem cl_int : CL X (fun xs H Q => (∃ i, xs = [.int i] ∧ Q (.int i) H) ∨ ∃ k, xs = [.bl k] ∧ Q (.int (if k then 1 else 0)) H) fInt := by
  refine ⟨fun {G H vs ds Q P} k r0 p q => ?_⟩
  unfold fInt at p
  split at p
  · obtain ⟨v, rfl, r⟩ := r0.one
    obtain rfl := r.int
    exact .inl ⟨_, rfl, q _ _ _ _ (.refl k) (.int _) p⟩
  · obtain ⟨v, rfl, r⟩ := r0.one
    obtain rfl := r.bl
    exact .inr ⟨_, rfl, q _ _ _ _ (.refl k) (.int _) p⟩
  · exact p.elim
def fBool : PFn := fun ds P => match ds with | [.int i] => P (.bl (i != 0)) | [.bl b] => P (.bl b) | _ => False
theorem cl_bool : CL X (fun xs H Q => (∃ i, xs = [.int i] ∧ Q (.bl (i != 0)) H) ∨ ∃ k, xs = [.bl k] ∧ Q (.bl k) H) fBool := by
  refine ⟨fun {G H vs ds Q P} k r0 p q => ?_⟩
  unfold fBool at p
  split at p
  · obtain ⟨v, rfl, r⟩ := r0.one
    obtain rfl := r.int
    exact .inl ⟨_, rfl, q _ _ _ _ (.refl k) (.bl _) p⟩
  · obtain ⟨v, rfl, r⟩ := r0.one
    obtain rfl := r.bl
    exact .inr ⟨_, rfl, q _ _ _ _ (.refl k) (.bl _) p⟩
  · exact p.elim
/-- the ints of a row of ints -/
def intsD : List D → Option (List Int)
  | [] => some []
  | .int i :: ds => (intsD ds).map (i :: ·)
  | _ :: _ => none
theorem intsD_map : ∀ ns : List Int, intsD (ns.map D.int) = some ns
  | [] => rfl
  | n :: ns => by rw [List.map_cons]; unfold intsD; rw [intsD_map ns]; rfl
theorem intsD_eq : ∀ {ds : List D} {ns : List Int}, intsD ds = some ns → ds = ns.map D.int
  | [], ns, h => by cases h; rfl
  | .int i :: ds, ns, h => by
    unfold intsD at h
    cases e : intsD ds with
    | none => rw [e] at h; cases h
    | some ms => rw [e] at h; cases h; rw [List.map_cons, intsD_eq e]
  | .non :: _, _, h => by cases h
  | .bl _ :: _, _, h => by cases h
  | .str _ :: _, _, h => by cases h
  | .lst _ :: _, _, h => by cases h
  | .tup _ :: _, _, h => by cases h
  | .obj _ _ :: _, _, h => by cases h
  | .pool :: _, _, h => by cases h
  | .cls _ :: _, _, h => by cases h
  | .script _ :: _, _, h => by cases h
  | .pin _ _ :: _, _, h => by cases h
/-- sum, max, min of a list of ints -/
def fSum : PFn := fun ds P => match ds with | [.lst a] => (match intsD a with | some ns => P (.int ns.sum) | none => False) | _ => False
theorem cl_sum : CL X (rSum X.K) fSum := by
  refine ⟨fun {G H vs ds Q P} k r0 p q => ?_⟩
  unfold fSum at p
  split at p
  · split at p
    · rename_i ns e
      obtain ⟨v, rfl, r⟩ := r0.one
      obtain ⟨a, xs, rfl, h, r⟩ := r.lst k
      rw [intsD_eq e] at r
      rw [r.int] at h
      exact ⟨_, _, rfl, SqL.of h, q _ _ _ _ (.refl k) (.int _) p⟩
    · exact p.elim
  · exact p.elim
def fMaxL : PFn := fun ds P => match ds with | [.lst a] => (match intsD a with | some ns => 0 < ns.length ∧ ∀ m, m ∈ ns → (∀ y, y ∈ ns → y ≤ m) → P (.int m) | none => False) | _ => False
theorem cl_maxL : CL X (rMax X.K) fMaxL := by
  refine ⟨fun {G H vs ds Q P} k r0 p q => ?_⟩
  unfold fMaxL at p
  split at p
  · split at p
    · rename_i ns e
      obtain ⟨v, rfl, r⟩ := r0.one
      obtain ⟨a, xs, rfl, h, r⟩ := r.lst k
      rw [intsD_eq e] at r
      rw [r.int] at h
      exact ⟨_, _, rfl, SqL.of h, p.1, fun m hm hl => q _ _ _ _ (.refl k) (.int _) (p.2 m hm hl)⟩
    · exact p.elim
  · exact p.elim
def fMinL : PFn := fun ds P => match ds with | [.lst a] => (match intsD a with | some ns => 0 < ns.length ∧ ∀ m, m ∈ ns → (∀ y, y ∈ ns → m ≤ y) → P (.int m) | none => False) | _ => False
theorem cl_minL : CL X (rMin X.K) fMinL := by
  refine ⟨fun {G H vs ds Q P} k r0 p q => ?_⟩
  unfold fMinL at p
  split at p
  · split at p
    · rename_i ns e
      obtain ⟨v, rfl, r⟩ := r0.one
      obtain ⟨a, xs, rfl, h, r⟩ := r.lst k
      rw [intsD_eq e] at r
      rw [r.int] at h
      exact ⟨_, _, rfl, SqL.of h, p.1, fun m hm hl => q _ _ _ _ (.refl k) (.int _) (p.2 m hm hl)⟩
    · exact p.elim
  · exact p.elim
/-- list(..), tuple(..) of a list or tuple -/
def fList : PFn := fun ds P => match ds with | [.script ns] => P (.lst (ns.map .int)) | [d] => (match itemsD d with | some es => P (.lst es) | none => False) | _ => False
theorem cl_list : CLo X (fun xs H Q => ∃ p ys, xs = [.ref p] ∧ (SqL X.K H p ys ∨ SqT X.K H p ys) ∧ ∀ l, H l = none → Q (.ref l) (upd H l (.lst ys))) fList := by
  refine ⟨fun {G H vs ds Q P} k r0 p q => ?_⟩
  unfold fList at p
  split at p
  · obtain ⟨v, rfl, r⟩ := r0.one
    cases r.scal (fun _ z => by cases z) with
    | script h => exact ⟨_, _, rfl, .inl (h.seq k), fun l hl => q l _ _ G _ (Ext.new k hl) hl upd_same (k.none_of hl) (RAll.ints _) p⟩
  · split at p
    · rename_i es e
      obtain ⟨v, rfl, r⟩ := r0.one
      obtain ⟨a, xs, rfl, h, r⟩ := r.items k e
      exact ⟨_, _, rfl, h, fun l hl => q l xs es G _ (Ext.new k hl) hl upd_same (k.none_of hl) r p⟩
    · exact p.elim
  · exact p.elim
def fTuple : PFn := fun ds P => match ds with | [d] => (match itemsD d with | some es => P (.tup es) | none => False) | _ => False
theorem cl_tuple : CL X (rTupN X.K) fTuple := by
  refine ⟨fun {G H vs ds Q P} k r0 p q => ?_⟩
  unfold fTuple at p
  split at p
  · rename_i d
    split at p
    · rename_i es e
      obtain ⟨v, rfl, r⟩ := r0.one
      unfold itemsD at e
      split at e
      · cases e
        obtain ⟨a, xs, rfl, h, r⟩ := r.lst k
        exact ⟨_, _, rfl, .inl ⟨SqL.of h, fun l o hl ho => let ⟨x1, x2⟩ := Ext.newT (C := cx X) (o := o) k hl ho r; q _ (.tup _) _ _ x1 x2 p⟩⟩
      · cases e
        have r0 := r.tupR
        obtain ⟨a, xs, rfl, h, r⟩ := r.tup k
        exact ⟨_, _, rfl, .inr ⟨h, q _ _ _ _ (.refl k) r0 p⟩⟩
      · cases e
    · exact p.elim
  · exact p.elim
end
end Pu
set_option Elab.async false
set_option linter.all false
set_option maxRecDepth 100000
set_option maxHeartbeats 2000000
set_option autoImplicit false
namespace Pu
open PySem L2
section
variable {X : Cx} {E : St → XK}
/-! ### truth, tests -/
def truD : D → Option Bool
  | .non => some false
  | .bl b => some b
  | .int i => some (i != 0)
  | .str x => if x.length ≤ szl then some ((x.length : Int) != 0) else none
  | .lst ds => some (!ds.isEmpty)
  | .tup ds => some (!ds.isEmpty)
  | _ => none
theorem RAll.empty {C : Ctx} {G : Gp} {xs : List V} {ds : List D} (r : RAll C G xs ds) : xs.isEmpty = ds.isEmpty := by cases r <;> rfl
theorem RV.tru {C : Ctx} {G : Gp} {H : Hp} {v : V} {d : D} {b : Bool} (k : Ok G H) (r : RV C G H v d) (e : truD d = some b) : TruV C.K v H b := by
  unfold truD at e
  split at e
  · cases e
    cases r.scal (fun _ z => by cases z) with
    | non => rfl
  · cases e
    obtain rfl := r.bl
    rfl
  · cases e
    obtain rfl := r.int
    rfl
  · obtain rfl := r.str
    split at e
    · cases e
      rename_i h
      exact ⟨by rw [sizeLine_eq]; exact h, rfl⟩
    · cases e
  · cases e
    obtain ⟨a, xs, rfl, h, r⟩ := r.lst k
    exact .inl ⟨xs, SqL.of h, by rw [r.empty]⟩
  · cases e
    obtain ⟨a, xs, rfl, h, r⟩ := r.tup k
    exact .inr (.inl ⟨xs, h, by rw [r.empty]⟩)
  · cases e
def pTru (pe : PX) : PTx := fun δ P P2 => pe δ (fun x => match truD x with | some b => P b | none => False) P2
theorem lt_truth {a : Expr} {ta : TE} {pe : PX} (ha : LV X E a ta pe) (he : ∀ whole, isTrue a X.env whole = (do let v ← whole; standAt a.pos; holding [v] (truthy v)) := by intro _; rfl) :
    LT X E a (fun σ H Q => ta σ H fun x H' => ∃ k, TruV X.K x H' k ∧ Q k H') (pTru pe) := by
  refine ⟨pt_truth ha.py he, fun k s x p q => ha.le k s x p fun v d G1 H1 y1 r1 p1 => ?_⟩
  split at p1
  · rename_i b e
    exact ⟨b, RV.tru (C := cx X) y1.ok r1 e, q b _ _ y1 p1⟩
  · exact p1.elim
/-- a comparison as a test -/
def pTst (pe : PX) : PTx := fun δ P P2 => pe δ (fun x => match x with | .bl b => P b | _ => False) P2
theorem R.blR {C : Ctx} {G : Gp} {v : V} {b : Bool} (r : R C G v (.bl b)) : v = .bl b := by cases r; rfl
theorem lt_of {a : Expr} {te : TE} {pe : PX} (hp : PT X a (tTest te)) (ha : ∀ {δ : Dl} {σ : St} {G : Gp} {H H0 : Hp} {Q : VK} {P : D → Prop} {P2 : Exn → Prop}, Ok G H → SRel (cx X) H0 G H σ δ → EOk (cx X) G H (E σ) P2 → pe δ P P2 →
    (∀ v d G' H', Ext G H G' H' → R (cx X) G' v d → P d → Q v H') → te σ H Q) : LT X E a (tTest te) (pTst pe) := by
  refine ⟨hp, fun k s x p q => ha k s x p fun v d G1 H1 y1 r1 p1 => ?_⟩
  split at p1
  · obtain rfl := r1.blR
    exact ⟨_, rfl, q _ _ _ y1 p1⟩
  · exact p1.elim
theorem lt_cmp {op : CmpOp} {r : R2} {f : POp} {a b : Expr} {ta tb : TE} {pa pb : PX} {pos : Pos} (ho : OpR X (compareOp op) r) (ol : OL X r f) (ha : LV X E a ta pa) (hb : LV X E b tb pb) (hm : behindInMarks op b = false) :
    LT X E (.Compare a [op] [b] pos) (tTest (tOp r ta tb)) (pTst (pOp f pa pb)) := lt_of (pt_cmpR ho ha.py hb.py hm) (op_le ol ha hb)
/-- a op b op' c -/
def pChain (f f' : POp) (pa pb pc : PX) : PX := fun δ P P2 => pa δ (fun x => pb δ (fun y => f x y fun z => match z with
  | .bl k => if k = true then pc δ (fun w => f' y w P) P2 else P (.bl false)
  | _ => False) P2) P2
theorem chain_le {r r' : R2} {f f' : POp} {a b c : Expr} {ta tb tc : TE} {pa pb pc : PX} (ol : OL X r f) (ol' : OL X r' f') (ha : LV X E a ta pa) (hb : LV X E b tb pb) (hc : LV X E c tc pc) {δ : Dl} {σ : St} {G : Gp} {H H0 : Hp} {Q : VK} {P : D → Prop} {P2 : Exn → Prop}
    (k : Ok G H) (s : SRel (cx X) H0 G H σ δ) (x : EOk (cx X) G H (E σ) P2) (p : pChain f f' pa pb pc δ P P2) (q : ∀ v d G' H', Ext G H G' H' → R (cx X) G' v d → P d → Q v H') : tChain r r' ta tb tc σ H Q := by
  refine ha.le k s x p fun v d G1 H1 y1 r1 p1 => ?_
  refine hb.le y1.ok (s.ext y1) (x.ext y1) p1 fun u d2 G2 H2 y2 r2 p2 => ?_
  refine ol.le y2.ok (r1.ext y2) r2 p2 fun w d3 G3 H3 y3 r3 p3 => ?_
  have y13 := (y1.trans y2).trans y3
  split at p3
  · obtain rfl := r3.blR
    refine ⟨_, rfl, ?_⟩
    split at p3
    · rename_i e
      rw [if_pos e]
      refine hc.le y13.ok (s.ext y13) (x.ext y13) p3 fun u4 d4 G4 H4 y4 r4 p4 => ?_
      exact ol'.le y4.ok ((r2.ext y3).ext y4) r4 p4 fun u5 d5 G5 H5 y5 r5 p5 => q u5 d5 G5 H5 ((y13.trans y4).trans y5) r5 p5
    · rename_i e
      rw [if_neg e]
      exact q _ _ _ _ y13 (.bl _) p3
  · exact p3.elim
theorem lx_chain {op op' : CmpOp} {r r' : R2} {f f' : POp} {a b c : Expr} {ta tb tc : TE} {pa pb pc : PX} {pos : Pos} (ho : OpR X (compareOp op) r) (ho' : OpR X (compareOp op') r') (ol : OL X r f) (ol' : OL X r' f') (ha : LV X E a ta pa) (hb : LV X E b tb pb) (hc : LV X E c tc pc)
    (hm : lastMarks [op, op'] [b, c] = false := by with_unfolding_all rfl) : LX X E (.Compare a [op, op'] [b, c] pos) (tChain r r' ta tb tc) (pChain f f' pa pb pc) := ⟨pe_chain ho ho' ha.py hb.py hc.py hm, chain_le ol ol' ha hb hc⟩
theorem lt_chain {op op' : CmpOp} {r r' : R2} {f f' : POp} {a b c : Expr} {ta tb tc : TE} {pa pb pc : PX} {pos : Pos} (ho : OpR X (compareOp op) r) (ho' : OpR X (compareOp op') r') (ol : OL X r f) (ol' : OL X r' f') (ha : LV X E a ta pa) (hb : LV X E b tb pb) (hc : LV X E c tc pc)
    (hm : lastMarks [op, op'] [b, c] = false := by with_unfolding_all rfl) : LT X E (.Compare a [op, op'] [b, c] pos) (tTest (tChain r r' ta tb tc)) (pTst (pChain f f' pa pb pc)) := lt_of (pt_chain ho ho' ha.py hb.py hc.py hm) (chain_le ol ol' ha hb hc)
/-! ### and, or, not as tests -/
structure LWt (X : Cx) (E : St → XK) (e : Expr) (tt : TT) (pt : PTx) : Prop where
  py : PW X e tt
  le : ∀ {δ : Dl} {σ : St} {G : Gp} {H H0 : Hp} {Q : Bool → Hp → Prop} {P : Bool → Prop} {P2 : Exn → Prop}, Ok G H → SRel (cx X) H0 G H σ δ → EOk (cx X) G H (E σ) P2 → pt δ P P2 →
    (∀ b G' H', Ext G H G' H' → P b → Q b H') → tt σ H Q
theorem LWt.t {e : Expr} {tt : TT} {pt : PTx} (h : LWt X E e tt pt) : LT X E e tt pt := ⟨h.py.pt, h.le⟩
def pAndT (a b : PTx) : PTx := fun δ P P2 => a δ (fun c => if c = true then b δ P P2 else P false) P2
def pOrT (a b : PTx) : PTx := fun δ P P2 => a δ (fun c => if c = true then P true else b δ P P2) P2
def pNotT (a : PTx) : PTx := fun δ P P2 => a δ (fun c => P (!c)) P2
section
variable {a b : Expr} {rest : List Expr} {tA tB : TT} {pA pB : PTx} {pos : Pos}
theorem lw_and1 (ha : LT X E a tA pA) : LWt X E (.BoolOp .And [a] pos) tA pA := ⟨pw_and1 ha.py, ha.le⟩
theorem lw_or1 (ha : LT X E a tA pA) : LWt X E (.BoolOp .Or [a] pos) tA pA := ⟨pw_or1 ha.py, ha.le⟩
theorem lw_and (ha : LT X E a tA pA) (hb : LWt X E (.BoolOp .And (b :: rest) pos) tB pB) : LWt X E (.BoolOp .And (a :: b :: rest) pos) (tAnd tA tB) (pAndT pA pB) :=
  ⟨pw_and ha.py hb.py, fun k s x p q => ha.le k s x p fun c G1 H1 y1 p1 => by
    split at p1
    · rename_i e
      rw [if_pos e]
      exact hb.le y1.ok (s.ext y1) (x.ext y1) p1 fun c2 G2 H2 y2 p2 => q _ _ _ (y1.trans y2) p2
    · rename_i e
      rw [if_neg e]
      exact q _ _ _ y1 p1⟩
theorem lw_or (ha : LT X E a tA pA) (hb : LWt X E (.BoolOp .Or (b :: rest) pos) tB pB) : LWt X E (.BoolOp .Or (a :: b :: rest) pos) (tOr tA tB) (pOrT pA pB) :=
  ⟨pw_or ha.py hb.py, fun k s x p q => ha.le k s x p fun c G1 H1 y1 p1 => by
    split at p1
    · rename_i e
      rw [if_pos e]
      exact q _ _ _ y1 p1
    · rename_i e
      rw [if_neg e]
      exact hb.le y1.ok (s.ext y1) (x.ext y1) p1 fun c2 G2 H2 y2 p2 => q _ _ _ (y1.trans y2) p2⟩
theorem lt_not (ha : LT X E a tA pA) : LT X E (.UnaryOp .Not a pos) (tNot tA) (pNotT pA) := ⟨pt_not ha.py, fun k s x p q => ha.le k s x p fun c G1 H1 y1 p1 => q _ _ _ y1 p1⟩
end
/-! ### and, or, not as values, by truth -/
def pOrV (pa pb : PX) : PX := fun δ P P2 => pa δ (fun x => match truD x with | some k => if k = true then P x else pb δ P P2 | none => False) P2
def pAndV (pa pb : PX) : PX := fun δ P P2 => pa δ (fun x => match truD x with | some k => if k = true then pb δ P P2 else P x | none => False) P2
def pNotV (pa : PX) : PX := fun δ P P2 => pa δ (fun x => match truD x with | some k => P (.bl (!k)) | none => False) P2
section
variable {a b : Expr} {rest : List Expr} {ta tb : TE} {pa pb : PX} {pos : Pos} {op : BoolOp}
theorem lx_one (ha : LX X E a ta pa) : LX X E (.BoolOp op [a] pos) ta pa := ⟨pe_one ha.py, ha.le⟩
theorem lx_or (ha : LX X E a ta pa) (hb : LX X E (.BoolOp .Or (b :: rest) pos) tb pb) : LX X E (.BoolOp .Or (a :: b :: rest) pos) (tOrT X.K ta tb) (pOrV pa pb) :=
  ⟨pe_orT ha.py hb.py, fun k s x p q => ha.le k s x p fun v d G1 H1 y1 r1 p1 => by
    split at p1
    · rename_i c e
      refine ⟨c, RV.tru (C := cx X) y1.ok (.inl r1) e, ?_⟩
      split at p1
      · rename_i e2
        rw [if_pos e2]
        exact q _ _ _ _ y1 r1 p1
      · rename_i e2
        rw [if_neg e2]
        exact hb.le y1.ok (s.ext y1) (x.ext y1) p1 fun v2 d2 G2 H2 y2 r2 p2 => q _ _ _ _ (y1.trans y2) r2 p2
    · exact p1.elim⟩
theorem lx_and (ha : LX X E a ta pa) (hb : LX X E (.BoolOp .And (b :: rest) pos) tb pb) : LX X E (.BoolOp .And (a :: b :: rest) pos) (tAndT X.K ta tb) (pAndV pa pb) :=
  ⟨pe_andT ha.py hb.py, fun k s x p q => ha.le k s x p fun v d G1 H1 y1 r1 p1 => by
    split at p1
    · rename_i c e
      refine ⟨c, RV.tru (C := cx X) y1.ok (.inl r1) e, ?_⟩
      split at p1
      · rename_i e2
        rw [if_pos e2]
        exact hb.le y1.ok (s.ext y1) (x.ext y1) p1 fun v2 d2 G2 H2 y2 r2 p2 => q _ _ _ _ (y1.trans y2) r2 p2
      · rename_i e2
        rw [if_neg e2]
        exact q _ _ _ _ y1 r1 p1
    · exact p1.elim⟩
theorem lx_not (ha : LV X E a ta pa) : LX X E (.UnaryOp .Not a pos) (tNotT X.K ta) (pNotV pa) :=
  ⟨pe_notT ha.py, fun k s x p q => ha.le k s x p fun v d G1 H1 y1 r1 p1 => by
    split at p1
    · rename_i c e
      exact ⟨c, RV.tru (C := cx X) y1.ok r1 e, q _ _ _ _ y1 (.bl _) p1⟩
    · exact p1.elim⟩
end
/-- a if t else b -/
def pIfE (pt : PTx) (pa pb : PX) : PX := fun δ P P2 => pt δ (fun c => if c = true then pa δ P P2 else pb δ P P2) P2
theorem lx_ifE {c a b : Expr} {tA : TT} {ta tb : TE} {pt : PTx} {pa pb : PX} {pos : Pos} (hc : LT X E c tA pt) (ha : LX X E a ta pa) (hb : LX X E b tb pb) : LX X E (.IfExp c a b pos) (tIf tA ta tb) (pIfE pt pa pb) :=
  ⟨pe_ifExp hc.py ha.py hb.py, fun k s x p q => hc.le k s x p fun c G1 H1 y1 p1 => by
    split at p1
    · rename_i e
      rw [if_pos e]
      exact ha.le y1.ok (s.ext y1) (x.ext y1) p1 fun v2 d2 G2 H2 y2 r2 p2 => q _ _ _ _ (y1.trans y2) r2 p2
    · rename_i e
      rw [if_neg e]
      exact hb.le y1.ok (s.ext y1) (x.ext y1) p1 fun v2 d2 G2 H2 y2 r2 p2 => q _ _ _ _ (y1.trans y2) r2 p2⟩
/-! ### displays -/
def pTup (pa : PAx) : PX := fun δ P P2 => pa δ (fun ds => ds.length ≤ szl ∧ P (.tup ds)) P2
def pLst (pa : PAx) : PX := fun δ P P2 => pa δ (fun ds => ds.length ≤ szl ∧ P (.lst ds)) P2
theorem lx_tup {es : List Expr} {ta : TA} {pa : PAx} {x1 : Nat} {pos : Pos} (h : LA X E es ta pa) : LX X E (.Tuple es x1 pos) (tTupN ta) (pTup pa) :=
  ⟨pe_tupN h.py, fun k s x p q => h.le k s x p fun vs ds G1 H1 y1 r1 p1 => ⟨by rw [r1.length, sizeLine_eq]; exact p1.1, fun l o hl ho =>
    let ⟨x1, x2⟩ := Ext.newT (C := cx X) (o := o) y1.ok hl ho r1; q _ (.tup _) _ _ (y1.trans x1) x2 p1.2⟩⟩
theorem lo_lst {es : List Expr} {ta : TA} {pa : PAx} {pos : Pos} (h : LA X E es ta pa) : LO X E (.List es pos) (tLst ta) (pLst pa) :=
  ⟨pe_lst h.py, fun k s x p q => h.le k s x p fun vs ds G1 H1 y1 r1 p1 => ⟨by rw [r1.length, sizeLine_eq]; exact p1.1, fun l hl =>
    q l vs ds G1 _ (y1.trans (Ext.new y1.ok hl)) (y1.back hl) upd_same (y1.ok.none_of hl) r1 p1.2⟩⟩
/-! ### subscripts -/
def fIx : POp := fun x y P => match y with
  | .int i => (match x with
    | .lst ds => (match atI ds i with | some d => P d | none => False)
    | .tup ds => (match atI ds i with | some d => P d | none => False)
    | .str z => z.length ≤ szl ∧ (match atI z.cps.toList i with | some c => P (.str ⟨#[c]⟩) | none => False)
    | .pool => i = 0 ∧ ∀ s : Int, 0 ≤ s → P (.int s)
    | .pin _ ns => (match atI (ns.map D.int) i with | some d => P d | none => False)
    | _ => False)
  | _ => False
theorem RAll.atI {C : Ctx} {G : Gp} {xs : List V} {ds : List D} {i : Int} {d : D} (r : RAll C G xs ds) (e : atI ds i = some d) : ∃ v, L2.atI xs i = some v ∧ R C G v d := by
  unfold L2.atI at e ⊢
  rw [r.length]
  cases z : ixN ds.length i with
  | none => rw [z] at e; cases e
  | some j =>
    rw [z] at e
    obtain ⟨v, h1, h2⟩ := r.get e
    exact ⟨v, h1, h2⟩
theorem ol_ix : OL X (rIx X.K) fIx := by
  refine ⟨fun {G H x y dx dy Q P} k rx ry p q => ?_⟩
  unfold fIx at p
  split at p
  · have ey := ry.int
    split at p
    · split at p
      · rename_i d e
        obtain ⟨a, xs, e1, h1, r1⟩ := rx.lst k
        obtain ⟨v, h2, r2⟩ := r1.atI e
        exact .inl ⟨a, xs, _, v, e1, ey, SqL.of h1, h2, q _ _ _ _ (.refl k) r2 p⟩
      · exact p.elim
    · split at p
      · rename_i d e
        obtain ⟨a, xs, e1, h1, r1⟩ := rx.tup k
        obtain ⟨v, h2, r2⟩ := r1.atI e
        exact .inr (.inl ⟨a, xs, _, v, e1, ey, h1, h2, q _ _ _ _ (.refl k) r2 p⟩)
      · exact p.elim
    · obtain ⟨pl, p⟩ := p
      split at p
      · rename_i c e
        exact .inr (.inr ⟨_, _, c, rx.str, ey, by rw [sizeLine_eq]; exact pl, e, q _ _ _ _ (.refl k) (.str _) p⟩)
      · exact p.elim
    · obtain ⟨rfl, p⟩ := p
      cases rx.scal (fun _ z => by cases z) with
      | pool g =>
        obtain ⟨⟨_, s0, s1, s2, s3, hh, h0, _⟩, _⟩ := k.at_ _ _ g
        exact .inl ⟨_, _, 0, .int s0, rfl, ey, SqL.of hh, rfl, q _ _ _ _ (.refl k) (.int _) (p s0 h0)⟩
    · split at p
      · rename_i d e
        cases rx.scal (fun _ z => by cases z) with
        | pin h =>
          obtain ⟨v, h2, r2⟩ := (RAll.ints (C := cx X) (G := G) _).atI e
          exact .inl ⟨_, _, _, v, rfl, ey, SqL.of (k.fz h), h2, q _ _ _ _ (.refl k) r2 p⟩
      · exact p.elim
    · exact p.elim
  · exact p.elim
theorem lx_ix {a b : Expr} {ta tb : TE} {pa pb : PX} {pos : Pos} (ha : LV X E a ta pa) (hb : LV X E b tb pb) (hs : PlainIx b) : LX X E (.Subscript a b pos) (tOp (rIx X.K) ta tb) (pOp fIx pa pb) :=
  ⟨pe_ix ix_seq ha.py hb.py hs, op_le ol_ix ha hb⟩
end
end Pu
set_option Elab.async false
set_option linter.all false
set_option maxRecDepth 100000
set_option maxHeartbeats 2000000
set_option autoImplicit false
namespace Pu
open PySem L2
/-! # Pure statements -/
section
variable {C : Ctx} {G G' G0 : Gp} {H H' H0 : Hp} {σ : St} {δ : Dl}
theorem SRel.own {i : Nat} {oa : Option Addr} {ds : List D} (s : SRel C H0 G H σ δ) (e : δ[i]? = some (some (.own oa ds))) : ∃ a xs, σ[i]? = some (some (.ref a)) ∧ (∀ b, oa = some b → b = a) ∧ H a = some (.lst xs) ∧ G a = none ∧ H0 a = none ∧ RAll C G xs ds := by
  obtain ⟨v, ev, r⟩ := s.at_ i _ e
  cases r with
  | own ha h g n r => exact ⟨_, _, ev, ha, h, g, n, r⟩
theorem SRel.write {i : Nat} {a : Addr} {oa : Option Addr} {ds ds' : List D} {xs' : List V} (s : SRel C H0 G H σ δ) (e : δ[i]? = some (some (.own oa ds))) (ea : σ[i]? = some (some (.ref a))) (r' : RAll C G xs' ds') :
    SRel C H0 G (upd H a (.lst xs')) σ (δ.set i (some (.own oa ds'))) := by
  obtain ⟨a', xs, ev, hoa, h, g, n, r⟩ := s.own e
  have eq : a' = a := by rw [ev] at ea; cases ea; rfl
  subst eq
  have hl : i < δ.length := (List.getElem?_eq_some_iff.mp e).1
  have key : ∀ (j : Nat) (u : S), (δ.set i (some (.own oa ds')))[j]? = some (some u) → (j = i ∧ u = .own oa ds') ∨ (j ≠ i ∧ δ[j]? = some (some u)) := fun j u h => by
    by_cases z : i = j
    · subst z
      rw [List.getElem?_set_self hl] at h
      exact .inl ⟨rfl, (Option.some.inj (Option.some.inj h)).symm⟩
    · rw [List.getElem?_set_ne z] at h
      exact .inr ⟨fun y => z y.symm, h⟩
  refine ⟨by rw [List.length_set, s.len], fun j u hu => ?_, fun j k u u' v1 v2 nn h1 h2 o1 o2 e1 e2 => ?_⟩
  · rcases key j u hu with ⟨rfl, rfl⟩ | ⟨z, hu⟩
    · exact ⟨_, ev, .own hoa upd_same g n r'⟩
    · obtain ⟨v, e2, q⟩ := s.at_ j u hu
      refine ⟨v, e2, ?_⟩
      cases q with
      | d q => exact .d q
      | @own b ob ys es hob hb gb nb rb =>
        have ne : b ≠ a' := fun y => s.apart j i _ _ _ _ z hu e rfl rfl e2 ev (by rw [y])
        exact .own hob (by rw [upd_ne ne]; exact hb) gb nb rb
      | @slf b A dx vs c es mb hb gb nb rb lb =>
        have ne : b ≠ a' := fun y => s.apart j i _ _ _ _ z hu e rfl rfl e2 ev (by rw [y])
        exact .slf mb (by rw [upd_ne ne]; exact hb) gb nb rb lb
      | exc q => exact .exc q
  · have k1 : ∃ s1, δ[j]? = some (some s1) ∧ s1.isOwn = true := by
      rcases key j u h1 with ⟨rfl, _⟩ | ⟨_, h1⟩
      · exact ⟨_, e, rfl⟩
      · exact ⟨_, h1, o1⟩
    have k2 : ∃ s1, δ[k]? = some (some s1) ∧ s1.isOwn = true := by
      rcases key k u' h2 with ⟨rfl, _⟩ | ⟨_, h2⟩
      · exact ⟨_, e, rfl⟩
      · exact ⟨_, h2, o2⟩
    obtain ⟨s1, g1, w1⟩ := k1
    obtain ⟨s2, g2, w2⟩ := k2
    exact s.apart j k s1 s2 v1 v2 nn g1 g2 w1 w2 e1 e2
/-- a list of one's own is given away: from now on it does not change -/
theorem SRel.freeze {i : Nat} {oa : Option Addr} {ds : List D} (x : Ext G0 H0 G H) (s : SRel C H0 G H σ δ) (e : δ[i]? = some (some (.own oa ds))) :
    ∃ G', Ext G0 H0 G' H ∧ (∀ a g, G a = some g → G' a = some g) ∧ SRel C H0 G' H σ (δ.set i (some (.d (.lst ds)))) := by
  obtain ⟨a, xs, ev, hoa, h, g, n, r⟩ := s.own e
  refine ⟨updG G a (.fz (.lst xs)), x.share n h g, updG_keep g, ?_⟩
  have hl : i < δ.length := (List.getElem?_eq_some_iff.mp e).1
  have key : ∀ (j : Nat) (u : S), (δ.set i (some (.d (.lst ds))))[j]? = some (some u) → (j = i ∧ u = .d (.lst ds)) ∨ (j ≠ i ∧ δ[j]? = some (some u)) := fun j u h => by
    by_cases z : i = j
    · subst z
      rw [List.getElem?_set_self hl] at h
      exact .inl ⟨rfl, (Option.some.inj (Option.some.inj h)).symm⟩
    · rw [List.getElem?_set_ne z] at h
      exact .inr ⟨fun y => z y.symm, h⟩
  refine ⟨by rw [List.length_set, s.len], fun j u hu => ?_, fun j k u u' v1 v2 nn h1 h2 o1 o2 e1 e2 => ?_⟩
  · rcases key j u hu with ⟨rfl, rfl⟩ | ⟨z, hu⟩
    · exact ⟨_, ev, .d (.lst updG_same (r.mono (updG_keep g)))⟩
    · obtain ⟨v, e2, q⟩ := s.at_ j u hu
      refine ⟨v, e2, ?_⟩
      cases q with
      | d q => exact .d (q.mono (updG_keep g))
      | @own b ob ys es hob hb gb nb rb =>
        have ne : b ≠ a := fun y => s.apart j i _ _ _ _ z hu e rfl rfl e2 ev (by rw [y])
        exact .own hob hb (by rw [updG_ne ne]; exact gb) nb (rb.mono (updG_keep g))
      | @slf b A dx vs c es mb hb gb nb rb lb =>
        have ne : b ≠ a := fun y => s.apart j i _ _ _ _ z hu e rfl rfl e2 ev (by rw [y])
        exact .slf mb hb (by rw [updG_ne ne]; exact gb) nb (rb.mono (updG_keep g)) lb
      | exc q => exact .exc (q.ext (updG_keep g))
  · rcases key j u h1 with ⟨_, eu⟩ | ⟨_, h1'⟩
    · rw [eu] at o1; cases o1
    · rcases key k u' h2 with ⟨_, eu⟩ | ⟨_, h2'⟩
      · rw [eu] at o2; cases o2
      · exact s.apart j k u u' v1 v2 nn h1' h2' o1 o2 e1 e2
end

section
variable {X : Cx} {E : St → XK}
def pNext : PSx := fun P δ => P.nx δ
def pSeq (a b : PSx) : PSx := fun P δ => a { P with nx := b P } δ
def pBreak : PSx := fun P δ => P.bk δ
def pCont : PSx := fun P δ => P.ct δ
theorem EndsR.seq {C : Ctx} {G0 : Gp} {H0 : Hp} {E : St → XK} {Dn : Ends} {P : PEnds} {t : TS} {p : PSx} (e : EndsR C G0 H0 E Dn P) (h : ∀ {σ : St} {δ : Dl} {G : Gp} {H : Hp}, Stt C G0 H0 σ δ G H → p P δ → t Dn σ H) :
    EndsR C G0 H0 E { Dn with nx := t Dn } { P with nx := p P } := ⟨h, e.rt, e.bk, e.ct, e.ex⟩
theorem lss_nil : LSs X E [] tNext pNext := ⟨pss_nil, fun e t p => e.nx t p⟩
theorem lss_cons {st : Stmt} {rest : List Stmt} {t u : TS} {p q : PSx} (h1 : LS X E st t p) (h2 : LSs X E rest u q) : LSs X E (st :: rest) (tSeq t u) (pSeq p q) :=
  ⟨pss_cons h1.py h2.py, fun e t p => h1.le (e.seq fun t' p' => h2.le e t' p') t p⟩
theorem lss_one {st : Stmt} {t : TS} {p : PSx} (h1 : LS X E st t p) : LSs X E [st] t p := ⟨pss_one h1.py, h1.le⟩
theorem ls_pass {pos : Pos} : LS X E (.Pass pos) tNext pNext := ⟨ps_pass, fun e t p => e.nx t p⟩
theorem ls_break {pos : Pos} : LS X E (.Break pos) tBreak pBreak := ⟨ps_break, fun e t p => e.bk t p⟩
theorem ls_cont {pos : Pos} : LS X E (.Continue pos) tCont pCont := ⟨ps_continue, fun e t p => e.ct t p⟩
/-- ahead of a statement a list of one's own is given away -/
def pFreeze (i : Nat) (p : PSx) : PSx := fun P δ => match δ[i]? with
  | some (some (.own _ ds)) => p P (δ.set i (some (.d (.lst ds))))
  | _ => p P δ
theorem ls_freeze (i : Nat) {st : Stmt} {t : TS} {p : PSx} (h : LS X E st t p) : LS X E st t (pFreeze i p) := by
  refine ⟨h.py, fun {G0 H0 Dn P δ σ G H} e t q => ?_⟩
  unfold pFreeze at q
  split at q
  · rename_i oa ds ed
    obtain ⟨G', x, _, s⟩ := SRel.freeze t.ext t.sr ed
    exact h.le e ⟨x, s⟩ q
  · exact h.le e t q
def pAsg (pe : PX) (i : Nat) : PSx := fun P δ => pe δ (fun d => P.nx (δ.set i (some (.d d)))) (P.ex δ)
def pAsgO (pe : PX) (i : Nat) : PSx := fun P δ => pe δ (fun d => match d with | .lst ds => P.nx (δ.set i (some (.own none ds))) | _ => False) (P.ex δ)
theorem ls_set (i : Nat) {x : Str} {e : Expr} {te : TE} {pe : PX} {pos pos' : Pos} (hN : X.N.Nodup) (he : LX X E e te pe) (hi : X.N[i]? = some x := by rfl) (hx : Loc X.env.scope x := by first | exact Or.inl rfl | exact Or.inr rfl)
    (hs : swapsWith e (some (.Name x pos')) pos.line X.env = pure false := by rfl) (hf : X.fn x = true ∨ X.env.scope.names.lookup x = some .local := by first | exact .inl rfl | exact .inr rfl) :
    LS X E (.Assign [.Name x pos'] e pos) (tAsg te (gName i)) (pAsg pe i) :=
  ⟨by first | exact ps_set hN hi hx he.py hs hf | exact ps_set hN hi hx he.py hs, fun e t p => he.le t.ok t.sr (e.ex t) p fun v d G' H' y r q => e.nx ⟨t.ext.trans y, (t.sr.ext y).setD r⟩ q⟩
theorem SRel.setO {C : Ctx} {H0 H H' : Hp} {G G' G0 : Gp} {σ : St} {δ : Dl} {i : Nat} {p : Addr} {xs : List V} {ds : List D} (e0 : Ext G0 H0 G H) (s : SRel C H0 G H σ δ) (y : Ext G H G' H') (hn : H p = none) (hp : H' p = some (.lst xs)) (gp : G' p = none) (r : RAll C G' xs ds) :
    SRel C H0 G' H' (σ.set i (some (.ref p))) (δ.set i (some (.own none ds))) := by
  refine (s.ext y).set (.own (fun _ z => by cases z) hp gp (e0.back hn) r) fun _ j s' h o ne z => ?_
  obtain ⟨v, ev, q⟩ := s.at_ j s' h
  rw [ev] at z
  cases z
  cases q with
  | d _ => cases o
  | own _ hb _ _ _ => rw [hn] at hb; cases hb
  | slf _ hb _ _ _ _ => rw [hn] at hb; cases hb
  | exc _ => cases o
theorem ls_setO (i : Nat) {x : Str} {e : Expr} {te : TE} {pe : PX} {pos pos' : Pos} (hN : X.N.Nodup) (he : LO X E e te pe) (hi : X.N[i]? = some x := by rfl) (hx : Loc X.env.scope x := by first | exact Or.inl rfl | exact Or.inr rfl)
    (hs : swapsWith e (some (.Name x pos')) pos.line X.env = pure false := by rfl) (hf : X.fn x = true ∨ X.env.scope.names.lookup x = some .local := by first | exact .inl rfl | exact .inr rfl) :
    LS X E (.Assign [.Name x pos'] e pos) (tAsg te (gName i)) (pAsgO pe i) :=
  ⟨by first | exact ps_set hN hi hx he.py hs hf | exact ps_set hN hi hx he.py hs, fun e t p => he.le t.ok t.sr (e.ex t) p fun l xs ds G' H' y hn hp gp r q => e.nx ⟨t.ext.trans y, SRel.setO t.ext t.sr y hn hp gp r⟩ q⟩
def pDrop (pe : PX) : PSx := fun P δ => pe δ (fun _ => P.nx δ) (P.ex δ)
theorem ls_expr {e : Expr} {te : TE} {pe : PX} {pos : Pos} (he : LV X E e te pe) (hs : swapsWith e none pos.line X.env = pure false := by rfl) : LS X E (.Expr e pos) (tDrop te) (pDrop pe) :=
  ⟨ps_expr he.py hs, fun e t p => he.le t.ok t.sr (e.ex t) p fun v d G' H' y r q => e.nx (t.step y) q⟩
def pRet (pe : PX) : PSx := fun P δ => pe δ (P.rt δ) (P.ex δ)
theorem ls_ret {e : Expr} {te : TE} {pe : PX} {pos : Pos} (he : LX X E e te pe) : LS X E (.Return (some e) pos) (tRet te) (pRet pe) :=
  ⟨ps_ret he.py, fun e t p => he.le t.ok t.sr (e.ex t) p fun v d G' H' y r q => e.rt (t.step y) r q⟩
def pRetN : PSx := fun P δ => P.rt δ .non
theorem ls_retN {pos : Pos} : LS X E (.Return none pos) tRetN pRetN := ⟨ps_retN, fun e t p => e.rt t .non p⟩
def pIf (c : PTx) (a b : PSx) : PSx := fun P δ => c δ (fun k => if k = true then a P δ else b P δ) (P.ex δ)
theorem ls_if {c : Expr} {a b : List Stmt} {tc : TT} {t u : TS} {pc : PTx} {p q : PSx} {pos : Pos} (hc : LT X E c tc pc) (ha : LSs X E a t p) (hb : LSs X E b u q) : LS X E (.If c a b pos) (tIfS tc t u) (pIf pc p q) :=
  ⟨ps_if hc.py ha.py hb.py, fun e t p => hc.le t.ok t.sr (e.ex t) p fun k G' H' y q => by
    split at q
    · rename_i z
      rw [if_pos z]
      exact ha.le e (t.step y) q
    · rename_i z
      rw [if_neg z]
      exact hb.le e (t.step y) q⟩
/-! ### targets -/
def pgName (i : Nat) : D → Dl → (Dl → Prop) → Prop := fun d δ K => K (δ.set i (some (.d d)))
theorem lg_name (i : Nat) {x : Str} {pos : Pos} (hN : X.N.Nodup) (hi : X.N[i]? = some x := by rfl) (hx : Loc X.env.scope x := by first | exact Or.inl rfl | exact Or.inr rfl) (hf : X.fn x = true ∨ X.env.scope.names.lookup x = some .local := by first | exact .inl rfl | exact .inr rfl) :
    LG X (.Name x pos) (gName i) (pgName i) [i] := ⟨pg_name hN hi hx hf, fun k s r p q => q _ _ (s.setD r) .set p⟩
structure LGs (X : Cx) (ts : List Expr) (g : TGs) (pg : List D → Dl → (Dl → Prop) → Prop) (js : List Nat) : Prop where
  py : PGs X ts g
  le : ∀ {δ : Dl} {σ : St} {G : Gp} {H H0 : Hp} {vs : List V} {ds : List D} {P : Dl → Prop} {Q : St → Hp → Prop}, Ok G H → SRel (cx X) H0 G H σ δ → RAll (cx X) G vs ds → pg ds δ P →
    (∀ σ' δ', SRel (cx X) H0 G H σ' δ' → Out js σ σ' → P δ' → Q σ' H) → g vs σ H Q
def pgNil : List D → Dl → (Dl → Prop) → Prop := fun ds δ K => match ds with | [] => K δ | _ => False
def pgCons (t : D → Dl → (Dl → Prop) → Prop) (u : List D → Dl → (Dl → Prop) → Prop) : List D → Dl → (Dl → Prop) → Prop := fun ds δ K => match ds with | d :: r => t d δ (fun δ' => u r δ' K) | [] => False
theorem lgs_nil : LGs X [] gNil pgNil [] := ⟨pgs_nil, fun k s r p q => by
  cases r with
  | nil => exact ⟨rfl, q _ _ s .refl p⟩
  | cons _ _ => exact p.elim⟩
theorem lgs_cons {e : Expr} {es : List Expr} {t : TG} {u : TGs} {pt : D → Dl → (Dl → Prop) → Prop} {pu : List D → Dl → (Dl → Prop) → Prop} {js ks : List Nat} (h1 : LG X e t pt js) (h2 : LGs X es u pu ks)
    (hs : (assignEach (e :: es) X.env).map (·.2) = assign e X.env :: (assignEach es X.env).map (·.2) := by rfl) : LGs X (e :: es) (gCons t u) (pgCons pt pu) (js ++ ks) := ⟨pgs_cons h1.py h2.py hs, fun k s r p q => by
  cases r with
  | nil => exact p.elim
  | cons r1 r2 => exact ⟨_, _, rfl, h1.le k s r1 p fun σ' δ' s' o1 p' => h2.le k s' r2 p' fun σ2 δ2 s2 o2 p2 => q σ2 δ2 s2 (o1.trans o2) p2⟩⟩
/-- (a, b, ..) = a tuple or a list of that length -/
def pgSeq (n : Nat) (u : List D → Dl → (Dl → Prop) → Prop) : D → Dl → (Dl → Prop) → Prop := fun d δ K => match itemsD d with | some ds => ds.length = n ∧ u ds δ K | none => False
def gSeq (K : PySem.W.Frag) (n : Nat) (t : TGs) : TG := fun v σ H Q => gTup K n t v σ H Q ∨ gUnl K n t v σ H Q
theorem lg_seq {es : List Expr} {j : Nat} {t : TGs} {pu : List D → Dl → (Dl → Prop) → Prop} {n : Nat} {pos : Pos} {js : List Nat} (hc : X.calm = true) (h : LGs X es t pu js)
    (hn : (assignEach es X.env).length = n := by rfl) (hst : (assignEach es X.env).findIdx? (·.1) = none := by rfl) : LG X (.Tuple es j pos) (gSeq X.K n t) (pgSeq n pu) js := by
  refine ⟨⟨fun pins s σ H v u Q I r hw => ?_⟩, fun {δ σ G H H0 v d P Q} k s r p q => ?_⟩
  · rcases hw with hw | hw
    · exact (pg_tup hc h.py hn hst).run pins s σ H v u Q I r hw
    · exact (pg_unl hc h.py hn hst).run pins s σ H v u Q I r hw
  · unfold pgSeq at p
    split at p
    · rename_i ds e
      obtain ⟨a, xs, e1, h1, r1⟩ := RV.items (C := cx X) k (.inl r) e
      have fin : t xs σ H Q := h.le k s r1 p.2 q
      rcases h1 with h1 | h1
      · exact .inr ⟨a, xs, e1, h1, by rw [r1.length]; exact p.1, fin⟩
      · exact .inl ⟨a, xs, e1, h1, by rw [r1.length]; exact p.1, fin⟩
    · exact p.elim
def pAsgG (pe : PX) (pg : D → Dl → (Dl → Prop) → Prop) : PSx := fun P δ => pe δ (fun d => pg d δ P.nx) (P.ex δ)
theorem ls_asgG {tg e : Expr} {te : TE} {g : TG} {pe : PX} {pg : D → Dl → (Dl → Prop) → Prop} {pos : Pos} {js : List Nat} (he : LX X E e te pe) (hg : LG X tg g pg js) (hs : swapsWithSole [tg] e pos.line X.env = pure false := by rfl) (hw : swappedStores [tg] e X.env = pure none := by rfl)
    (h1 : (assignEach [tg] X.env).map (·.2) = [assign tg X.env] := by rfl) : LS X E (.Assign [tg] e pos) (tAsg te g) (pAsgG pe pg) :=
  ⟨ps_asg he.py hg.py hs hw h1, fun e t p => he.le t.ok t.sr (e.ex t) p fun v d G' H' y r q => hg.le y.ok (t.sr.ext y) r q fun σ' δ' s' _ p' => e.nx ⟨t.ext.trans y, s'⟩ p'⟩
end
end Pu
set_option Elab.async false
set_option linter.all false
set_option maxRecDepth 100000
set_option maxHeartbeats 2000000
set_option autoImplicit false
namespace Pu
open PySem L2 PyProof.Rows
/-! # enumerate of a list or a tuple, from any number on -/

/-- the list at a as it stands at each turn, each item in a new pair with its number, from k0 on -/
def ItE_l (K : PySem.W.Frag) (k0 : Int) (a : Addr) : It :=
  ⟨fun i H => ∃ (xs : List V) (x : V), SqL K H a xs ∧ xs[i]? = some x, fun i H v H' => ∃ T x o, v = .ref T ∧ H T = none ∧ o.dict = none ∧ H' = upd H T (.frz o (.tup [.int (k0 + (i : Int)), x])) ∧ ∀ xs, SqL K H a xs → xs[i]? = some x, fun i H => ∃ xs : List V, SqL K H a xs ∧ xs.length = i⟩
theorem turn_enum_l {P : Program} {w : World} {K : PySem.W.Frag} {elts : List Expr} {kk : Nat} {tpos : Pos} (k0 : Int) (a e it : Addr) :
    Turn P w K (.Tuple elts kk tpos) (ItE_l K k0 a) [e, it] e (fun i h => (∃ old, IsEnum h e it (k0 + (i : Int)) old) ∧ h.IsListIter it a i ∧ e ≠ it) where
  mem := by simp
  obj := fun i h st b hb => by
    obtain ⟨⟨old, he⟩, ⟨o, ho, hc, hd⟩, _⟩ := st
    have e' : b = e ∨ b = it := by simpa using hb
    rcases e' with z | z
    · rw [z]; exact ⟨_, he, fun v q => nomatch q⟩
    · rw [z]; exact ⟨o, ho, fun v q => by rw [hd] at q; cases q⟩
  keep := fun i h h' st k => let ⟨⟨old, he⟩, hi, hne⟩ := st; ⟨⟨old, k e (by simp) _ he⟩, hi.at fun o q => k it (by simp) o q, hne⟩
  item := by
    intro X hP hw hK hc i pins s σ H E I hf st hg
    subst hP hw hK
    obtain ⟨⟨old, he⟩, hit, hne⟩ := st
    obtain ⟨xs, x, hq, hx⟩ := hg
    obtain ⟨its, rv, p, hz⟩ := I.list hq
    obtain ⟨u, hu, ru⟩ := rv.get hx
    have hel : e < s.heap.objs.size := Heap.lt_size he
    have hil : it < s.heap.objs.size := by obtain ⟨_, q, _⟩ := hit; exact Heap.lt_size q
    have pl : s.heap.IsList a its.toArray := p.isList
    have ha_it : a ≠ it := fun z => by
      obtain ⟨o1, q1, c1, _⟩ := hit
      obtain ⟨o2, q2, c2⟩ := pl.typeIs (s := s)
      rw [z, q1] at q2; cases q2; rw [c1] at c2; revert c2; decide +kernel
    have he_a : e ≠ a := fun z => by
      obtain ⟨o2, q2, c2⟩ := pl.typeIs (s := s)
      rw [← z, he] at q2; cases q2; exact absurd c2 (by show ¬ (Value.type "enumerate" = Value.type "list"); decide +kernel)
    have hlt : i < its.toArray.size := by
      have := (List.getElem?_eq_some_iff.mp hx).1
      rw [List.size_toArray, ← rv.length]; exact this
    refine wpAny_pyNext_enum_itemC (Draws.list (A := X.A.in1) (by exact (I.ok.hd hc)) it a ha_it its.toArray) he ⟨hit, pl⟩ hlt hne (by simp [hne, he_a]) fun u' h' tk hu' ho st' hT hsz hk => ?_
    have eu : u' = u := by
      have h1 : its[i]? = some u' := by simpa using hu'
      rw [hu] at h1; exact (Option.some.inj h1).symm
    subst eu
    refine ⟨_, rfl, wpAny_letOwnedTupleGo_enum (s := { s with heap := h', toks := tk + 1 }) ho fun h'' he' sb => ?_⟩
    have hT2 : h''.get? s.heap.objs.size = some { cls := .type "tuple", data := .seq #[.int (k0 + (i : Int)) tk, u'] } := (sb.2 _ (Nat.ne_of_gt hel)).trans hT
    have new : ObjOk X.prog X.w (upd H s.heap.objs.size (.frz { cls := .type "tuple", data := .seq #[.int (k0 + (i : Int)) tk, u'] } (.tup [.int (k0 + (i : Int)), x]))) h'' s.heap.objs.size (.frz { cls := .type "tuple", data := .seq #[.int (k0 + (i : Int)) tk, u'] } (.tup [.int (k0 + (i : Int)), x])) :=
      ⟨hT2, by show 2 ≤ sizeLine; decide, [.int (k0 + (i : Int)) tk, u'], .cons ⟨_, rfl⟩ (.cons ru .nil), ⟨_, hT2, rfl, _, rfl⟩⟩
    have I1 : Inv X pins σ (upd H s.heap.objs.size (.frz { cls := .type "tuple", data := .seq #[.int (k0 + (i : Int)) tk, u'] } (.tup [.int (k0 + (i : Int)), x]))) { s with heap := h'', toks := tk + 1 } :=
      I.turnedNew (ch := [e, it]) (fun b ob hb q => (sb.2 b (fun z => hb (by simp [z]))).trans (hk b ob (fun z => hb (by simp [z])) (fun z => hb (by simp [z])) q)) hf (Nat.le_refl _) new
    refine ⟨.ref s.heap.objs.size, _, I1, rfl, ⟨_, x, _, rfl, I.hok.fresh (Nat.le_refl _), rfl, rfl, fun ys hy => by rw [I.list_inj hy hq]; exact hx⟩, ⟨⟨u', ?_⟩, st'.1.at fun o q => (sb.2 it (Ne.symm hne)).trans q, hne⟩, fun b hb => ?_⟩
    · have e1 : k0 + ((i + 1 : Nat) : Int) = k0 + (i : Int) + 1 := by omega
      rw [e1]; exact he'
    · have hb' : b < s.heap.objs.size := by
        have e' : b = e ∨ b = it := by simpa using hb
        rcases e' with z | z
        · rw [z]; exact hel
        · rw [z]; exact hil
      rw [upd_ne (Nat.ne_of_lt hb')]
      exact (hf b hb).1
  done := by
    intro X hP hw hK hc i pins s σ H E I hf st hg
    subst hP hw hK
    obtain ⟨⟨old, he⟩, hit, hne⟩ := st
    obtain ⟨xs, hq, hx⟩ := hg
    obtain ⟨its, rv, p, hz⟩ := I.list hq
    obtain ⟨f0, f1, f2, f3, f4, f5⟩ := hf it (by simp)
    have pl : s.heap.IsList a its.toArray := p.isList
    have ha_it : a ≠ it := fun z => by
      obtain ⟨o1, q1, c1, _⟩ := hit
      obtain ⟨o2, q2, c2⟩ := pl.typeIs (s := s)
      rw [z, q1] at q2; cases q2; rw [c1] at c2; revert c2; decide +kernel
    have hl : its.toArray.size = i := by rw [List.size_toArray, ← rv.length]; exact hx
    refine wpAny_pyNext_enum_endD (Draws.list (A := X.A.in1) (by exact (I.ok.hd hc)) it a ha_it its.toArray) he ⟨by rw [hl]; exact hit, pl⟩ fun h' eb => ⟨rfl, I.turned (t' := s.toks) (fun b o hb q => eb b o hb q) f0 f1 f3 f4 f5⟩
  self := fun A i s Q E st h => let ⟨⟨_, he⟩, _⟩ := st; wpAny_pyIter_enum he h

/-- the tuple at a as it stands at each turn, each item in a new pair with its number, from k0 on -/
def ItE_t (K : PySem.W.Frag) (k0 : Int) (a : Addr) : It :=
  ⟨fun i H => ∃ (xs : List V) (x : V), SqT K H a xs ∧ xs[i]? = some x, fun i H v H' => ∃ T x o, v = .ref T ∧ H T = none ∧ o.dict = none ∧ H' = upd H T (.frz o (.tup [.int (k0 + (i : Int)), x])) ∧ ∀ xs, SqT K H a xs → xs[i]? = some x, fun i H => ∃ xs : List V, SqT K H a xs ∧ xs.length = i⟩
theorem turn_enum_t {P : Program} {w : World} {K : PySem.W.Frag} {elts : List Expr} {kk : Nat} {tpos : Pos} (k0 : Int) (a e it : Addr) :
    Turn P w K (.Tuple elts kk tpos) (ItE_t K k0 a) [e, it] e (fun i h => (∃ old, IsEnum h e it (k0 + (i : Int)) old) ∧ h.IsTupleIter it a i ∧ e ≠ it) where
  mem := by simp
  obj := fun i h st b hb => by
    obtain ⟨⟨old, he⟩, ⟨o, ho, hc, hd⟩, _⟩ := st
    have e' : b = e ∨ b = it := by simpa using hb
    rcases e' with z | z
    · rw [z]; exact ⟨_, he, fun v q => nomatch q⟩
    · rw [z]; exact ⟨o, ho, fun v q => by rw [hd] at q; cases q⟩
  keep := fun i h h' st k => let ⟨⟨old, he⟩, hi, hne⟩ := st; ⟨⟨old, k e (by simp) _ he⟩, hi.at fun o q => k it (by simp) o q, hne⟩
  item := by
    intro X hP hw hK hc i pins s σ H E I hf st hg
    subst hP hw hK
    obtain ⟨⟨old, he⟩, hit, hne⟩ := st
    obtain ⟨xs, x, hq, hx⟩ := hg
    obtain ⟨its, rv, p, hz⟩ := I.tuple hq
    obtain ⟨u, hu, ru⟩ := rv.get hx
    have hel : e < s.heap.objs.size := Heap.lt_size he
    have hil : it < s.heap.objs.size := by obtain ⟨_, q, _⟩ := hit; exact Heap.lt_size q
    have pl : s.heap.IsTuple a its.toArray := (show s.heap.IsTuple a its.toArray from p)
    have ha_it : a ≠ it := fun z => by
      obtain ⟨o1, q1, c1, _⟩ := hit
      obtain ⟨o2, q2, c2⟩ := pl.typeIs (s := s)
      rw [z, q1] at q2; cases q2; rw [c1] at c2; revert c2; decide +kernel
    have he_a : e ≠ a := fun z => by
      obtain ⟨o2, q2, c2⟩ := pl.typeIs (s := s)
      rw [← z, he] at q2; cases q2; exact absurd c2 (by show ¬ (Value.type "enumerate" = Value.type "tuple"); decide +kernel)
    have hlt : i < its.toArray.size := by
      have := (List.getElem?_eq_some_iff.mp hx).1
      rw [List.size_toArray, ← rv.length]; exact this
    refine wpAny_pyNext_enum_itemC (Draws.tuple (A := X.A.in1) (by exact (I.ok.hd hc)) it a ha_it its.toArray) he ⟨hit, pl⟩ hlt hne (by simp [hne, he_a]) fun u' h' tk hu' ho st' hT hsz hk => ?_
    have eu : u' = u := by
      have h1 : its[i]? = some u' := by simpa using hu'
      rw [hu] at h1; exact (Option.some.inj h1).symm
    subst eu
    refine ⟨_, rfl, wpAny_letOwnedTupleGo_enum (s := { s with heap := h', toks := tk + 1 }) ho fun h'' he' sb => ?_⟩
    have hT2 : h''.get? s.heap.objs.size = some { cls := .type "tuple", data := .seq #[.int (k0 + (i : Int)) tk, u'] } := (sb.2 _ (Nat.ne_of_gt hel)).trans hT
    have new : ObjOk X.prog X.w (upd H s.heap.objs.size (.frz { cls := .type "tuple", data := .seq #[.int (k0 + (i : Int)) tk, u'] } (.tup [.int (k0 + (i : Int)), x]))) h'' s.heap.objs.size (.frz { cls := .type "tuple", data := .seq #[.int (k0 + (i : Int)) tk, u'] } (.tup [.int (k0 + (i : Int)), x])) :=
      ⟨hT2, by show 2 ≤ sizeLine; decide, [.int (k0 + (i : Int)) tk, u'], .cons ⟨_, rfl⟩ (.cons ru .nil), ⟨_, hT2, rfl, _, rfl⟩⟩
    have I1 : Inv X pins σ (upd H s.heap.objs.size (.frz { cls := .type "tuple", data := .seq #[.int (k0 + (i : Int)) tk, u'] } (.tup [.int (k0 + (i : Int)), x]))) { s with heap := h'', toks := tk + 1 } :=
      I.turnedNew (ch := [e, it]) (fun b ob hb q => (sb.2 b (fun z => hb (by simp [z]))).trans (hk b ob (fun z => hb (by simp [z])) (fun z => hb (by simp [z])) q)) hf (Nat.le_refl _) new
    refine ⟨.ref s.heap.objs.size, _, I1, rfl, ⟨_, x, _, rfl, I.hok.fresh (Nat.le_refl _), rfl, rfl, fun ys hy => by rw [I.tuple_inj hy hq]; exact hx⟩, ⟨⟨u', ?_⟩, st'.1.at fun o q => (sb.2 it (Ne.symm hne)).trans q, hne⟩, fun b hb => ?_⟩
    · have e1 : k0 + ((i + 1 : Nat) : Int) = k0 + (i : Int) + 1 := by omega
      rw [e1]; exact he'
    · have hb' : b < s.heap.objs.size := by
        have e' : b = e ∨ b = it := by simpa using hb
        rcases e' with z | z
        · rw [z]; exact hel
        · rw [z]; exact hil
      rw [upd_ne (Nat.ne_of_lt hb')]
      exact (hf b hb).1
  done := by
    intro X hP hw hK hc i pins s σ H E I hf st hg
    subst hP hw hK
    obtain ⟨⟨old, he⟩, hit, hne⟩ := st
    obtain ⟨xs, hq, hx⟩ := hg
    obtain ⟨its, rv, p, hz⟩ := I.tuple hq
    obtain ⟨f0, f1, f2, f3, f4, f5⟩ := hf it (by simp)
    have pl : s.heap.IsTuple a its.toArray := (show s.heap.IsTuple a its.toArray from p)
    have ha_it : a ≠ it := fun z => by
      obtain ⟨o1, q1, c1, _⟩ := hit
      obtain ⟨o2, q2, c2⟩ := pl.typeIs (s := s)
      rw [z, q1] at q2; cases q2; rw [c1] at c2; revert c2; decide +kernel
    have hl : its.toArray.size = i := by rw [List.size_toArray, ← rv.length]; exact hx
    refine wpAny_pyNext_enum_endD (Draws.tuple (A := X.A.in1) (by exact (I.ok.hd hc)) it a ha_it its.toArray) he ⟨by rw [hl]; exact hit, pl⟩ fun h' eb => ⟨rfl, I.turned (t' := s.toks) (fun b o hb q => eb b o hb q) f0 f1 f3 f4 f5⟩
  self := fun A i s Q E st h => let ⟨⟨_, he⟩, _⟩ := st; wpAny_pyIter_enum he h

set_option maxHeartbeats 1000000 in
theorem meets_enumerate_new1B {v : Value} {o : Obj} {H : Heap → Prop} (B : Begins v o H) :
    Meets (Builtin.«enumerate.__new__» ⟨[.type "enumerate", v], []⟩) (fun _ R s => H s.heap ∧
      R (.ok (.ret (.ref (s.heap.push o).objs.size))) { s with heap := (s.heap.push o).push { cls := .type "enumerate", data := .fields #[.none, .bool false, .ref s.heap.objs.size, rawInt 0, .none, .none] } }) :=
  .of_wp fun prog w A R s h => by
    obtain ⟨hp, g, d, tk, os⟩ := s; obtain ⟨h1, h⟩ := h
    have hsub := sub_enumerate
    have q1 : ∀ {A' : Around} {E : Value → Shared → Prop} {Q : Value → Shared → Prop}, Q (.ref hp.objs.size) ⟨hp.push o, g, d, tk, os⟩ → wpAny (model prog w) A' (pyIter v) Q E ⟨hp, g, d, tk, os⟩ :=
      fun q => B.iter prog w _ _ ⟨hp, g, d, tk, os⟩ _ h1 q
    wp_walk using q1
    refine wpAny_stack_any fun st => wpAny_pure ?_
    split
    · rename_i c _ _ _ _ _
      cases (c == Value.type "enumerate")
      · wp_walk using q1
        exact ⟨_, rfl, h⟩
      · wp_walk using q1
        exact ⟨_, rfl, h⟩
    · wp_walk using q1
      exact ⟨_, rfl, h⟩
section
variable {prog : Program} {w : World} {A : Around} {E : Value → Shared → Prop} {s : Shared}
theorem enum_begins1 {v : Value} {o : Obj} {H : Heap → Prop} {Q : Value → Shared → Prop} (B : Begins v o H) (h1 : H s.heap)
    (h : ∀ h', IsEnum h' (s.heap.objs.size + 1) s.heap.objs.size 0 .none → h'.get? s.heap.objs.size = some o → h'.objs.size = s.heap.objs.size + 2 →
      (∀ b o, s.heap.get? b = some o → h'.get? b = some o) → Q (.ref (s.heap.objs.size + 1)) { s with heap := h' }) :
    wpAny (model prog w) A (call (.type "enumerate") [v]) Q E s := by
  refine callType_new F.called_enumerate (by decide) (F.typeCall_enumerate_1 _) (F.newCall_enumerate_1 _) (fun obj => F.args_object_init_2 obj _) F.entry_enumerate_new
    (meets_enumerate_new1B B) ⟨h1, ?_⟩
  have hz : (s.heap.push o).objs.size = s.heap.objs.size + 1 := Heap.size_push ..
  show _ ∧ _
  rw [hz]
  have he : IsEnum ((s.heap.push o).push { cls := .type "enumerate", data := .fields #[.none, .bool false, .ref s.heap.objs.size, rawInt 0, .none, .none] }) (s.heap.objs.size + 1) s.heap.objs.size 0 .none := by
    have := Heap.get?_push_size (s.heap.push o) (o := { cls := .type "enumerate", data := .fields #[.none, .bool false, .ref s.heap.objs.size, rawInt 0, .none, .none] }) rfl
    rw [hz] at this; exact this
  refine ⟨⟨_, he, rfl⟩, h _ he (Heap.get?_push_of_some _ (Heap.get?_push_size _ B.free)) (by rw [Heap.size_push, hz]) fun b o x => Heap.get?_push_of_some _ (Heap.get?_push_of_some _ x)⟩
end
/-- the J of a list, or of a tuple -/
def rEnum (K : PySem.W.Frag) (k0 : Int) (a : Addr) (H1 : Hp) (R : It → Hp → Prop) : Prop :=
  ((∃ xs, SqL K H1 a xs) ∧ R (ItE_l K k0 a) H1) ∨ ((∃ xs, SqT K H1 a xs) ∧ R (ItE_t K k0 a) H1)
def iEnum1 (K : PySem.W.Frag) (ta : TA) : TI := fun σ H R => ta σ H fun vs H1 => ∃ a, vs = [.ref a] ∧ rEnum K 0 a H1 R
def iEnum2 (K : PySem.W.Frag) (ta : TA) : TI := fun σ H R => ta σ H fun vs H1 => ∃ a k, vs = [.ref a, .int k] ∧ -(2 ^ 63) ≤ k ∧ k < 2 ^ 63 ∧ rEnum K k a H1 R
section
variable {X : Cx}
theorem enum_pie {elts : List Expr} {kk : Nat} {tpos : Pos} {pins : List (Addr × Obj)} {σ : L2.St} {H1 : Hp} {R : It → Hp → Prop} {s1 : Shared} {h' : Heap} {k0 : Int} {tk : Nat} {J : It} {ok : Nat → Heap → Prop} (I1 : Inv X pins σ H1 s1)
    (he : IsEnum h' (s1.heap.objs.size + 1) s1.heap.objs.size k0 .none) (hk : ∀ b o, s1.heap.get? b = some o → h'.get? b = some o)
    (T : Turn X.prog X.w X.K (.Tuple elts kk tpos) J [s1.heap.objs.size + 1, s1.heap.objs.size] (s1.heap.objs.size + 1) (fun i h => (∃ old, IsEnum h (s1.heap.objs.size + 1) s1.heap.objs.size (k0 + (i : Int)) old) ∧ ok i h ∧ s1.heap.objs.size + 1 ≠ s1.heap.objs.size)) (hok : ok 0 h')
    (q : R J H1) : PIE X pins σ (.Tuple elts kk tpos) R (.ref (s1.heap.objs.size + 1)) { s1 with heap := h', toks := tk } := by
  refine ⟨s1.heap.objs.size + 1, [s1.heap.objs.size + 1, s1.heap.objs.size], _, J, H1, rfl, I1.kept (t' := tk) hk, T, ⟨⟨.none, ?_⟩, hok, Nat.succ_ne_self _⟩, fun b hb => ?_, q⟩
  · have e1 : k0 + ((0 : Nat) : Int) = k0 := by simp
    rw [e1]; exact he
  · have e' : b = s1.heap.objs.size + 1 ∨ b = s1.heap.objs.size := by simpa using hb
    have hle : s1.heap.objs.size ≤ b := by
      rcases e' with z | z
      · rw [z]; exact Nat.le_add_right _ _
      · rw [z]; exact Nat.le_refl _
    exact I1.fpOk hle (I1.hok.fresh hle)
theorem pi_enum1 {e : Expr} {ta : TA} {p pos tpos : Pos} {elts : List Expr} {kk : Nat} (hg : Gl X "enumerate") (hm : X.mg "enumerate" = none) (ha : PA X [e] ta) (hs : starEach [e] X.env = [(false, eval e X.env)] := by rfl) :
    PI X (.Tuple elts kk tpos) (.Call (.Name "enumerate" p) [e] [] pos) (iEnum1 X.K ta) := by
  refine ⟨fun pins s σ H R I h => ?_⟩
  refine Call_ (ld_blt I hg hm boot_enumerate (PyProof.Rows.callWith_type1 (thn (ha.run pos pins s σ H _ I h) fun us s1 ⟨vs, H1, I1, r1, q1⟩ => ?_) hs rfl))
  obtain ⟨a, ex, q⟩ := q1
  subst ex
  cases r1 with
  | cons r rr =>
    cases rr
    cases r
    rcases q with ⟨⟨xs, hq⟩, q⟩ | ⟨⟨xs, hq⟩, q⟩
    · obtain ⟨its, rv, p', hz⟩ := I1.list hq
      refine enum_begins1 (begins_list a its.toArray) p'.isList fun h' he ho hsz hk => wpAny_pyIter_enum he ?_
      exact enum_pie (k0 := 0) (ok := fun i h => h.IsListIter s1.heap.objs.size a i) I1 he hk (turn_enum_l 0 a _ _) ⟨_, ho, rfl, rfl⟩ q
    · obtain ⟨its, rv, p', hz⟩ := I1.tuple hq
      refine enum_begins1 (begins_tuple a its.toArray) (show s1.heap.IsTuple a its.toArray from p') fun h' he ho hsz hk => wpAny_pyIter_enum he ?_
      exact enum_pie (k0 := 0) (ok := fun i h => h.IsTupleIter s1.heap.objs.size a i) I1 he hk (turn_enum_t 0 a _ _) ⟨_, ho, rfl, rfl⟩ q
theorem pi_enum2 {e e2 : Expr} {ta : TA} {p pos tpos : Pos} {elts : List Expr} {kk : Nat} (hg : Gl X "enumerate") (hm : X.mg "enumerate" = none) (ha : PA X [e, e2] ta) (hs : starEach [e, e2] X.env = (false, eval e X.env) :: starEach [e2] X.env := by rfl) (hpl : (backTo pos (starEach [e2] X.env)).any (·.1) = false := by rfl) :
    PI X (.Tuple elts kk tpos) (.Call (.Name "enumerate" p) [e, e2] [] pos) (iEnum2 X.K ta) := by
  refine ⟨fun pins s σ H R I h => ?_⟩
  refine Call_ (ld_blt I hg hm boot_enumerate (PyProof.Rows.callWith_type1 (thn (ha.run pos pins s σ H _ I h) fun us s1 ⟨vs, H1, I1, r1, q1⟩ => ?_) hs hpl))
  obtain ⟨a, k, ex, h0, h1, q⟩ := q1
  subst ex
  cases r1 with
  | cons r rr =>
    cases rr with
    | cons r2 rr =>
      cases rr
      cases r
      obtain ⟨t, rfl⟩ := r2
      rcases q with ⟨⟨xs, hq⟩, q⟩ | ⟨⟨xs, hq⟩, q⟩
      · obtain ⟨its, rv, p', hz⟩ := I1.list hq
        refine enum_begins (begins_list a its.toArray) p'.isList h0 h1 fun h' he ho hsz hk => wpAny_pyIter_enum he ?_
        exact enum_pie (k0 := k) (ok := fun i h => h.IsListIter s1.heap.objs.size a i) I1 he hk (turn_enum_l k a _ _) ⟨_, ho, rfl, rfl⟩ q
      · obtain ⟨its, rv, p', hz⟩ := I1.tuple hq
        refine enum_begins (begins_tuple a its.toArray) (show s1.heap.IsTuple a its.toArray from p') h0 h1 fun h' he ho hsz hk => wpAny_pyIter_enum he ?_
        exact enum_pie (k0 := k) (ok := fun i h => h.IsTupleIter s1.heap.objs.size a i) I1 he hk (turn_enum_t k a _ _) ⟨_, ho, rfl, rfl⟩ q
end
end Pu
set_option Elab.async false
set_option linter.all false
set_option maxRecDepth 100000
set_option maxHeartbeats 2000000
set_option autoImplicit false
namespace Pu
open PySem L2
/-! # What is walked; loops; comprehensions -/
def Sub (G G' : Gp) : Prop := ∀ a g, G a = some g → G' a = some g
/-- J gives the items ds, while G' stands -/
def ItD (C : Ctx) (G' : Gp) (J : It) (ds : List D) : Prop :=
  ∃ (Gd : Hp → Prop) (Y : Nat → Hp → V → Hp → Prop), Walk J ds.length Gd Y ∧ (∀ (G1 : Gp) (H1 : Hp), Sub G' G1 → Ok G1 H1 → Gd H1) ∧
    ∀ (i : Nat) (G1 : Gp) (H1 : Hp) (x : V) (H2 : Hp), i < ds.length → Sub G' G1 → Ok G1 H1 → Y i H1 x H2 → ∃ d G2, ds[i]? = some d ∧ Ext G1 H1 G2 H2 ∧ R C G2 x d
structure LI (X : Cx) (E : St → XK) (tg iter : Expr) (wi : TI) (pi : PLx) : Prop where
  py : PI X tg iter wi
  le : ∀ {δ : Dl} {σ : St} {G : Gp} {H H0 : Hp} {Q : It → Hp → Prop} {P : List D → Prop} {P2 : Exn → Prop}, Ok G H → SRel (cx X) H0 G H σ δ → EOk (cx X) G H (E σ) P2 → pi δ P P2 →
    (∀ J ds G' H', Ext G H G' H' → ItD (cx X) G' J ds → P ds → Q J H') → wi σ H Q
def rangeD (lo : Int) (n : Nat) : List D := (List.range n).map fun (i : Nat) => D.int (lo + i)
theorem rangeD_len {lo : Int} {n : Nat} : (rangeD lo n).length = n := by unfold rangeD; rw [List.length_map, List.length_range]
theorem rangeD_get {lo : Int} {n i : Nat} (h : i < n) : (rangeD lo n)[i]? = some (.int (lo + i)) := by
  unfold rangeD
  rw [List.getElem?_map, List.getElem?_range h]
  rfl
def enumD : Int → List D → List D
  | _, [] => []
  | k, d :: ds => .tup [.int k, d] :: enumD (k + 1) ds
theorem enumD_len : ∀ (k : Int) (ds : List D), (enumD k ds).length = ds.length
  | _, [] => rfl
  | k, d :: ds => by unfold enumD; rw [List.length_cons, List.length_cons, enumD_len]
theorem enumD_get : ∀ (k : Int) (ds : List D) (i : Nat) (d : D), ds[i]? = some d → (enumD k ds)[i]? = some (.tup [.int (k + i), d])
  | _, [], i, d, h => by simp at h
  | k, e :: ds, 0, d, h => by
    have : e = d := Option.some.inj h
    subst this
    show some (D.tup [.int k, e]) = _
    simp
  | k, e :: ds, i + 1, d, h => by
    have ih := enumD_get (k + 1) ds i d (by simpa using h)
    have e1 : k + 1 + (i : Int) = k + ((i + 1 : Nat) : Int) := by omega
    rw [e1] at ih
    exact ih
section
variable {C : Ctx} {G : Gp} {a : Addr} {xs : List V} {ds : List D}
theorem itd_list (h : G a = some (.fz (.lst xs))) (r : RAll C G xs ds) : ItD C G (Itl C.K a) ds := by
  refine ⟨_, _, by rw [← r.length]; exact walk_list (K := C.K) (a := a) (xs := xs), fun G1 H1 k ok => SqL.of (ok.fz (k _ _ h)), fun i G1 H1 x H2 _ k ok y => ?_⟩
  obtain ⟨rfl, hx⟩ := y
  obtain ⟨d, hd, rd⟩ := r.getV hx
  exact ⟨d, G1, hd, .refl ok, rd.mono k⟩
theorem itd_tup (h : TpG C G a xs) (r : RAll C G xs ds) : ItD C G (Itt C.K a) ds := by
  refine ⟨_, _, by rw [← r.length]; exact walk_tup (K := C.K) (a := a) (xs := xs), fun G1 H1 k ok => (h.mono k).seq ok, fun i G1 H1 x H2 _ k ok y => ?_⟩
  obtain ⟨rfl, hx⟩ := y
  obtain ⟨d, hd, rd⟩ := r.getV hx
  exact ⟨d, G1, hd, .refl ok, rd.mono k⟩
theorem itd_range {lo : Int} {n : Nat} : ItD C G (Itr lo n) (rangeD lo n) := by
  refine ⟨_, _, by rw [rangeD_len]; exact walk_range (lo := lo) (n := n), fun _ _ _ _ => trivial, fun i G1 H1 x H2 hi k ok y => ?_⟩
  rw [rangeD_len] at hi
  obtain ⟨rfl, rfl⟩ := y
  exact ⟨_, G1, rangeD_get hi, .refl ok, .int _⟩
theorem pair_new {C : Ctx} {G1 : Gp} {H1 : Hp} {T : Addr} {o : Obj} {k : Int} {x : V} {d : D} (ok : Ok G1 H1) (hT : H1 T = none) (ho : o.dict = none) (r : R C G1 x d) :
    ∃ G2, Ext G1 H1 G2 (upd H1 T (.frz o (.tup [.int k, x]))) ∧ R C G2 (.ref T) (.tup [.int k, d]) :=
  ⟨_, Ext.newT ok hT ho (.cons (.int k) (.cons r .nil))⟩
theorem itd_enum_l {k0 : Int} (h : G a = some (.fz (.lst xs))) (r : RAll C G xs ds) : ItD C G (ItE_l C.K k0 a) (enumD k0 ds) := by
  have hl : (enumD k0 ds).length = xs.length := by rw [enumD_len, r.length]
  refine ⟨fun H => SqL C.K H a xs, fun i H v H' => ∃ T x o, v = .ref T ∧ H T = none ∧ o.dict = none ∧ H' = upd H T (.frz o (.tup [.int (k0 + (i : Int)), x])) ∧ xs[i]? = some x, ⟨fun i H hi q => ⟨xs, xs[i]'(by omega), q, by simp [show i < xs.length by omega]⟩, fun H q => ⟨xs, q, hl.symm⟩,
    fun i H x H' hi q ⟨T, y, o, h1, h2, h5, h3, h4⟩ => ⟨T, y, o, h1, h2, h5, h3, h4 xs q⟩⟩, fun G1 H1 k ok => SqL.of (ok.fz (k _ _ h)), fun i G1 H1 x H2 hi k ok y => ?_⟩
  obtain ⟨T, y, ob, rfl, hT, ho, rfl, hy⟩ := y
  obtain ⟨d, hd, rd⟩ := r.getV hy
  obtain ⟨G2, e2, r2⟩ := pair_new (k := k0 + (i : Int)) ok hT ho (rd.mono k)
  exact ⟨_, G2, enumD_get _ _ _ _ hd, e2, r2⟩
theorem itd_enum_t {k0 : Int} (h : TpG C G a xs) (r : RAll C G xs ds) : ItD C G (ItE_t C.K k0 a) (enumD k0 ds) := by
  have hl : (enumD k0 ds).length = xs.length := by rw [enumD_len, r.length]
  refine ⟨fun H => SqT C.K H a xs, fun i H v H' => ∃ T x o, v = .ref T ∧ H T = none ∧ o.dict = none ∧ H' = upd H T (.frz o (.tup [.int (k0 + (i : Int)), x])) ∧ xs[i]? = some x, ⟨fun i H hi q => ⟨xs, xs[i]'(by omega), q, by simp [show i < xs.length by omega]⟩, fun H q => ⟨xs, q, hl.symm⟩,
    fun i H x H' hi q ⟨T, y, o, h1, h2, h5, h3, h4⟩ => ⟨T, y, o, h1, h2, h5, h3, h4 xs q⟩⟩, fun G1 H1 k ok => (h.mono k).seq ok, fun i G1 H1 x H2 hi k ok y => ?_⟩
  obtain ⟨T, y, ob, rfl, hT, ho, rfl, hy⟩ := y
  obtain ⟨d, hd, rd⟩ := r.getV hy
  obtain ⟨G2, e2, r2⟩ := pair_new (k := k0 + (i : Int)) ok hT ho (rd.mono k)
  exact ⟨_, G2, enumD_get _ _ _ _ hd, e2, r2⟩
end
/-! ### sources -/
def iSeq (K : PySem.W.Frag) (te : TE) : TI := fun σ H R => te σ H fun x H1 => ∃ a, x = .ref a ∧ (((∃ xs, SqL K H1 a xs) ∧ R (Itl K a) H1) ∨ ((∃ xs, SqT K H1 a xs) ∧ R (Itt K a) H1))
section
variable {X : Cx} {E : St → XK}
theorem pi_seq {tg l : Expr} {tl : TE} (hl : PE X l tl) : PI X tg l (iSeq X.K tl) := by
  refine ⟨fun pins s σ H R I h => ?_⟩
  refine thn (hl.run pins s σ H _ I h) fun v s1 ⟨x, H1, I1, r1, q1⟩ => ?_
  obtain ⟨a, e, q⟩ := q1
  subst e
  cases r1
  rcases q with ⟨⟨xs, hq⟩, q⟩ | ⟨⟨xs, hq⟩, q⟩
  · obtain ⟨its, rv, p, hz⟩ := I1.list hq
    refine wpAny_pyIter_list p.isList ?_
    refine ⟨s1.heap.objs.size, [s1.heap.objs.size], _, _, H1, rfl, I1.kept (t' := s1.toks) fun b o e => Heap.get?_push_of_some _ e, turn_list a _, ⟨_, Heap.get?_push_size _ rfl, rfl, rfl⟩, fun b hb => ?_, q⟩
    have e : b = s1.heap.objs.size := by simpa using hb
    subst e
    exact I1.fpOk (Nat.le_refl _) (I1.hok.fresh (Nat.le_refl _))
  · obtain ⟨its, rv, p, hz⟩ := I1.tuple hq
    refine wpAny_pyIter_tuple (show s1.heap.IsTuple a its.toArray from p) ?_
    refine ⟨s1.heap.objs.size, [s1.heap.objs.size], _, _, H1, rfl, I1.kept (t' := s1.toks) fun b o e => Heap.get?_push_of_some _ e, turn_tuple a _, ⟨_, Heap.get?_push_size _ rfl, rfl, rfl⟩, fun b hb => ?_, q⟩
    have e : b = s1.heap.objs.size := by simpa using hb
    subst e
    exact I1.fpOk (Nat.le_refl _) (I1.hok.fresh (Nat.le_refl _))
def pItems (pe : PX) : PLx := fun δ P P2 => pe δ (fun d => match itemsD d with | some ds => P ds | none => False) P2
theorem R.items {C : Ctx} {G : Gp} {v : V} {d : D} {ds : List D} (r : R C G v d) (e : itemsD d = some ds) : ∃ a xs, v = .ref a ∧ (G a = some (.fz (.lst xs)) ∨ TpG C G a xs) ∧ RAll C G xs ds := by
  unfold itemsD at e
  split at e
  · cases e
    cases r with
    | lst h r => exact ⟨_, _, rfl, .inl h, r⟩
  · cases e
    cases r with
    | tup h r => exact ⟨_, _, rfl, .inr h, r⟩
  · cases e
theorem li_seq {tg l : Expr} {tl : TE} {pe : PX} (hl : LX X E l tl pe) : LI X E tg l (iSeq X.K tl) (pItems pe) := by
  refine ⟨pi_seq hl.py, fun {δ σ G H H0 Q P P2} k s x p q => hl.le k s x p fun v d G' H' y r p' => ?_⟩
  split at p'
  · rename_i ds e
    obtain ⟨a, xs, rfl, h, r⟩ := r.items e
    refine ⟨a, rfl, ?_⟩
    rcases h with h | h
    · exact .inl ⟨⟨xs, SqL.of (y.ok.fz h)⟩, q _ ds _ _ y (itd_list h r) p'⟩
    · exact .inr ⟨⟨xs, h.seq y.ok⟩, q _ ds _ _ y (itd_tup h r) p'⟩
  · exact p'.elim
def pEnum (k0 : Int) (pe : PX) : PLx := fun δ P P2 => pe δ (fun d => match itemsD d with | some ds => P (enumD k0 ds) | none => False) P2
theorem li_enum1 {e : Expr} {te : TE} {pe : PX} {p pos tpos : Pos} {elts : List Expr} {kk : Nat} (hg : Gl X "enumerate") (hm : X.mg "enumerate" = none) (he : LX X E e te pe) (hs : starEach [e] X.env = [(false, eval e X.env)] := by rfl) :
    LI X E (.Tuple elts kk tpos) (.Call (.Name "enumerate" p) [e] [] pos) (iEnum1 X.K (tCons te tNil)) (pEnum 0 pe) := by
  refine ⟨pi_enum1 hg hm (pa_cons he.py pa_nil hs) hs, fun {δ σ G H H0 Q P P2} k s x p q => he.le k s x p fun v d G' H' y r p' => ?_⟩
  split at p'
  · rename_i ds e
    obtain ⟨a, xs, rfl, h, r⟩ := r.items e
    refine ⟨a, rfl, ?_⟩
    rcases h with h | h
    · exact .inl ⟨⟨xs, SqL.of (y.ok.fz h)⟩, q _ _ _ _ y (itd_enum_l h r) p'⟩
    · exact .inr ⟨⟨xs, h.seq y.ok⟩, q _ _ _ _ y (itd_enum_t h r) p'⟩
  · exact p'.elim
theorem li_enum2 {e : Expr} {te : TE} {pe : PX} {p pos tpos p2 : Pos} {elts : List Expr} {kk j : Nat} {k0 : Int} (hg : Gl X "enumerate") (hm : X.mg "enumerate" = none) (he : LX X E e te pe) (h0 : -(2 ^ 63) ≤ k0 := by decide) (h1 : k0 < 2 ^ 63 := by decide)
    (hs : starEach [e, .Constant (.int k0) j p2] X.env = (false, eval e X.env) :: starEach [.Constant (.int k0) j p2] X.env := by rfl) (hs2 : starEach [.Constant (.int k0) j p2] X.env = (false, eval (.Constant (.int k0) j p2) X.env) :: starEach [] X.env := by rfl) (hpl : (backTo pos (starEach [.Constant (.int k0) j p2] X.env)).any (·.1) = false := by rfl) :
    LI X E (.Tuple elts kk tpos) (.Call (.Name "enumerate" p) [e, .Constant (.int k0) j p2] [] pos) (iEnum2 X.K (tCons te (tCons (tC (.int k0)) tNil))) (pEnum k0 pe) := by
  refine ⟨pi_enum2 hg hm (pa_cons he.py (pa_cons pe_int pa_nil hs2) hs) hs hpl, fun {δ σ G H H0 Q P P2} k s x p q => he.le k s x p fun v d G' H' y r p' => ?_⟩
  split at p'
  · rename_i ds e
    obtain ⟨a, xs, rfl, h, r⟩ := r.items e
    refine ⟨a, k0, rfl, h0, h1, ?_⟩
    rcases h with h | h
    · exact .inl ⟨⟨xs, SqL.of (y.ok.fz h)⟩, q _ _ _ _ y (itd_enum_l h r) p'⟩
    · exact .inr ⟨⟨xs, h.seq y.ok⟩, q _ _ _ _ y (itd_enum_t h r) p'⟩
  · exact p'.elim
/-- range(n), range(a, b) -/
def b62 (i : Int) : Prop := -(2 ^ 62) ≤ i ∧ i < 2 ^ 62
def pRange1 (pe : PX) : PLx := fun δ P P2 => pe δ (fun d => match d with | .int j => b62 j ∧ P (rangeD 0 j.toNat) | _ => False) P2
def pRange2 (pe pf : PX) : PLx := fun δ P P2 => pe δ (fun d => pf δ (fun e => match d, e with | .int i, .int j => b62 i ∧ b62 j ∧ P (rangeD i (j - i).toNat) | _, _ => False) P2) P2
theorem R.intR {C : Ctx} {G : Gp} {v : V} {i : Int} (r : R C G v (.int i)) : v = .int i := by cases r; rfl
theorem li_range1 {tg e : Expr} {te : TE} {pe : PX} {p pos : Pos} (hg : Gl X "range") (hm : X.mg "range" = none) (he : LX X E e te pe) (hs : starEach [e] X.env = [(false, eval e X.env)] := by rfl) :
    LI X E tg (.Call (.Name "range" p) [e] [] pos) (iRng1 (tCons te tNil)) (pRange1 pe) := by
  refine ⟨pi_range1 hg hm (pa_cons he.py pa_nil hs) hs, fun {δ σ G H H0 Q P P2} k s x p q => he.le k s x p fun v d G' H' y r p' => ?_⟩
  split at p'
  · obtain rfl := r.intR
    exact ⟨_, rfl, p'.1.1, p'.1.2, q _ _ _ _ y itd_range p'.2⟩
  · exact p'.elim
theorem li_range2 {tg e f : Expr} {te tf : TE} {pe pf : PX} {p pos : Pos} (hg : Gl X "range") (hm : X.mg "range" = none) (he : LX X E e te pe) (hf : LX X E f tf pf) (hs : starEach [e, f] X.env = (false, eval e X.env) :: starEach [f] X.env := by rfl) (hs2 : starEach [f] X.env = (false, eval f X.env) :: starEach [] X.env := by rfl) (hs3 : starEach [f] X.env = [(false, eval f X.env)] := by rfl)
    (hpl : (backTo pos (starEach [f] X.env)).any (·.1) = false := by rfl) :
    LI X E tg (.Call (.Name "range" p) [e, f] [] pos) (iRng2 (tCons te (tCons tf tNil))) (pRange2 pe pf) := by
  refine ⟨pi_range2 hg hm (pa_cons he.py (pa_cons hf.py pa_nil hs2) hs) (by rw [hs, hs3]) hs3, fun {δ σ G H H0 Q P P2} k s x p q => he.le k s x p fun v d G' H' y r p' => ?_⟩
  refine hf.le y.ok (s.ext y) (x.ext y) p' fun v2 d2 G2 H2 y2 r2 p2 => ?_
  split at p2
  · obtain rfl := r.intR
    obtain rfl := r2.intR
    exact ⟨_, _, rfl, ⟨p2.1.1, p2.1.2, p2.2.1.1, p2.2.1.2⟩, q _ _ _ _ (y.trans y2) itd_range p2.2.2⟩
  · exact p2.elim
/-! ### for -/
abbrev PG' := D → Dl → (Dl → Prop) → Prop
def pForL (pg : PG') (body : PSx) (P : PEnds) : List D → Dl → Prop
  | [], δ => P.nx δ
  | d :: ds, δ => pg d δ fun δ' => body { P with nx := pForL pg body P ds, ct := pForL pg body P ds, bk := P.nx } δ'
def pFor (pi : PLx) (pg : PG') (body : PSx) : PSx := fun P δ => pi δ (fun ds => pForL pg body P ds δ) (P.ex δ)
theorem Stt.rebase {C : Ctx} {G0 G' : Gp} {H0 H' : Hp} {σ : St} {δ : Dl} (t : Stt C G0 H0 σ δ G' H') : ∃ Hb, Stt C G' Hb σ δ G' H' ∧ (∀ {G H}, Ext G' Hb G H → Ext G0 H0 G H) ∧ ∀ {σ δ G H}, Stt C G' Hb σ δ G H → Stt C G0 H0 σ δ G H := by
  classical
  let Hb : Hp := fun a => if (G' a).isSome ∨ (H0 a).isSome then H' a else none
  have ext : ∀ {G H}, Ext G' Hb G H → Ext G0 H0 G H := fun {G H} x => ⟨fun a g h => x.g a g (t.ext.g a g h), x.ok, fun a o h g => by
    obtain ⟨h1, g1⟩ := t.ext.h a o h g
    exact x.h a o (by show (if _ then H' a else none) = _; rw [if_pos (.inr (by rw [h]; rfl))]; exact h1) g1⟩
  have nn : ∀ a, Hb a = none → H0 a = none := fun a h => by
    cases e : H0 a with
    | none => rfl
    | some o =>
      have e2 : Hb a = H' a := if_pos (.inr (by rw [e]; rfl))
      rw [h] at e2
      have := t.ext.back e2.symm
      rw [e] at this; cases this
  refine ⟨Hb, ⟨⟨fun _ _ h => h, t.ok, fun a o h g => ⟨?_, g⟩⟩, ⟨t.sr.len, fun i s h => ?_, t.sr.apart⟩⟩, ext, fun {σ δ G H} u => ⟨ext u.ext, ⟨u.sr.len, fun i s h => ?_, u.sr.apart⟩⟩⟩
  · have h' : (if (G' a).isSome ∨ (H0 a).isSome then H' a else none) = some o := h
    split at h'
    · exact h'
    · cases h'
  · obtain ⟨v, e, r⟩ := t.sr.at_ i s h
    refine ⟨v, e, ?_⟩
    cases r with
    | d r => exact .d r
    | own ha hx gx nx rx => exact .own ha hx gx (if_neg (by rw [gx, nx]; simp)) rx
    | slf m hx gx nx rx l => exact .slf m hx gx (if_neg (by rw [gx, nx]; simp)) rx l
    | exc r => exact .exc r
  · obtain ⟨v, e, r⟩ := u.sr.at_ i s h
    refine ⟨v, e, ?_⟩
    cases r with
    | d r => exact .d r
    | own ha hx gx nx rx => exact .own ha hx gx (nn _ nx) rx
    | slf m hx gx nx rx l => exact .slf m hx gx (nn _ nx) rx l
    | exc r => exact .exc r
theorem ls_for {tg iter : Expr} {body : List Stmt} {wi : TI} {g : TG} {tb : TS} {pi : PLx} {pg : PG'} {pb : PSx} {js : List Nat} {pos : Pos} (hp : PassesOwn (model X.prog X.w) X.A X.env X.xe) (hc : X.calm = true) (hi : LI X E tg iter wi pi) (hg : LG X tg g pg js) (hb : LSs X E body tb pb)
    (hs : ∀ x, foldedSetIterable iter X.env x = pure x := by intro _; rfl) : LS X E (.For tg iter body [] pos) (tFor wi g tb) (pFor pi pg pb) := by
  refine ⟨ps_for hp hc hi.py hg.py hb.py hs, fun {G0 H0 Dn P δ σ G H} e t p => hi.le t.ok t.sr (e.ex t) p fun J ds G' H' y it q => ?_⟩
  have t1 : Stt (cx X) G0 H0 σ δ G' H' := t.step y
  obtain ⟨Hb, t2, xb, back⟩ := t1.rebase
  obtain ⟨Gd, Y, w, gd, yy⟩ := it
  refine for_it w (fun i σ H => ∃ δ G, Stt (cx X) G' Hb σ δ G H ∧ pForL pg pb P (ds.drop i) δ) ⟨δ, G', t2, q⟩ (fun i σ H _ ⟨δ, G, u, _⟩ => gd G H u.ext.g u.ok) (fun i x σ1 H1 H2 hi' ⟨δ1, G1, u, q1⟩ hy => ?_) fun σ1 H1 ⟨δ1, G1, u, q1⟩ => ?_
  · obtain ⟨d, G2, hd, x2, r2⟩ := yy i G1 H1 x H2 hi' u.ext.g u.ok hy
    have ed : ds.drop i = d :: ds.drop (i + 1) := by
      obtain ⟨hlt, hd'⟩ := List.getElem?_eq_some_iff.mp hd
      rw [← hd']; exact List.drop_eq_getElem_cons hlt
    rw [ed] at q1
    have u2 := u.step x2
    refine hg.le x2.ok u2.sr r2 q1 fun σ3 δ3 s3 _ q3 => ?_
    exact hb.le (P := { P with nx := pForL pg pb P (ds.drop (i + 1)), ct := pForL pg pb P (ds.drop (i + 1)), bk := P.nx }) ⟨fun {σ δ G H} u' q' => ⟨δ, G, u', q'⟩, fun {σ δ v d G H} u' r' q' => e.rt (back u') r' q', fun {σ δ G H} u' q' => e.nx (back u') q', fun {σ δ G H} u' q' => ⟨δ, G, u', q'⟩, fun {σ δ G H} u' => e.ex (back u')⟩ ⟨u2.ext, s3⟩ q3
  · rw [List.drop_length] at q1
    exact e.nx (back u) q1
/-! ### readings by what they are for -/
def teOf (C : Ctx) (E : St → XK) (pe : PX) : TE := fun σ H Q => ∃ (δ : Dl) (G : Gp) (H0 : Hp) (P : D → Prop) (P2 : Exn → Prop), Ok G H ∧ SRel C H0 G H σ δ ∧ EOk C G H (E σ) P2 ∧ pe δ P P2 ∧ ∀ v d G' H', Ext G H G' H' → R C G' v d → P d → Q v H'
def ttOf (C : Ctx) (E : St → XK) (pt : PTx) : TT := fun σ H Q => ∃ (δ : Dl) (G : Gp) (H0 : Hp) (P : Bool → Prop) (P2 : Exn → Prop), Ok G H ∧ SRel C H0 G H σ δ ∧ EOk C G H (E σ) P2 ∧ pt δ P P2 ∧ ∀ b G' H', Ext G H G' H' → P b → Q b H'
def gOf (C : Ctx) (pg : PG') (js : List Nat) : TG := fun v σ H Q => ∃ (δ : Dl) (G : Gp) (H0 : Hp) (d : D) (P : Dl → Prop), Ok G H ∧ SRel C H0 G H σ δ ∧ R C G v d ∧ pg d δ P ∧ ∀ σ' δ', SRel C H0 G H σ' δ' → Out js σ σ' → P δ' → Q σ' H
def tsOf (C : Ctx) (E : St → XK) (ps : PSx) : TS := fun Dn σ H => ∃ (G0 : Gp) (H0 : Hp) (P : PEnds) (δ : Dl) (G : Gp), EndsR C G0 H0 E Dn P ∧ Stt C G0 H0 σ δ G H ∧ ps P δ
theorem LX.sem {e : Expr} {te : TE} {pe : PX} (h : LX X E e te pe) : LX X E e (teOf (cx X) E pe) pe :=
  ⟨⟨fun pins s σ H Q I ⟨δ, G, H0, P, P2, k, r, x, p, q⟩ => h.py.run pins s σ H Q I (h.le k r x p q)⟩, fun k s x p q => ⟨_, _, _, _, _, k, s, x, p, q⟩⟩
theorem LG.sem {tg : Expr} {g : TG} {pg : PG'} {js : List Nat} (h : LG X tg g pg js) : LG X tg (gOf (cx X) pg js) pg js :=
  ⟨⟨fun pins s σ H v u Q I rv ⟨δ, G, H0, d, P, k, r, rd, p, q⟩ => h.py.run pins s σ H v u Q I rv (h.le k r rd p q)⟩, fun k s r p q => ⟨_, _, _, _, _, k, s, r, p, q⟩⟩
theorem LSs.sem {st : List Stmt} {t : TS} {ps : PSx} (h : LSs X E st t ps) : LSs X E st (tsOf (cx X) E ps) ps :=
  ⟨⟨fun pins s σ H D I ⟨G0, H0, P, δ, G, e, r, p⟩ => h.py.run pins s σ H D I (h.le e r p)⟩, fun e t p => ⟨_, _, _, _, _, e, t, p⟩⟩
/-! ### comprehensions -/
theorem wipe_wipe {σ : St} {vs : List Nat} : wipe (wipe σ vs) vs = wipe σ vs := by
  apply List.ext_getElem?
  intro i
  by_cases m : i ∈ vs
  · rw [wipe_at m, wipe_at m, wipe_length]
  · rw [wipe_out m]
structure LTs (X : Cx) (E : St → XK) (ifs : List Expr) (tt : TT) (pt : PTx) : Prop where
  py : PTs X ifs tt
  le : ∀ {δ : Dl} {σ : St} {G : Gp} {H H0 : Hp} {Q : Bool → Hp → Prop} {P : Bool → Prop} {P2 : Exn → Prop}, Ok G H → SRel (cx X) H0 G H σ δ → EOk (cx X) G H (E σ) P2 → pt δ P P2 →
    (∀ b G' H', Ext G H G' H' → P b → Q b H') → tt σ H Q
theorem LTs.sem {ifs : List Expr} {tt : TT} {pt : PTx} (h : LTs X E ifs tt pt) : LTs X E ifs (ttOf (cx X) E pt) pt :=
  ⟨⟨fun pins s σ H Q I ⟨δ, G, H0, P, P2, k, r, x, p, q⟩ => h.py.run pins s σ H Q I (h.le k r x p q)⟩, fun k s x p q => ⟨_, _, _, _, _, k, s, x, p, q⟩⟩
def pYes : PTx := fun _ P _ => P true
theorem lts_nil : LTs X E [] tYes pYes := ⟨pts_nil, fun k s x p q => q _ _ _ (.refl k) p⟩
theorem lts_one {c : Expr} {tt : TT} {pt : PTx} (h : LT X E c tt pt) : LTs X E [c] tt pt := ⟨pts_one h.py, h.le⟩
abbrev E0S : St → XK := fun _ _ _ _ => False
theorem eok0 {C : Ctx} {G : Gp} {H : Hp} {σ : St} : EOk C G H (E0S σ) (fun _ => False) := fun _ _ _ _ _ _ _ p => p
def pLcL (pg : PG') (pt : PTx) (pe : PX) (δw : Dl) (P : D → Prop) : List D → List D → Prop
  | [], es => P (.lst es)
  | d :: ds, es => pg d δw fun δ' => pt δ' (fun b => if b = true then pe δ' (fun y => es.length < szl ∧ pLcL pg pt pe δw P ds (es ++ [y])) (fun _ => False) else pLcL pg pt pe δw P ds es) fun _ => False
def pLc (pi : PLx) (pg : PG') (pt : PTx) (pe : PX) (vs : List Nat) : PX := fun δ P P2 => pi δ (fun ds => pLcL pg pt pe (wipeD δ vs) P ds []) P2
theorem lc_le {tg iter elt : Expr} {ifs : List Expr} {wi : TI} {g : TG} {tt : TT} {te : TE} {pi : PLx} {pg : PG'} {pt : PTx} {pe : PX} {js vs : List Nat} {X1 : Cx} (hX : cx X1 = cx X) (hi : LI X E tg iter wi pi) (hg : LG X1 tg g pg js) (ht : LTs X1 E0S ifs tt pt) (he : LX X1 E0S elt te pe) (hj : ∀ i ∈ js, i ∈ vs)
    {δ : Dl} {σ : St} {G : Gp} {H H0 : Hp} {Q : VK} {P : D → Prop} {P2 : Exn → Prop} (k : Ok G H) (s : SRel (cx X) H0 G H σ δ) (x : EOk (cx X) G H (E σ) P2) (p : pLc pi pg pt pe vs δ P P2)
    (q : ∀ p xs ds G' H', Ext G H G' H' → H p = none → H' p = some (.lst xs) → G' p = none → RAll (cx X) G' xs ds → P (.lst ds) → Q (.ref p) H') : tLc wi g tt te vs σ H Q := by
  refine hi.le k s x p fun J ds G' H' y it q1 => ?_
  intro A hA
  obtain ⟨Gd, Y, w, gd, yy⟩ := it
  have sw : SRel (cx X) H0 G' H' (wipe σ vs) (wipeD δ vs) := (s.ext y).wipe vs
  refine lc_it w (fun i H1 => ∃ G1 acc es, Ext G' H' G1 H1 ∧ H1 A = some (.lst acc) ∧ G1 A = none ∧ RAll (cx X) G1 acc es ∧ pLcL pg pt pe (wipeD δ vs) P (ds.drop i) es) ⟨G', [], [], Ext.new y.ok hA, upd_same, y.ok.none_of hA, .nil, q1⟩
    (fun i H1 _ ⟨G1, acc, es, x1, h1, g1, r1, q1⟩ => gd G1 H1 x1.g x1.ok) (fun i v H1 H2 hi' ⟨G1, acc, es, x1, h1, g1, r1, q1⟩ hy => ?_) fun H1 ⟨G1, acc, es, x1, h1, g1, r1, q1⟩ => ?_
  · obtain ⟨d, G2, hd, x2, r2⟩ := yy i G1 H1 v H2 hi' x1.g x1.ok hy
    have ed : ds.drop i = d :: ds.drop (i + 1) := by
      obtain ⟨hlt, hd'⟩ := List.getElem?_eq_some_iff.mp hd
      rw [← hd']; exact List.drop_eq_getElem_cons hlt
    rw [ed] at q1
    have x12 := x1.trans x2
    obtain ⟨h2, g2⟩ := x2.h _ _ h1 g1
    refine hg.le (H0 := H0) x2.ok (by rw [hX]; exact sw.ext x12) (by rw [hX]; exact r2) q1 fun σ3 δ3 s3 o3 q3 => ⟨o3.wipe hj |>.trans (by rw [wipe_wipe]), ?_⟩
    refine ht.le (H0 := H0) x2.ok s3 eok0 q3 fun b G3 H3 x3 q4 => ?_
    obtain ⟨h3, g3⟩ := x3.h _ _ h2 g2
    split at q4
    · rename_i eb
      rw [if_pos eb]
      refine he.le x3.ok (s3.ext x3) eok0 q4 fun u d' G4 H4 x4 r4 q5 => ?_
      obtain ⟨h4, g4⟩ := x4.h _ _ h3 g3
      have x14 : Ext G' H' G4 H4 := (x12.trans x3).trans x4
      rw [hX] at r4
      have r1' := (r1.mono (((x2.trans x3).trans x4).g))
      refine ⟨acc, h4, by rw [r1.length, sizeLine_eq]; exact q5.1, G4, acc ++ [u], es ++ [d'], x14.write hA g4, upd_same, g4, r1'.append (.one r4), q5.2⟩
    · rename_i eb
      rw [if_neg eb]
      exact ⟨G3, acc, es, x12.trans x3, h3, g3, r1.mono ((x2.trans x3).g), q4⟩
  · rw [List.drop_length] at q1
    exact q A acc es G1 H1 (y.trans x1) (y.back hA) h1 g1 r1 q1

section
variable {elt tg iter : Expr} {ifs : List Expr} {scope : Scope} {own : List (Str × Nat)} {pos : Pos} {wi : TI} {g : TG} {tt : TT} {te : TE} {pi : PLx} {pg : PG'} {pt : PTx} {pe : PX} {js : List Nat}
theorem lo_lc (hc : X.calm = true) (hN : X.N.Nodup) (hi : LI X E tg iter wi pi) (ok : BlkOk X.N X.env.scope scope own)
    (hg : ∀ (s : Shared) (H : Hp) (C : Addr) (cl : List (Str × Addr)) (fp : List Addr), ∃ g, LG (X.blk s H scope (compEnvC scope cl C X.env) fp) tg g pg js)
    (ht : ∀ (s : Shared) (H : Hp) (C : Addr) (cl : List (Str × Addr)) (fp : List Addr), ∃ tt, LTs (X.blk s H scope (compEnvC scope cl C X.env) fp) E0S ifs tt pt)
    (he : ∀ (s : Shared) (H : Hp) (C : Addr) (cl : List (Str × Addr)) (fp : List Addr), ∃ te, LX (X.blk s H scope (compEnvC scope cl C X.env) fp) E0S elt te pe)
    (hj : ∀ i ∈ js, i ∈ own.map (·.2)) (hs : ∀ x, foldedSetIterable iter X.env x = pure x := by intro _; rfl) :
    LO X E (.ListComp elt [⟨tg, iter, ifs, 0⟩] scope pos) (tLc wi (gOf (cx X) pg js) (ttOf (cx X) E0S pt) (teOf (cx X) E0S pe) (own.map (·.2))) (pLc pi pg pt pe (own.map (·.2))) :=
  ⟨pe_lc hc hN hi.py ok (fun s H C cl fp => let ⟨_, h⟩ := hg s H C cl fp; h.sem.py) (fun s H C cl fp => let ⟨_, h⟩ := ht s H C cl fp; h.sem.py) (fun s H C cl fp => let ⟨_, h⟩ := he s H C cl fp; h.sem.py) hs,
    fun {δ σ G H H0 Q P P2} k s x p q => lc_le (X := X) (X1 := X.blk ({} : Shared) H scope (compEnvC scope [] 0 X.env) []) rfl hi (Classical.choose_spec (hg _ _ _ _ _)).sem (Classical.choose_spec (ht _ _ _ _ _)).sem (Classical.choose_spec (he _ _ _ _ _)).sem hj k s x p q⟩

theorem ls_setLcO (i : Nat) {y : Str} {py spos : Pos} (hc : X.calm = true) (hN : X.N.Nodup) (hi : LI X E tg iter wi pi) (ok : BlkOk X.N X.env.scope scope own)
    (hg : ∀ (s : Shared) (H : Hp) (C : Addr) (cl : List (Str × Addr)) (fp : List Addr), ∃ g, LG (X.blk s H scope (compEnvC scope cl C X.env) fp) tg g pg js)
    (ht : ∀ (s : Shared) (H : Hp) (C : Addr) (cl : List (Str × Addr)) (fp : List Addr), ∃ tt, LTs (X.blk s H scope (compEnvC scope cl C X.env) fp) E0S ifs tt pt)
    (he : ∀ (s : Shared) (H : Hp) (C : Addr) (cl : List (Str × Addr)) (fp : List Addr), ∃ te, LX (X.blk s H scope (compEnvC scope cl C X.env) fp) E0S elt te pe)
    (hj : ∀ i ∈ js, i ∈ own.map (·.2)) (hy : X.N[i]? = some y := by rfl) (hyl : X.env.scope.names.lookup y = some .local := by rfl) (hsw : swapsWith (.ListComp elt [⟨tg, iter, ifs, 0⟩] scope pos) (some (.Name y py)) spos.line X.env = pure true := by exact sw_true rfl rfl rfl (by decide +kernel))
    (hs : ∀ x, foldedSetIterable iter X.env x = pure x := by intro _; rfl) :
    LS X E (.Assign [.Name y py] (.ListComp elt [⟨tg, iter, ifs, 0⟩] scope pos) spos) (tAsg (tLc wi (gOf (cx X) pg js) (ttOf (cx X) E0S pt) (teOf (cx X) E0S pe) (own.map (·.2))) (gName i)) (pAsgO (pLc pi pg pt pe (own.map (·.2))) i) :=
  ⟨ps_setLc hc hN hy hyl hsw hi.py ok (fun s H C cl fp => let ⟨_, h⟩ := hg s H C cl fp; h.sem.py) (fun s H C cl fp => let ⟨_, h⟩ := ht s H C cl fp; h.sem.py) (fun s H C cl fp => let ⟨_, h⟩ := he s H C cl fp; h.sem.py) hs,
    fun {G0 H0 Dn P δ σ G H} e t p => lc_le (X := X) (X1 := X.blk ({} : Shared) H scope (compEnvC scope [] 0 X.env) []) rfl hi (Classical.choose_spec (hg _ _ _ _ _)).sem (Classical.choose_spec (ht _ _ _ _ _)).sem (Classical.choose_spec (he _ _ _ _ _)).sem hj t.ok t.sr (e.ex t) p
      fun l xs ds G' H' y hn hp gp r q => e.nx ⟨t.ext.trans y, SRel.setO t.ext t.sr y hn hp gp r⟩ q⟩
theorem ls_setLc (i : Nat) {y : Str} {py spos : Pos} (hc : X.calm = true) (hN : X.N.Nodup) (hi : LI X E tg iter wi pi) (ok : BlkOk X.N X.env.scope scope own)
    (hg : ∀ (s : Shared) (H : Hp) (C : Addr) (cl : List (Str × Addr)) (fp : List Addr), ∃ g, LG (X.blk s H scope (compEnvC scope cl C X.env) fp) tg g pg js)
    (ht : ∀ (s : Shared) (H : Hp) (C : Addr) (cl : List (Str × Addr)) (fp : List Addr), ∃ tt, LTs (X.blk s H scope (compEnvC scope cl C X.env) fp) E0S ifs tt pt)
    (he : ∀ (s : Shared) (H : Hp) (C : Addr) (cl : List (Str × Addr)) (fp : List Addr), ∃ te, LX (X.blk s H scope (compEnvC scope cl C X.env) fp) E0S elt te pe)
    (hj : ∀ i ∈ js, i ∈ own.map (·.2)) (hy : X.N[i]? = some y := by rfl) (hyl : X.env.scope.names.lookup y = some .local := by rfl) (hsw : swapsWith (.ListComp elt [⟨tg, iter, ifs, 0⟩] scope pos) (some (.Name y py)) spos.line X.env = pure true := by exact sw_true rfl rfl rfl (by decide +kernel))
    (hs : ∀ x, foldedSetIterable iter X.env x = pure x := by intro _; rfl) :
    LS X E (.Assign [.Name y py] (.ListComp elt [⟨tg, iter, ifs, 0⟩] scope pos) spos) (tAsg (tLc wi (gOf (cx X) pg js) (ttOf (cx X) E0S pt) (teOf (cx X) E0S pe) (own.map (·.2))) (gName i)) (pAsg (pLc pi pg pt pe (own.map (·.2))) i) :=
  ⟨ps_setLc hc hN hy hyl hsw hi.py ok (fun s H C cl fp => let ⟨_, h⟩ := hg s H C cl fp; h.sem.py) (fun s H C cl fp => let ⟨_, h⟩ := ht s H C cl fp; h.sem.py) (fun s H C cl fp => let ⟨_, h⟩ := he s H C cl fp; h.sem.py) hs,
    fun {G0 H0 Dn P δ σ G H} e t p => lc_le (X := X) (X1 := X.blk ({} : Shared) H scope (compEnvC scope [] 0 X.env) []) rfl hi (Classical.choose_spec (hg _ _ _ _ _)).sem (Classical.choose_spec (ht _ _ _ _ _)).sem (Classical.choose_spec (he _ _ _ _ _)).sem hj t.ok t.sr (e.ex t) p
      fun l xs ds G' H' y hn hp gp r q => by
        have x2 := y.share hn hp gp
        exact e.nx ⟨t.ext.trans x2, (t.sr.ext x2).setD (.lst updG_same (r.mono (updG_keep gp)))⟩ q⟩
end
end
end Pu
set_option Elab.async false
set_option linter.all false
set_option maxRecDepth 100000
set_option maxHeartbeats 2000000
set_option autoImplicit false
namespace Pu
open PySem PySem.Spec L2
/-! # Defs, calls, objects -/
def liftSp (C : Ctx) (p : PSp) (n : Nat) : Sp := fun vs H Q E => vs.length = n ∧ ∃ (G : Gp) (ds : List D) (P : D → Prop) (P2 : Exn → Prop), Ok G H ∧ RAll C G vs ds ∧ p ds P P2 ∧
  (∀ v d G' H', Ext G H G' H' → R C G' v d → P d → Q v H') ∧ EOk C G H E P2
def startD (N : Nat) (ds : List D) : Dl := ds.map (fun d => some (.d d)) ++ List.replicate (N - ds.length) none
/-- a body's pure reading, as a def's -/
def wpB (N : Nat) (pb : PSx) : PSp := fun ds P P2 => pb { nx := fun _ => P .non, rt := fun _ => P, bk := fun _ => False, ct := fun _ => False, ex := fun _ => P2 } (startD N ds)
theorem RAll.startR {C : Ctx} {G : Gp} {H H0 : Hp} {N : List Str} {vs : List V} {ds : List D} (r : RAll C G vs ds) : SRel C H0 G H (L2.start N vs) (startD N.length ds) := by
  have hl := r.length
  refine ⟨by unfold L2.start startD; simp [hl], fun i s h => ?_, fun i j s s' v v' n h1 h2 o1 o2 e1 e2 => ?_⟩
  · unfold startD at h
    by_cases hi : i < ds.length
    · rw [List.getElem?_append_left (by simpa using hi), List.getElem?_map] at h
      cases e : ds[i]? with
      | none => rw [e] at h; cases h
      | some d =>
        rw [e] at h
        cases h
        obtain ⟨v, ev, rv⟩ := r.get e
        refine ⟨v, ?_, .d rv⟩
        unfold L2.start
        rw [List.getElem?_append_left (by simp; omega), List.getElem?_map, ev]
        rfl
    · rw [List.getElem?_append_right (by simpa using hi)] at h
      have := List.mem_of_getElem? h
      simp at this
  · unfold startD at h1
    by_cases hi : i < ds.length
    · rw [List.getElem?_append_left (by simpa using hi), List.getElem?_map] at h1
      cases e : ds[i]? with
      | none => rw [e] at h1; cases h1
      | some d =>
        rw [e] at h1
        cases h1
        cases o1
    · rw [List.getElem?_append_right (by simpa using hi)] at h1
      have := List.mem_of_getElem? h1
      simp at this
section
variable {P : Program} {w : World} {K : PySem.W.Frag} {mg : Str → Option Value} {base : Heap}
/-- what a function's body wishes of exceptions -/
abbrev WF (E : XK) : WX := fun cls d _ H => E cls d H
theorem fn_mk {x qual : Str} {st : Stmt} {f : Addr} {fd : FuncData} {N ps : List Str} {k : Nat} {pb : PSx} (F : Fun K x qual st f fd) (S : FnScope N ps (defScope st))
    (hbody : ∀ (cdv : Value) (A : Around) (outer : List Env) (s : Shared) (H : Hp) (E : XK), Room k (A.deeper (PyProof.Rows.envOfC qual (defScope st) s.heap.objs.size f cdv)) →
      ∃ t, LSs (cxOf (L2.CX P w) P w K mg base N qual (defScope st) f cdv A outer s H E) (WE (WF E)) (defBody st) t pb) :
    FnOk P w K mg base (L2.CX P w) (k + 1) f fd ps (liftSp ⟨K, mg⟩ (wpB N.length pb) ps.length) := by
  refine F.okX S (fun vs H Q E h => h.1) (fun cdv A outer s H vs Q E hr h => ?_)
  obtain ⟨hl, G, ds, P1, P2, ok, r, p, q, x⟩ := h
  obtain ⟨t, h⟩ := hbody cdv A outer s H E hr
  refine ⟨t, h.py, h.le (P := { nx := fun _ => P1 .non, rt := fun _ => P1, bk := fun _ => False, ct := fun _ => False, ex := fun _ => P2 }) (G0 := G) (H0 := H) ?_ ⟨.refl ok, r.startR⟩ p⟩
  exact ⟨fun t p => q _ _ _ _ t.ext .non p, fun t r p => q _ _ _ _ t.ext r p, fun _ p => p.elim, fun _ p => p.elim, fun t => x.ext t.ext⟩
end
section
variable {X : Cx} {W : WX} {k : Nat} {f : Addr} {fd : FuncData} {ps : List Str} {x m : Str} {p pos apos : Pos} {e o : Expr} {es : List Expr} {ta : TE} {t : TA} {psp : PSp} {pa : PAx} {po : PX}
def pCall (psp : PSp) (pa : PAx) : PX := fun δ P P2 => pa δ (fun ds => psp ds P P2) P2
theorem call_le {vs : List V} {ds : List D} {σ : St} {G : Gp} {H : Hp} {Q : VK} {P : D → Prop} {P2 : Exn → Prop} {n : Nat} (hn : vs.length = n) (ok : Ok G H) (r : RAll (cx X) G vs ds) (x : EOk (cx X) G H (WE W σ) P2) (p : psp ds P P2)
    (q : ∀ v d G' H', Ext G H G' H' → R (cx X) G' v d → P d → Q v H') : liftSp (cx X) psp n vs H Q (WE W σ) := ⟨hn, G, ds, P, P2, ok, r, p, q, x⟩
/-- the number of written arguments -/
structure LAn (X : Cx) (E : St → XK) (es : List Expr) (ta : TA) (pa : PAx) (n : Nat) : Prop where
  py : PA X es ta
  le : ∀ {δ : Dl} {σ : St} {G : Gp} {H H0 : Hp} {Q : List V → Hp → Prop} {P : List D → Prop} {P2 : Exn → Prop}, Ok G H → SRel (cx X) H0 G H σ δ → EOk (cx X) G H (E σ) P2 → pa δ P P2 →
    (∀ vs ds G' H', vs.length = n → Ext G H G' H' → RAll (cx X) G' vs ds → P ds → Q vs H') → ta σ H Q
theorem lan_nil {E : St → XK} : LAn X E [] tNil pNil 0 := ⟨pa_nil, fun k s x p q => q _ _ _ _ rfl (.refl k) .nil p⟩
theorem lan_cons {E : St → XK} {te : TE} {pe : PX} {n : Nat} (he : LX X E e te pe) (ha : LAn X E es t pa n) (hs : starEach (e :: es) X.env = (false, eval e X.env) :: starEach es X.env := by rfl) : LAn X E (e :: es) (tCons te t) (pCons pe pa) (n + 1) :=
  ⟨pa_cons he.py ha.py hs, fun k s x p q => he.le k s x p fun v d G1 H1 y1 r1 p1 => ha.le y1.ok (s.ext y1) (x.ext y1) p1 fun vs ds G2 H2 hn y2 r2 p2 =>
    q _ _ G2 H2 (by rw [List.length_cons, hn]) (y1.trans y2) (.cons (r1.mono y2.g) r2) p2⟩
theorem lx_call (tk : Takes X W) (F : FnOk X.prog X.w X.K X.mg X.base (L2.CX X.prog X.w) k f fd ps (liftSp (cx X) psp ps.length)) (hr : Room k X.A) (hg : Gl X x) (hm : X.mg x = some (.ref f)) (hk : PySem.W.keepIn X.K (.ref f) = true) (hb : Binds X.K fd ps [])
    (ha : LAn X (WE W) (e :: es) t pa ps.length) (hdb : (x == ("__debug__" : Str)) = false := by decide) (he : starEach (e :: es) X.env = (false, eval e X.env) :: starEach es X.env := by rfl) (hpl : (backTo pos (starEach es X.env)).any (·.1) = false := by rfl) :
    LX X (WE W) (.Call (.Name x p) (e :: es) [] pos) (tCallS (liftSp (cx X) psp ps.length) (WE W) t) (pCall psp pa) :=
  ⟨pe_callS F hr hg hm hk hb (fun σ => passAt tk σ) ha.py hdb he hpl, fun k s x p q => ha.le k s x p fun vs ds G1 H1 hn y1 r1 p1 =>
    call_le hn y1.ok r1 (x.ext y1) p1 fun v d G' H' y r pd => q v d G' H' (y1.trans y) r pd⟩
/-! ### attributes -/
def pFld (tbl : List (Nat × Nat)) (po : PX) : PX := fun δ P P2 => po δ (fun x => match x with
  | .obj c ds => (match tbl.lookup c with | some j => (match ds[j]? with | some d => P d | none => False) | none => False)
  | _ => False) P2
theorem lookup_zip : ∀ {ns : List Str} {vs : List V} {j : Nat} {f : Str} {v : V}, ns.Nodup → ns[j]? = some f → vs[j]? = some v → (ns.zip vs).lookup f = some v
  | [], _, j, _, _, _, h, _ => by simp at h
  | _ :: _, [], j, _, _, _, _, h => by simp at h
  | n :: ns, w :: vs, 0, f, v, _, h1, h2 => by
    have e1 : n = f := Option.some.inj h1
    have e2 : w = v := Option.some.inj h2
    subst e1 e2
    simp [List.lookup]
  | n :: ns, w :: vs, j + 1, f, v, nd, h1, h2 => by
    have h1' : ns[j]? = some f := by simpa using h1
    have ne : f ≠ n := fun e => (List.nodup_cons.mp nd).1 (by rw [← e]; exact List.mem_of_getElem? h1')
    have e : (f == n) = false := by simpa using ne
    show ((n, w) :: ns.zip vs).lookup f = some v
    unfold List.lookup
    rw [e]
    exact lookup_zip (List.nodup_cons.mp nd).2 h1' (by simpa using h2)
/-- what the text says of the classes of a table, for reading the attribute fn -/
def FldT (K : PySem.W.Frag) (mg : Str → Option Value) (fn : Str) (tbl : List (Nat × Nat)) : Prop :=
  ∀ c j, tbl.lookup c = some j → (cfs c).Nodup ∧ (cfs c)[j]? = some fn ∧ ∀ A, mg (cname c) = some (.ref A) → Cls K A ∧ NoAttr K A fn
theorem lx_fld {E : St → XK} {fn : Str} {tbl : List (Nat × Nat)} (T : FldT X.K X.mg fn tbl) (ho : LX X E o ta po) (hb : attributeBase o fn X.env (eval o X.env) = eval o X.env := by rfl) :
    LX X E (.Attribute o fn pos) (tFld X.K ta fn) (pFld tbl po) := by
  refine ⟨by first | exact pe_fld ho.py hb | exact pe_fld ho.py, fun {δ σ G H H0 Q P P2} k s x p q => ho.le k s x p fun v d G' H' y r p' => ?_⟩
  split at p'
  · rename_i c ds
    split at p'
    · rename_i j ej
      split at p'
      · rename_i d ed
        cases r with
        | obj hm hg rv hl =>
          obtain ⟨nd, hf, hc⟩ := T c j ej
          obtain ⟨cl, na⟩ := hc _ hm
          obtain ⟨v, ev, rd⟩ := rv.get ed
          exact ⟨_, _, _, _, v, rfl, y.ok.fz hg, cl, na, lookup_zip nd hf ev, q v d G' H' y rd p'⟩
      · exact p'.elim
    · exact p'.elim
  · exact p'.elim
/-! ### methods -/
def tMethS (C : Addr) (m : Str) (sp : Sp) (E : St → XK) (ta : TE) (t : TA) : TE := fun σ H Q => ta σ H fun x H1 => ∃ a dx fs, x = .ref a ∧ H1 a = some (.ins C dx fs) ∧ fs.lookup m = none ∧
  t σ H1 fun vs H2 => sp (x :: vs) H2 Q (E σ)
theorem pe_methS {C : Addr} {sp : Sp} {CX : CXT} {E : St → XK} {pl : Sem Bool} (he : PE X o ta) (c : Cls X.K C) (hm : Meth X.K C m f) (F : FnOk X.prog X.w X.K X.mg X.base CX k f fd ps sp) (hr : Room k X.A) (hb : Binds X.K fd ps []) (hx : ∀ σ, PassesAt CX X σ (E σ)) (ha : PA X (e :: es) t)
    (hst : starEach (e :: es) X.env = (false, eval e X.env) :: starEach es X.env := by rfl) (hpl : (backTo pos (starEach es X.env)).any (·.1) = false := by rfl)
    (ht : eval (.Call (.Attribute o m apos) (e :: es) [] pos) X.env = (do
      let ov ← eval o X.env
      standAt apos.atName
      let (f, first) ← holding [ov] (getMethod ov m pl)
      callWith pos f first (backTo pos (starEach (e :: es) X.env)) (backToKw pos (keywordEach [] X.env))) := by rfl) :
    PE X (.Call (.Attribute o m apos) (e :: es) [] pos) (tMethS C m sp E ta t) := by
  refine ⟨fun pins s σ H Q I h => ?_⟩
  refine PySem.W.methodCall_KW (pl := pl) (thn (he.run pins s σ H _ I h) fun u s1 ⟨x, H1, I1, rx, a, dx, fs, ex, ea, l, q⟩ => ?_) ht
  subst ex
  obtain rfl : u = Value.ref a := rx
  refine getmeth_ok I1 ea c hm l ?_
  refine PySem.W.callWith_K (first := [.ref a]) (h₀ := X.base) I.ok.mod.kin hm.kp (thn (ha.run pos pins s1 σ H1 _ I1 q) fun us s2 ⟨vs, H2, I2, r, q2⟩ => ⟨I2.kIn, ?_⟩) hst hpl
  exact run_fnS (us := .ref a :: us) (vs := .ref a :: vs) F hr hb (hx σ) I2 (.cons rfl r) q2
theorem pe_meth0S {C : Addr} {sp : Sp} {CX : CXT} {E : St → XK} {pl : Sem Bool} (he : PE X o ta) (c : Cls X.K C) (hm : Meth X.K C m f) (F : FnOk X.prog X.w X.K X.mg X.base CX k f fd ps sp) (hr : Room k X.A) (hb : Binds X.K fd ps []) (hx : ∀ σ, PassesAt CX X σ (E σ))
    (ht : eval (.Call (.Attribute o m apos) [] [] pos) X.env = (do
      let ov ← eval o X.env
      standAt apos.atName
      let (f, first) ← holding [ov] (getMethod ov m pl)
      callWith pos f first (backTo pos (starEach [] X.env)) (backToKw pos (keywordEach [] X.env))) := by rfl) :
    PE X (.Call (.Attribute o m apos) [] [] pos) (tMethS C m sp E ta tNil) := by
  refine ⟨fun pins s σ H Q I h => ?_⟩
  refine PySem.W.methodCall_KW (pl := pl) (thn (he.run pins s σ H _ I h) fun u s1 ⟨x, H1, I1, rx, a, dx, fs, ex, ea, l, q⟩ => ?_) ht
  subst ex
  obtain rfl : u = Value.ref a := rx
  refine getmeth_ok I1 ea c hm l ?_
  exact PySem.W.callWith_K0 (first := [.ref a]) I1.kIn hm.kp (run_fnS (us := [.ref a]) (vs := [.ref a]) F hr hb (hx σ) I1 (.cons rfl .nil) q)
def pMeth (c : Nat) (psp : PSp) (po : PX) (pa : PAx) : PX := fun δ P P2 => po δ (fun x => match x with
  | .obj c' ds0 => c' = c ∧ pa δ (fun ds => psp (.obj c' ds0 :: ds) P P2) P2
  | _ => False) P2
theorem lookup_zip_no {f : Str} : ∀ {ns : List Str} {vs : List V}, f ∉ ns → (ns.zip vs).lookup f = none
  | [], _, _ => rfl
  | _ :: _, [], _ => rfl
  | n :: ns, w :: vs, h => by
    have ne : f ≠ n := fun e => h (by rw [e]; exact List.mem_cons_self)
    have e : (f == n) = false := by simpa using ne
    show ((n, w) :: ns.zip vs).lookup f = none
    unfold List.lookup
    rw [e]
    exact lookup_zip_no fun z => h (List.mem_cons_of_mem _ z)
/-- what the text says of a class's method -/
structure MetT (K : PySem.W.Frag) (mg : Str → Option Value) (c : Nat) (A : Addr) (m : Str) (f : Addr) : Prop where
  mg : mg (cname c) = some (.ref A)
  cl : Cls K A
  met : Meth K A m f
  no : m ∉ cfs c
theorem meth_le {c : Nat} {A : Addr} {n : Nat} (T : MetT X.K X.mg c A m f) (ho : LX X (WE W) o ta po) (ha : LAn X (WE W) es t pa n) {δ : Dl} {σ : St} {G : Gp} {H H0 : Hp} {Q : VK} {P : D → Prop} {P2 : Exn → Prop}
    (k : Ok G H) (s : SRel (cx X) H0 G H σ δ) (x : EOk (cx X) G H (WE W σ) P2) (p : pMeth c psp po pa δ P P2) (q : ∀ v d G' H', Ext G H G' H' → R (cx X) G' v d → P d → Q v H') : tMethS A m (liftSp (cx X) psp (n + 1)) (WE W) ta t σ H Q := by
  refine ho.le k s x p fun v d G1 H1 y r p' => ?_
  split at p'
  · rename_i c' ds0
    obtain ⟨rfl, p'⟩ := p'
    cases r with
    | @obj a A' dx vs _ _ hm hg rv hl =>
      have r0 : R (cx X) G1 (.ref a) (.obj c' ds0) := .obj hm hg rv hl
      have eA : A' = A := by
        have := hm.symm.trans T.mg
        cases this
        rfl
      subst eA
      refine ⟨_, _, _, rfl, y.ok.fz hg, lookup_zip_no T.no, ?_⟩
      refine ha.le y.ok (s.ext y) (x.ext y) p' fun vs ds G2 H2 hn y2 r2 p2 => ?_
      exact call_le (by rw [List.length_cons, hn]) y2.ok (.cons (r0.mono y2.g) r2) ((x.ext y).ext y2) p2 fun v d G' H' y3 r pd => q v d G' H' ((y.trans y2).trans y3) r pd
  · exact p'.elim
theorem lx_meth {c : Nat} {A : Addr} {n : Nat} {pl : Sem Bool} (tk : Takes X W) (T : MetT X.K X.mg c A m f) (F : FnOk X.prog X.w X.K X.mg X.base (L2.CX X.prog X.w) k f fd ps (liftSp (cx X) psp (n + 1))) (hr : Room k X.A) (hb : Binds X.K fd ps []) (ho : LX X (WE W) o ta po) (ha : LAn X (WE W) (e :: es) t pa n)
    (hst : starEach (e :: es) X.env = (false, eval e X.env) :: starEach es X.env := by rfl) (hpl : (backTo pos (starEach es X.env)).any (·.1) = false := by rfl)
    (ht : eval (.Call (.Attribute o m apos) (e :: es) [] pos) X.env = (do
      let ov ← eval o X.env
      standAt apos.atName
      let (f, first) ← holding [ov] (getMethod ov m pl)
      callWith pos f first (backTo pos (starEach (e :: es) X.env)) (backToKw pos (keywordEach [] X.env))) := by rfl) :
    LX X (WE W) (.Call (.Attribute o m apos) (e :: es) [] pos) (tMethS A m (liftSp (cx X) psp (n + 1)) (WE W) ta t) (pMeth c psp po pa) :=
  ⟨pe_methS ho.py T.cl T.met F hr hb (fun σ => passAt tk σ) ha.py hst hpl ht, fun k s x p q => meth_le T ho ha k s x p q⟩
theorem lx_meth0 {c : Nat} {A : Addr} {pl : Sem Bool} (tk : Takes X W) (T : MetT X.K X.mg c A m f) (F : FnOk X.prog X.w X.K X.mg X.base (L2.CX X.prog X.w) k f fd ps (liftSp (cx X) psp 1)) (hr : Room k X.A) (hb : Binds X.K fd ps []) (ho : LX X (WE W) o ta po)
    (ht : eval (.Call (.Attribute o m apos) [] [] pos) X.env = (do
      let ov ← eval o X.env
      standAt apos.atName
      let (f, first) ← holding [ov] (getMethod ov m pl)
      callWith pos f first (backTo pos (starEach [] X.env)) (backToKw pos (keywordEach [] X.env))) := by rfl) :
    LX X (WE W) (.Call (.Attribute o m apos) [] [] pos) (tMethS A m (liftSp (cx X) psp 1) (WE W) ta tNil) (pMeth c psp po pNil) :=
  ⟨pe_meth0S ho.py T.cl T.met F hr hb (fun σ => passAt tk σ) ht, fun k s x p q => meth_le T ho lan_nil k s x p q⟩
/-! ### properties (that raise nothing) -/
def pProp (c : Nat) (psp : PSp) (po : PX) : PX := fun δ P P2 => po δ (fun x => match x with
  | .obj c' ds0 => c' = c ∧ psp [.obj c' ds0] P (fun _ => False)
  | _ => False) P2
structure PrpT (K : PySem.W.Frag) (mg : Str → Option Value) (c : Nat) (A : Addr) (m : Str) (pa g : Addr) : Prop where
  mg : mg (cname c) = some (.ref A)
  cl : Cls K A
  prop : PropOf K A m pa g
theorem lx_prop {c : Nat} {A pp : Addr} {fn : Str} {E : St → XK} (T : PrpT X.K X.mg c A fn pp f) (F : FnOk X.prog X.w X.K X.mg X.base (L2.CX X.prog X.w) k f fd ps (liftSp (cx X) psp 1)) (hr : Room (k + 1) X.A) (hb : Binds X.K fd ps []) (ho : LX X E o ta po)
    (hab : attributeBase o fn X.env (eval o X.env) = eval o X.env := by rfl) :
    LX X E (.Attribute o fn pos) (tProp A (liftSp (cx X) psp 1) [] E0 ta) (pProp c psp po) := by
  refine ⟨pe_prop ho.py T.cl T.prop F hr hb .nil (by exact passL) hab, fun {δ σ G H H0 Q P P2} k s x p q => ho.le k s x p fun v d G1 H1 y r p' => ?_⟩
  split at p'
  · rename_i c' ds0
    obtain ⟨rfl, p'⟩ := p'
    cases r with
    | @obj a A' dx vs _ _ hm hg rv hl =>
      have r0 : R (cx X) G1 (.ref a) (.obj c' ds0) := .obj hm hg rv hl
      have eA : A' = A := by
        have := hm.symm.trans T.mg
        cases this
        rfl
      subst eA
      exact ⟨_, _, _, rfl, y.ok.fz hg, rfl, G1, _, P, fun _ => False, y.ok, .cons r0 .nil, p', fun v d G' H' y2 r2 p2 => q v d G' H' (y.trans y2) r2 p2, fun _ _ _ _ _ _ _ z => z⟩
  · exact p'.elim
end
end Pu
set_option Elab.async false
set_option linter.all false
set_option maxRecDepth 100000
set_option maxHeartbeats 2000000
set_option autoImplicit false
namespace Pu
open PySem PySem.Spec L2
/-! # Making objects and exceptions; lists of one's own -/
abbrev PSpI := List D → (List D → Prop) → (Exn → Prop) → Prop
def liftInit (C : Ctx) (c : Nat) (p : PSpI) (n : Nat) : Sp := fun vs H Q E => vs.length = n ∧ ∃ (G : Gp) (H1 : Hp) (x dx A : Addr) (vs' : List V) (ds : List D) (P : List D → Prop) (P2 : Exn → Prop),
  vs = .ref x :: vs' ∧ H = upd (upd H1 dx (.own x)) x (.ins A dx []) ∧ H1 x = none ∧ H1 dx = none ∧ dx ≠ x ∧ C.mg (cname c) = some (.ref A) ∧ Ok G H1 ∧ RAll C G vs' ds ∧ p ds P P2 ∧
  (∀ vsF dsF dx' G' H', Ext G H1 G' H' → H' x = some (.ins A dx' (mkF c vsF)) → G' x = none → RAll C G' vsF dsF → dsF.length = (cfs c).length → P dsF → Q .non H') ∧ EOk C G H1 E P2
def startI (a : Addr) (c : Nat) (N : Nat) (ds : List D) : Dl := some (.slf a c []) :: startD (N - 1) ds
/-- the object at a is made up -/
def endI (a : Addr) (c : Nat) (P : List D → Prop) : Dl → Prop := fun (δ : List (Option S)) => match δ[(0 : Nat)]? with | some (some (.slf a' c' fs)) => a' = a ∧ c' = c ∧ fs.length = (cfs c).length ∧ P fs | _ => False
def wpI (c N : Nat) (pb : PSx) : PSpI := fun ds P P2 => ∀ a : Addr, pb { nx := endI a c P, rt := fun _ _ => False, bk := fun _ => False, ct := fun _ => False, ex := fun _ => P2 } (startI a c N ds)
section
variable {P : Program} {w : World} {K : PySem.W.Frag} {mg : Str → Option Value} {base : Heap}
theorem startI_rel {C : Ctx} {G : Gp} {H1 H : Hp} {c N : Nat} {Ns : List Str} {x dx A : Addr} {vs : List V} {ds : List D} (hN : Ns.length = N) (hN0 : 0 < N) (r : RAll C G vs ds) (hm : C.mg (cname c) = some (.ref A)) (hx : H x = some (.ins A dx [])) (gx : G x = none) (nx : H1 x = none) :
    SRel C H1 G H (L2.start Ns (.ref x :: vs)) (startI x c N ds) := by
  obtain ⟨Ns', hNs⟩ : ∃ (Ns' : List Str), Ns'.length = N - 1 := ⟨Ns.tail, by rw [List.length_tail, hN]⟩
  have e1 : L2.start Ns (.ref x :: vs) = some (.ref x) :: L2.start Ns' vs := by
    unfold L2.start
    rw [List.map_cons, List.cons_append, List.length_cons, hN, hNs]
    have : N - (vs.length + 1) = N - 1 - vs.length := by omega
    rw [this]
  have e2 : startD (N - 1) ds = startD Ns'.length ds := by rw [hNs]
  unfold startI
  rw [e1, e2]
  have b : SRel C H1 G H (L2.start Ns' vs) (startD Ns'.length ds) := r.startR
  have noOwn : ∀ (i : Nat) (s : S), (startD Ns'.length ds)[i]? = some (some s) → s.isOwn = false := fun i s h => by
    unfold startD at h
    by_cases hi : i < ds.length
    · rw [List.getElem?_append_left (by simpa using hi), List.getElem?_map] at h
      cases e : ds[i]? with
      | none => rw [e] at h; cases h
      | some d => rw [e] at h; cases h; rfl
    · rw [List.getElem?_append_right (by simpa using hi)] at h
      have := List.mem_of_getElem? h
      simp at this
  refine ⟨by rw [List.length_cons, List.length_cons, b.len], fun i s h => ?_, fun i j s s' v v' n h1 h2 o1 o2 _ _ => ?_⟩
  · cases i with
    | zero =>
      have : some (S.slf x c []) = some s := Option.some.inj h
      cases this
      exact ⟨_, rfl, .slf (vs := []) hm (by rw [hx]; unfold mkF; rw [List.zip_nil_right]) gx nx .nil (Nat.zero_le _)⟩
    | succ i => exact b.at_ i s (by simpa using h)
  · exfalso
    cases i with
    | zero =>
      cases j with
      | zero => exact n rfl
      | succ j => rw [noOwn j s' (by simpa using h2)] at o2; cases o2
    | succ i => rw [noOwn i s (by simpa using h1)] at o1; cases o1
theorem init_mk {x qual : Str} {st : Stmt} {f : Addr} {fd : FuncData} {N ps : List Str} {k c : Nat} {pb : PSx} (F : Fun K x qual st f fd) (S : FnScope N ps (defScope st)) (hN0 : 0 < N.length)
    (hbody : ∀ (cdv : Value) (A : Around) (outer : List Env) (s : Shared) (H : Hp) (E : XK), Room k (A.deeper (PyProof.Rows.envOfC qual (defScope st) s.heap.objs.size f cdv)) →
      ∃ t, LSs (cxOf (L2.CX P w) P w K mg base N qual (defScope st) f cdv A outer s H E) (WE (WF E)) (defBody st) t pb) :
    FnOk P w K mg base (L2.CX P w) (k + 1) f fd ps (liftInit ⟨K, mg⟩ c (wpI c N.length pb) ps.length) := by
  refine F.okX S (fun vs H Q E h => h.1) (fun cdv A outer s H vs Q E hr h => ?_)
  obtain ⟨hl, G, H1, x, dx, A', vs', ds, P1, P2, rfl, rfl, nx, ndx, ne, hm, ok, r, p, q, xx⟩ := h
  obtain ⟨t, h⟩ := hbody cdv A outer s _ E hr
  have x1 : Ext G H1 G (upd H1 dx (.own x)) := .new ok ndx
  have x2 : Ext G H1 G (upd (upd H1 dx (.own x)) x (.ins A' dx [])) := x1.trans (.new x1.ok (by rw [upd_ne (Ne.symm ne)]; exact nx))
  refine ⟨t, h.py, h.le (P := { nx := endI x c P1, rt := fun _ _ => False, bk := fun _ => False, ct := fun _ => False, ex := fun _ => P2 }) (G0 := G) (H0 := H1) ?_
    ⟨x2, startI_rel rfl hN0 r hm upd_same (ok.none_of nx) nx⟩ (p x)⟩
  refine ⟨fun {σ δ G' H'} t p => ?_, fun _ _ p => p.elim, fun _ p => p.elim, fun _ p => p.elim, fun t => xx.ext t.ext⟩
  have p' : endI x c P1 δ := p
  unfold endI at p'
  split at p'
  · rename_i a' c' fs e
    obtain ⟨rfl, rfl, hlen, p'⟩ := p'
    obtain ⟨v, ev, r⟩ := t.sr.at_ 0 _ e
    cases r with
    | @slf _ A2 dx2 _ _ _ hm2 hx gx _ rv _ =>
      have eA : A2 = A' := by
        have z := hm2.symm.trans hm
        cases z
        rfl
      subst eA
      exact q _ fs _ _ _ t.ext hx gx rv hlen p'
  · exact p'.elim

end
section
variable {X : Cx} {W : WX} {k : Nat} {f : Addr} {fd : FuncData} {ps : List Str} {x : Str} {p pos apos : Pos} {e o : Expr} {es : List Expr} {ta : TE} {t : TA} {pa : PAx}
/-! ### C(..) -/
def tMakeS (C : Addr) (sp : Sp) (E : St → XK) (t : TA) : TE := fun σ H Q => t σ H fun vs H1 => ∀ x dx, H1 x = none → H1 dx = none → dx ≠ x →
  sp (.ref x :: vs) (upd (upd H1 dx (.own x)) x (.ins C dx [])) (fun v H2 => v = .non ∧ Q (.ref x) H2) (E σ)
theorem run_makeS {CX : CXT} {C : Addr} {sp : Sp} {E : St → XK} {pins : List (Addr × Obj)} {σ : St} {H : Hp} {s : Shared} {Q : VK} {us : List Value} {vs : List V} (M : Mk X.K C f) (F : FnOk X.prog X.w X.K X.mg X.base CX k f fd ps sp) (hr : Room (k + 1) X.A) (hb : Binds X.K fd ps [])
    (hx : ∀ σ, PassesAt CX X σ (E σ)) (I : Inv X pins σ H s) (r : Vals vs us)
    (h : ∀ x dx, H x = none → H dx = none → dx ≠ x → sp (.ref x :: vs) (upd (upd H dx (.own x)) x (.ins C dx [])) (fun v H2 => v = .non ∧ Q (.ref x) H2) (E σ)) :
    wpAny (model X.prog X.w) X.A (call (.ref C) us) (EP X pins σ Q) X.xe s := by
  have hq := h (s.heap.objs.size + 1) s.heap.objs.size (I.hok.fresh (Nat.le_succ _)) (I.hok.fresh (Nat.le_refl _)) (Nat.ne_of_lt (Nat.lt_succ_self _))
  have I2 := Inv.made (C := C) I
  have r2 : Vals (V.ref (s.heap.objs.size + 1) :: vs) (Value.ref (s.heap.objs.size + 1) :: us) := .cons rfl r
  have hl : (Value.ref (s.heap.objs.size + 1) :: us ++ []).length = ps.length := by
    have e := r2.length
    rw [F.len _ _ _ _ hq] at e
    rw [List.append_nil]
    exact e.symm
  have b := hb _ (Value.ref (s.heap.objs.size + 1) :: us) I2.kIn hl
  rw [List.append_nil] at b
  refine wpAny_call (make_map (f := f) I.kIn M.makes M.init (beq_iff_eq.mp M.fn) (codeAny_mono (F.run _ X.stack _ _ ⟨Value.ref (s.heap.objs.size + 1) :: us, []⟩ (Value.ref (s.heap.objs.size + 1) :: us) _ _ (E σ) (hr.make C us [])
    (I2.env0.make C us []) b r2 hq) fun r s' hq' => ?_))
  cases r with
  | error e => exact hx σ pins _ _ e s' I2 hq'
  | ok fl =>
    cases fl with
    | ret u =>
      obtain ⟨v, H', I3, rv, ev, q3⟩ := I2.after hq'
      subst ev
      exact ⟨rv, ⟨V.ref (s.heap.objs.size + 1), H', I3, rfl, q3⟩⟩
    | next => exact False.elim hq'
    | brk => exact False.elim hq'
    | cont => exact False.elim hq'
theorem pe_makeS {CX : CXT} {C : Addr} {sp : Sp} {E : St → XK} (M : Mk X.K C f) (F : FnOk X.prog X.w X.K X.mg X.base CX k f fd ps sp) (hr : Room (k + 1) X.A) (hg : Gl X x) (hm : X.mg x = some (.ref C)) (hb : Binds X.K fd ps []) (hx : ∀ σ, PassesAt CX X σ (E σ))
    (ha : PA X (e :: es) t) (hdb : (x == ("__debug__" : Str)) = false := by decide) (he : starEach (e :: es) X.env = (false, eval e X.env) :: starEach es X.env := by rfl) (hpl : (backTo pos (starEach es X.env)).any (·.1) = false := by rfl) :
    PE X (.Call (.Name x p) (e :: es) [] pos) (tMakeS C sp E t) := by
  refine ⟨fun pins s σ H Q I h => ?_⟩
  refine wpAny_Call_Name_kw (ld_glob I hg hm ?_ hdb)
  refine PySem.W.callWith_K (h₀ := X.base) I.ok.mod.kin M.kp (thn (ha.run pos pins s σ H _ I h) fun us s1 ⟨vs, H1, I1, r, q⟩ => ⟨I1.kIn, ?_⟩) he hpl
  exact run_makeS M F hr hb hx I1 r q
def pMake (c : Nat) (pi : PSpI) (pa : PAx) : PX := fun δ P P2 => pa δ (fun ds => pi ds (fun fs => P (.obj c fs)) P2) P2
theorem lx_make {c n : Nat} {C : Addr} {pi : PSpI} (tk : Takes X W) (M : Mk X.K C f) (hm : X.mg (cname c) = some (.ref C)) (F : FnOk X.prog X.w X.K X.mg X.base (L2.CX X.prog X.w) k f fd ps (liftInit (cx X) c pi (n + 1))) (hr : Room (k + 1) X.A) (hg : Gl X (cname c)) (hb : Binds X.K fd ps [])
    (ha : LAn X (WE W) (e :: es) t pa n) (hdb : (cname c == ("__debug__" : Str)) = false := by decide) (he : starEach (e :: es) X.env = (false, eval e X.env) :: starEach es X.env := by rfl) (hpl : (backTo pos (starEach es X.env)).any (·.1) = false := by rfl) :
    LX X (WE W) (.Call (.Name (cname c) p) (e :: es) [] pos) (tMakeS C (liftInit (cx X) c pi (n + 1)) (WE W) t) (pMake c pi pa) := by
  refine ⟨pe_makeS M F hr hg hm hb (fun σ => passAt tk σ) ha.py hdb he hpl, fun {δ σ G H H0 Q P P2} k s x p q => ha.le k s x p fun vs ds G1 H1 hn y r p1 => ?_⟩
  intro a dx na nd ne
  refine ⟨by rw [List.length_cons, hn], G1, H1, a, dx, C, vs, ds, _, P2, rfl, rfl, na, nd, ne, hm, y.ok, r, p1, fun vsF dsF dx' G' H' y2 hx gx rF hl pF => ⟨rfl, ?_⟩, x.ext y⟩
  refine q (.ref a) (.obj c dsF) (updG G' a (.fz (.ins C dx' (mkF c vsF)))) H' ((y.trans y2).share (y.back na) hx gx) (.obj hm updG_same (rF.mono (updG_keep gx)) hl) pF
/-! ### self.f = e, self.f in __init__ -/
theorem putF_zip : ∀ {ns : List Str} {vs : List V} {f : Str} {v : V}, ns.Nodup → ns[vs.length]? = some f → putF f v (ns.zip vs) = ns.zip (vs ++ [v])
  | [], _, _, _, _, h => by simp at h
  | n :: ns, [], f, v, _, h => by
    have e : n = f := by simpa using h
    subst e
    show putF n v [] = (n, v) :: ns.zip []
    rw [List.zip_nil_right]
    rfl
  | n :: ns, w :: vs, f, v, nd, h => by
    have h' : ns[vs.length]? = some f := by simpa using h
    have ne : ¬ n = f := fun e => (List.nodup_cons.mp nd).1 (by rw [e]; exact List.mem_of_getElem? h')
    show putF f v ((n, w) :: ns.zip vs) = (n, w) :: ns.zip (vs ++ [v])
    show (if n = f then (n, v) :: ns.zip vs else (n, w) :: putF f v (ns.zip vs)) = _
    rw [if_neg ne, putF_zip (List.nodup_cons.mp nd).2 h']
def pSetF (i c j : Nat) (pe : PX) : PSx := fun P δ => pe δ (fun d => match δ[i]? with
  | some (some (.slf a c' ds)) => c' = c ∧ ds.length = j ∧ P.nx (δ.set i (some (.slf a c (ds ++ [d]))))
  | _ => False) (P.ex δ)
theorem SRel.writeS {C : Ctx} {G : Gp} {H H0 : Hp} {σ : St} {δ : Dl} {i : Nat} {a : Addr} {c : Nat} {ds ds' : List D} {vs' : List V} {A dx : Addr} (s : SRel C H0 G H σ δ) (e : δ[i]? = some (some (.slf a c ds))) (hm : C.mg (cname c) = some (.ref A)) (r' : RAll C G vs' ds') (hl' : ds'.length ≤ (cfs c).length) :
    SRel C H0 G (upd H a (.ins A dx (mkF c vs'))) σ (δ.set i (some (.slf a c ds'))) := by
  obtain ⟨v, ev, r⟩ := s.at_ i _ e
  cases r with
  | slf hm2 h g n r l =>
  have hl : i < δ.length := (List.getElem?_eq_some_iff.mp e).1
  have key : ∀ (j : Nat) (u : S), (δ.set i (some (.slf a c ds')))[j]? = some (some u) → (j = i ∧ u = .slf a c ds') ∨ (j ≠ i ∧ δ[j]? = some (some u)) := fun j u h => by
    by_cases z : i = j
    · subst z
      rw [List.getElem?_set_self hl] at h
      exact .inl ⟨rfl, (Option.some.inj (Option.some.inj h)).symm⟩
    · rw [List.getElem?_set_ne z] at h
      exact .inr ⟨fun y => z y.symm, h⟩
  refine ⟨by rw [List.length_set, s.len], fun j u hu => ?_, fun j k u u' v1 v2 nn h1 h2 o1 o2 e1 e2 => ?_⟩
  · rcases key j u hu with ⟨rfl, rfl⟩ | ⟨z, hu⟩
    · exact ⟨_, ev, .slf hm upd_same g n r' hl'⟩
    · obtain ⟨v, e2, q⟩ := s.at_ j u hu
      refine ⟨v, e2, ?_⟩
      cases q with
      | d q => exact .d q
      | @own b ob ys es hob hb gb nb rb =>
        have ne : b ≠ a := fun y => s.apart j i _ _ _ _ z hu e rfl rfl e2 ev (by rw [y])
        exact .own hob (by rw [upd_ne ne]; exact hb) gb nb rb
      | @slf b A2 dx2 vs2 c2 es mb hb gb nb rb lb =>
        have ne : b ≠ a := fun y => s.apart j i _ _ _ _ z hu e rfl rfl e2 ev (by rw [y])
        exact .slf mb (by rw [upd_ne ne]; exact hb) gb nb rb lb
      | exc q => exact .exc q
  · have k1 : ∃ s1, δ[j]? = some (some s1) ∧ s1.isOwn = true := by
      rcases key j u h1 with ⟨rfl, _⟩ | ⟨_, h1⟩
      · exact ⟨_, e, rfl⟩
      · exact ⟨_, h1, o1⟩
    have k2 : ∃ s1, δ[k]? = some (some s1) ∧ s1.isOwn = true := by
      rcases key k u' h2 with ⟨rfl, _⟩ | ⟨_, h2⟩
      · exact ⟨_, e, rfl⟩
      · exact ⟨_, h2, o2⟩
    obtain ⟨s1, g1, w1⟩ := k1
    obtain ⟨s2, g2, w2⟩ := k2
    exact s.apart j k s1 s2 v1 v2 nn g1 g2 w1 w2 e1 e2
theorem ls_setF {E : St → XK} (i c j : Nat) {sn fn : Str} {ap p1 : Pos} {te : TE} {pe : PX} (he : LX X E e te pe) (T : ∀ A, X.mg (cname c) = some (.ref A) → Cls X.K A ∧ NoAttr X.K A fn) (hf : (cfs c)[j]? = some fn) (hnd : (cfs c).Nodup) (hlen : (cfs c).length ≤ 900)
    (hN : X.N[i]? = some sn := by rfl) (hv : Vis X.env.scope sn := by first | exact Or.inl rfl | exact Or.inr (Or.inl rfl) | exact Or.inr (Or.inr rfl)) (hd : (sn == ("__debug__" : Str)) = false := by decide) (hcd : (sn == ("__classdict__" : Str)) = false := by decide)
    (hs : swapsWith e (some (.Attribute (.Name sn p1) fn ap)) pos.line X.env = pure false := by rfl) : LS X E (.Assign [.Attribute (.Name sn p1) fn ap] e pos) (sFld X.K (tVar i) te fn) (pSetF i c j pe) := by
  refine ⟨ps_fld (pe_var hN hv hd hcd) he.py hs, fun {G0 H0 Dn P δ σ G H} en t p => he.le t.ok t.sr (en.ex t) p fun v d G' H' y r q => ?_⟩
  split at q
  · rename_i a c' ds ed
    obtain ⟨rfl, rfl, q⟩ := q
    have t1 := t.step y
    obtain ⟨v0, ev, r0⟩ := t1.sr.at_ i _ ed
    cases r0 with
    | @slf _ A dx vs _ _ hm hx gx nx rv hl =>
      obtain ⟨cl, na⟩ := T A hm
      have hlv : vs.length = ds.length := rv.length
      have hj : ds.length < (cfs c').length := (List.getElem?_eq_some_iff.mp hf).1
      refine ⟨_, ev, a, A, dx, mkF c' vs, rfl, hx, cl, na, ?_, ?_⟩
      · unfold mkF
        rw [List.length_zip]
        omega
      · have e1 : putF fn v (mkF c' vs) = mkF c' (vs ++ [v]) := putF_zip hnd (by rw [hlv]; exact hf)
        rw [e1]
        exact en.nx ⟨t1.ext.write nx gx, t1.sr.writeS ed hm (rv.append (.one r)) (by rw [List.length_append]; show ds.length + 1 ≤ _; omega)⟩ q
  · exact q.elim

/-- self.f, of the object that is being made -/
def pFldS (i c j : Nat) : PX := fun δ P _ => match δ[i]? with
  | some (some (.slf _ c' ds)) => c' = c ∧ (match ds[j]? with | some d => P d | none => False)
  | _ => False
theorem lx_fldS {E : St → XK} (i c j : Nat) {sn fn : Str} {p1 : Pos} (T : ∀ A, X.mg (cname c) = some (.ref A) → Cls X.K A ∧ NoAttr X.K A fn) (hf : (cfs c)[j]? = some fn) (hnd : (cfs c).Nodup)
    (hN : X.N[i]? = some sn := by rfl) (hv : Vis X.env.scope sn := by first | exact Or.inl rfl | exact Or.inr (Or.inl rfl) | exact Or.inr (Or.inr rfl)) (hd : (sn == ("__debug__" : Str)) = false := by decide) (hcd : (sn == ("__classdict__" : Str)) = false := by decide)
    (hb : attributeBase (.Name sn p1) fn X.env (eval (.Name sn p1) X.env) = eval (.Name sn p1) X.env := by rfl) : LX X E (.Attribute (.Name sn p1) fn pos) (tFld X.K (tVar i) fn) (pFldS i c j) := by
  refine ⟨pe_fld (pe_var hN hv hd hcd) hb, fun {δ σ G H H0 Q P P2} k s x p q => ?_⟩
  unfold pFldS at p
  split at p
  · rename_i a c' ds ed
    obtain ⟨rfl, p⟩ := p
    split at p
    · rename_i d e
      obtain ⟨v0, ev, r0⟩ := s.at_ i _ ed
      cases r0 with
      | @slf _ A dx vs _ _ hm hx gx nx rv hl =>
        obtain ⟨cl, na⟩ := T A hm
        obtain ⟨v, e2, rd⟩ := rv.get e
        exact ⟨_, ev, a, A, dx, _, v, rfl, hx, cl, na, lookup_zip hnd hf e2, q v d _ _ (.refl k) rd p⟩
    · exact p.elim
  · exact p.elim
/-! ### a list of one's own changes -/
section
variable {E : St → XK} {sn : Str} {p1 : Pos} {te : TE} {pe : PX}
def tyOwn : V → Prop := fun _ => True
theorem tyV_lst {K : PySem.W.Frag} {H : Hp} {a : Addr} {xs : List V} (h : H a = some (.lst xs)) : tyV K "list" (.ref a) H := .inl ⟨rfl, _, SqL.of h⟩
def pApp (i : Nat) (pe : PX) : PSx := fun P δ => match δ[i]? with
  | some (some (.own oa ds)) => pe δ (fun d => ds.length < szl ∧ P.nx (δ.set i (some (.own oa (ds ++ [d]))))) (P.ex δ)
  | _ => False
theorem ls_app (i : Nat) (he : LX X E e te pe) (hN : X.N[i]? = some sn := by rfl) (hv : Vis X.env.scope sn := by first | exact Or.inl rfl | exact Or.inr (Or.inl rfl) | exact Or.inr (Or.inr rfl)) (hd : (sn == ("__debug__" : Str)) = false := by decide) (hcd : (sn == ("__classdict__" : Str)) = false := by decide)
    (hbase : attributeBase (.Name sn p1) "append" X.env (eval (.Name sn p1) X.env) = eval (.Name sn p1) X.env := by rfl)
    (hfew : ((backTo p (starEach [e] X.env)).all (fun x => !x.1) && (backToKw p (keywordEach [] X.env)).all (fun x => x.1.isSome)
      && decide ([e].length + ([] : List Keyword).length + (if ([] : List Keyword).isEmpty then 0 else 1) < 30)) = true := by rfl)
    (hline : (apos.endLine == p.line) = true := by rfl) (hs : starEach [e] X.env = (false, eval e X.env) :: starEach [] X.env := by rfl) (hplain : (backTo p (starEach [] X.env)).any (·.1) = false := by rfl)
    (hsw : swapsWith (.Call (.Attribute (.Name sn p1) "append" apos) [e] [] p) none pos.line X.env = pure false := by rfl) :
    LS X E (.Expr (.Call (.Attribute (.Name sn p1) "append" apos) [e] [] p) pos) (tDrop (tBM X.K "list" rAppend (tVar i) (tCons te tNil))) (pApp i pe) := by
  refine ⟨ps_expr (pe_bm PySem.F.plainAttrs_list PySem.F.slot_list_append PySem.F.type_list_append mt_append (pe_var hN hv hd hcd) (pa_cons he.py pa_nil hs) hbase hfew hline hs hplain) hsw, fun {G0 H0 Dn P δ σ G H} en t p => ?_⟩
  unfold pApp at p
  split at p
  · rename_i oa ds ed
    obtain ⟨a, xs, ev, hoa, h, g, n, r⟩ := t.sr.own ed
    refine ⟨_, ev, tyV_lst h, he.le t.ok t.sr (en.ex t) p fun v d G' H' y rd q => ?_⟩
    obtain ⟨h', g'⟩ := y.h _ _ h g
    have t1 := t.step y
    refine ⟨a, xs, v, rfl, rfl, h', by rw [r.length, sizeLine_eq]; exact q.1, en.nx ⟨t1.ext.write n g', t1.sr.write ed ev ((r.mono y.g).append (.one rd))⟩ q.2⟩
  · exact p.elim
/-- xs.insert(i, e) -/
def pIns (i : Nat) (pk pe : PX) : PSx := fun P δ => match δ[i]? with
  | some (some (.own oa ds)) => pk δ (fun k => pe δ (fun d => match k with
      | .int j => ds.length < szl ∧ 0 ≤ j ∧ j < 2 ^ 63 ∧ P.nx (δ.set i (some (.own oa (ds.take j.toNat ++ [d] ++ ds.drop j.toNat))))
      | _ => False) (P.ex δ)) (P.ex δ)
  | _ => False
theorem ls_ins (i : Nat) {e2 : Expr} {te2 : TE} {pe2 : PX} (he : LX X E e te pe) (he2 : LX X E e2 te2 pe2) (hN : X.N[i]? = some sn := by rfl) (hv : Vis X.env.scope sn := by first | exact Or.inl rfl | exact Or.inr (Or.inl rfl) | exact Or.inr (Or.inr rfl)) (hd : (sn == ("__debug__" : Str)) = false := by decide) (hcd : (sn == ("__classdict__" : Str)) = false := by decide)
    (hbase : attributeBase (.Name sn p1) "insert" X.env (eval (.Name sn p1) X.env) = eval (.Name sn p1) X.env := by rfl)
    (hfew : ((backTo p (starEach [e, e2] X.env)).all (fun x => !x.1) && (backToKw p (keywordEach [] X.env)).all (fun x => x.1.isSome)
      && decide ([e, e2].length + ([] : List Keyword).length + (if ([] : List Keyword).isEmpty then 0 else 1) < 30)) = true := by rfl)
    (hline : (apos.endLine == p.line) = true := by rfl) (hs : starEach [e, e2] X.env = (false, eval e X.env) :: starEach [e2] X.env := by rfl) (hs2 : starEach [e2] X.env = (false, eval e2 X.env) :: starEach [] X.env := by rfl) (hplain : (backTo p (starEach [e2] X.env)).any (·.1) = false := by rfl)
    (hsw : swapsWith (.Call (.Attribute (.Name sn p1) "insert" apos) [e, e2] [] p) none pos.line X.env = pure false := by rfl) :
    LS X E (.Expr (.Call (.Attribute (.Name sn p1) "insert" apos) [e, e2] [] p) pos) (tDrop (tBM X.K "list" (fun x vs H Q => ∃ (l : Addr) (xs : List V) (i : Int) (y : V), x = .ref l ∧ vs = [.int i, y] ∧ H l = some (.lst xs) ∧ xs.length < sizeLine ∧ 0 ≤ i ∧ i < 2 ^ 63 ∧
      Q .non (upd H l (.lst (xs.take i.toNat ++ [y] ++ xs.drop i.toNat)))) (tVar i) (tCons te (tCons te2 tNil)))) (pIns i pe pe2) := by
  refine ⟨ps_expr (pe_bm PySem.F.plainAttrs_list PySem.F.slot_list_insert PySem.F.type_list_insert mt_insert (pe_var hN hv hd hcd) (pa_cons he.py (pa_cons he2.py pa_nil hs2) hs) hbase hfew hline hs hplain) hsw, fun {G0 H0 Dn P δ σ G H} en t p => ?_⟩
  unfold pIns at p
  split at p
  · rename_i oa ds ed
    obtain ⟨a, xs, ev, hoa, h, g, n, r⟩ := t.sr.own ed
    refine ⟨_, ev, tyV_lst h, he.le t.ok t.sr (en.ex t) p fun v d G' H' y rd q => ?_⟩
    refine he2.le y.ok (t.sr.ext y) ((en.ex t).ext y) q fun v2 d2 G2 H2 y2 rd2 q2 => ?_
    have y12 := y.trans y2
    obtain ⟨h', g'⟩ := y12.h _ _ h g
    have t1 := t.step y12
    split at q2
    · obtain rfl := rd.intR
      have rr := r.mono y12.g
      exact ⟨a, xs, _, v2, rfl, rfl, h', by rw [r.length, sizeLine_eq]; exact q2.1, q2.2.1, q2.2.2.1, en.nx ⟨t1.ext.write n g', t1.sr.write ed ev (((rr.take _).append (.one rd2)).append (rr.drop _))⟩ q2.2.2.2⟩
    · exact q2.elim
  · exact p.elim
/-- xs.extend(e), e a list -/
def pExt (i : Nat) (pe : PX) : PSx := fun P δ => match δ[i]? with
  | some (some (.own oa ds)) => pe δ (fun d => match d with
      | .lst es => ds.length + es.length ≤ szl ∧ P.nx (δ.set i (some (.own oa (ds ++ es))))
      | _ => False) (P.ex δ)
  | _ => False
theorem ls_ext (i : Nat) (he : LX X E e te pe) (hN : X.N[i]? = some sn := by rfl) (hv : Vis X.env.scope sn := by first | exact Or.inl rfl | exact Or.inr (Or.inl rfl) | exact Or.inr (Or.inr rfl)) (hd : (sn == ("__debug__" : Str)) = false := by decide) (hcd : (sn == ("__classdict__" : Str)) = false := by decide)
    (hbase : attributeBase (.Name sn p1) "extend" X.env (eval (.Name sn p1) X.env) = eval (.Name sn p1) X.env := by rfl)
    (hfew : ((backTo p (starEach [e] X.env)).all (fun x => !x.1) && (backToKw p (keywordEach [] X.env)).all (fun x => x.1.isSome)
      && decide ([e].length + ([] : List Keyword).length + (if ([] : List Keyword).isEmpty then 0 else 1) < 30)) = true := by rfl)
    (hline : (apos.endLine == p.line) = true := by rfl) (hs : starEach [e] X.env = (false, eval e X.env) :: starEach [] X.env := by rfl) (hplain : (backTo p (starEach [] X.env)).any (·.1) = false := by rfl)
    (hsw : swapsWith (.Call (.Attribute (.Name sn p1) "extend" apos) [e] [] p) none pos.line X.env = pure false := by rfl) :
    LS X E (.Expr (.Call (.Attribute (.Name sn p1) "extend" apos) [e] [] p) pos) (tDrop (tBM X.K "list" rExtend (tVar i) (tCons te tNil))) (pExt i pe) := by
  refine ⟨ps_expr (pe_bm PySem.F.plainAttrs_list PySem.F.slot_list_extend PySem.F.type_list_extend mt_extend (pe_var hN hv hd hcd) (pa_cons he.py pa_nil hs) hbase hfew hline hs hplain) hsw, fun {G0 H0 Dn P δ σ G H} en t p => ?_⟩
  unfold pExt at p
  split at p
  · rename_i oa ds ed
    obtain ⟨a, xs, ev, hoa, h, g, n, r⟩ := t.sr.own ed
    refine ⟨_, ev, tyV_lst h, he.le t.ok t.sr (en.ex t) p fun v d G' H' y rd q => ?_⟩
    obtain ⟨h', g'⟩ := y.h _ _ h g
    have t1 := t.step y
    split at q
    · obtain ⟨b, zs, e2, hb, rb⟩ := RV.lst (C := cx X) y.ok (.inl rd)
      subst e2
      exact ⟨a, b, xs, zs, rfl, rfl, h', hb, by rw [r.length, rb.length, sizeLine_eq]; exact q.1, en.nx ⟨t1.ext.write n g', t1.sr.write ed ev ((r.mono y.g).append rb)⟩ q.2⟩
    · exact q.elim
  · exact p.elim
/-- xs.reverse(), xs.clear(), xs.pop() -/
def pMut (i : Nat) (f : List D → Option (List D)) : PSx := fun P δ => match δ[i]? with
  | some (some (.own oa ds)) => (match f ds with | some es => P.nx (δ.set i (some (.own oa es))) | none => False)
  | _ => False
theorem ls_reverse (i : Nat) (hN : X.N[i]? = some sn := by rfl) (hv : Vis X.env.scope sn := by first | exact Or.inl rfl | exact Or.inr (Or.inl rfl) | exact Or.inr (Or.inr rfl)) (hd : (sn == ("__debug__" : Str)) = false := by decide) (hcd : (sn == ("__classdict__" : Str)) = false := by decide)
    (hbase : attributeBase (.Name sn p1) "reverse" X.env (eval (.Name sn p1) X.env) = eval (.Name sn p1) X.env := by rfl) (hline : (apos.endLine == p.line) = true := by rfl)
    (hsw : swapsWith (.Call (.Attribute (.Name sn p1) "reverse" apos) [] [] p) none pos.line X.env = pure false := by rfl) :
    LS X E (.Expr (.Call (.Attribute (.Name sn p1) "reverse" apos) [] [] p) pos) (tDrop (tBM0 X.K "list" rReverse (tVar i))) (pMut i fun ds => some ds.reverse) := by
  refine ⟨ps_expr (pe_bm0 PySem.F.plainAttrs_list PySem.F.slot_list_reverse PySem.F.type_list_reverse mt_reverse (pe_var hN hv hd hcd) hbase hline) hsw, fun {G0 H0 Dn P δ σ G H} en t p => ?_⟩
  unfold pMut at p
  split at p
  · rename_i oa ds ed
    obtain ⟨a, xs, ev, hoa, h, g, n, r⟩ := t.sr.own ed
    exact ⟨_, ev, tyV_lst h, a, xs, rfl, rfl, h, en.nx ⟨t.ext.write n g, t.sr.write ed ev r.reverse⟩ p⟩
  · exact p.elim
theorem ls_clear (i : Nat) (hN : X.N[i]? = some sn := by rfl) (hv : Vis X.env.scope sn := by first | exact Or.inl rfl | exact Or.inr (Or.inl rfl) | exact Or.inr (Or.inr rfl)) (hd : (sn == ("__debug__" : Str)) = false := by decide) (hcd : (sn == ("__classdict__" : Str)) = false := by decide)
    (hbase : attributeBase (.Name sn p1) "clear" X.env (eval (.Name sn p1) X.env) = eval (.Name sn p1) X.env := by rfl) (hline : (apos.endLine == p.line) = true := by rfl)
    (hsw : swapsWith (.Call (.Attribute (.Name sn p1) "clear" apos) [] [] p) none pos.line X.env = pure false := by rfl) :
    LS X E (.Expr (.Call (.Attribute (.Name sn p1) "clear" apos) [] [] p) pos) (tDrop (tBM0 X.K "list" rClear (tVar i))) (pMut i fun ds => some []) := by
  refine ⟨ps_expr (pe_bm0 PySem.F.plainAttrs_list PySem.F.slot_list_clear PySem.F.type_list_clear mt_clear (pe_var hN hv hd hcd) hbase hline) hsw, fun {G0 H0 Dn P δ σ G H} en t p => ?_⟩
  unfold pMut at p
  split at p
  · rename_i oa ds ed
    obtain ⟨a, xs, ev, hoa, h, g, n, r⟩ := t.sr.own ed
    exact ⟨_, ev, tyV_lst h, a, xs, rfl, rfl, h, en.nx ⟨t.ext.write n g, t.sr.write ed ev .nil⟩ p⟩
  · exact p.elim
theorem ls_pop (i : Nat) (hN : X.N[i]? = some sn := by rfl) (hv : Vis X.env.scope sn := by first | exact Or.inl rfl | exact Or.inr (Or.inl rfl) | exact Or.inr (Or.inr rfl)) (hd : (sn == ("__debug__" : Str)) = false := by decide) (hcd : (sn == ("__classdict__" : Str)) = false := by decide)
    (hbase : attributeBase (.Name sn p1) "pop" X.env (eval (.Name sn p1) X.env) = eval (.Name sn p1) X.env := by rfl) (hline : (apos.endLine == p.line) = true := by rfl)
    (hsw : swapsWith (.Call (.Attribute (.Name sn p1) "pop" apos) [] [] p) none pos.line X.env = pure false := by rfl) :
    LS X E (.Expr (.Call (.Attribute (.Name sn p1) "pop" apos) [] [] p) pos) (tDrop (tBM0 X.K "list" rPop (tVar i))) (pMut i fun ds => if ds = [] then none else some ds.dropLast) := by
  refine ⟨ps_expr (pe_bm0 PySem.F.plainAttrs_list PySem.F.slot_list_pop PySem.F.type_list_pop mt_pop (pe_var hN hv hd hcd) hbase hline) hsw, fun {G0 H0 Dn P δ σ G H} en t p => ?_⟩
  unfold pMut at p
  split at p
  · rename_i oa ds ed
    obtain ⟨a, xs, ev, hoa, h, g, n, r⟩ := t.sr.own ed
    split at p
    · rename_i es e2
      replace e2 : (if ds = [] then none else some ds.dropLast) = some es := e2
      split at e2
      · cases e2
      · rename_i hne
        cases e2
        have hl : 0 < xs.length := by rw [r.length]; exact List.length_pos_iff.mpr hne
        exact ⟨_, ev, tyV_lst h, a, xs, xs[xs.length - 1]'(by omega), rfl, rfl, h, List.getElem?_eq_getElem _, en.nx ⟨t.ext.write n g, t.sr.write ed ev r.dropLast⟩ p⟩
    · exact p.elim
  · exact p.elim
/-- xs.pop(k) -/
def pPopAt (i : Nat) (pe : PX) : PSx := fun P δ => match δ[i]? with
  | some (some (.own oa ds)) => pe δ (fun d => match d with
      | .int k => -(2 ^ 63) ≤ k ∧ k < 2 ^ 63 ∧ (match ixN ds.length k with | some j => P.nx (δ.set i (some (.own oa (ds.eraseIdx j)))) | none => False)
      | _ => False) (P.ex δ)
  | _ => False
theorem ixN_seq' {n : Nat} {i : Int} {j : Nat} (h : ixN n i = some j) : seqIndex? i n = some j ∧ j < n := by
  unfold ixN at h
  split at h
  · split at h
    · cases h
      rename_i h0 h1
      exact ⟨seqIndex_of h0 h1, by omega⟩
    · cases h
  · split at h
    · cases h
      rename_i h0 h1
      exact ⟨seqIndex_neg (by omega) h1, by omega⟩
    · cases h
theorem ls_popAt (i : Nat) (he : LX X E e te pe) (hN : X.N[i]? = some sn := by rfl) (hv : Vis X.env.scope sn := by first | exact Or.inl rfl | exact Or.inr (Or.inl rfl) | exact Or.inr (Or.inr rfl)) (hd : (sn == ("__debug__" : Str)) = false := by decide) (hcd : (sn == ("__classdict__" : Str)) = false := by decide)
    (hbase : attributeBase (.Name sn p1) "pop" X.env (eval (.Name sn p1) X.env) = eval (.Name sn p1) X.env := by rfl)
    (hfew : ((backTo p (starEach [e] X.env)).all (fun x => !x.1) && (backToKw p (keywordEach [] X.env)).all (fun x => x.1.isSome)
      && decide ([e].length + ([] : List Keyword).length + (if ([] : List Keyword).isEmpty then 0 else 1) < 30)) = true := by rfl)
    (hline : (apos.endLine == p.line) = true := by rfl) (hs : starEach [e] X.env = (false, eval e X.env) :: starEach [] X.env := by rfl) (hplain : (backTo p (starEach [] X.env)).any (·.1) = false := by rfl)
    (hsw : swapsWith (.Call (.Attribute (.Name sn p1) "pop" apos) [e] [] p) none pos.line X.env = pure false := by rfl) :
    LS X E (.Expr (.Call (.Attribute (.Name sn p1) "pop" apos) [e] [] p) pos) (tDrop (tBM X.K "list" rPopAt (tVar i) (tCons te tNil))) (pPopAt i pe) := by
  refine ⟨ps_expr (pe_bm PySem.F.plainAttrs_list PySem.F.slot_list_pop PySem.F.type_list_pop mt_popAt (pe_var hN hv hd hcd) (pa_cons he.py pa_nil hs) hbase hfew hline hs hplain) hsw, fun {G0 H0 Dn P δ σ G H} en t p => ?_⟩
  unfold pPopAt at p
  split at p
  · rename_i oa ds ed
    obtain ⟨a, xs, ev, hoa, h, g, n, r⟩ := t.sr.own ed
    refine ⟨_, ev, tyV_lst h, he.le t.ok t.sr (en.ex t) p fun v d G' H' y rd q => ?_⟩
    obtain ⟨h', g'⟩ := y.h _ _ h g
    have t1 := t.step y
    split at q
    · obtain rfl := rd.intR
      obtain ⟨q1, q2, q⟩ := q
      split at q
      · rename_i j ej
        rw [← r.length] at ej
        obtain ⟨e1, e2⟩ := ixN_seq' ej
        exact ⟨a, xs, _, j, xs[j], rfl, rfl, h', q1, q2, e1, List.getElem?_eq_getElem e2, en.nx ⟨t1.ext.write n g', t1.sr.write ed ev ((r.mono y.g).eraseIdx j)⟩ q⟩
      · exact q.elim
    · exact q.elim
  · exact p.elim
/-- xs[k] = e -/
def pSetI (i : Nat) (pk pe : PX) : PSx := fun P δ => pe δ (fun d => match δ[i]? with
  | some (some (.own oa ds)) => pk δ (fun k => match k with
      | .int j => (match ixN ds.length j with | some n => P.nx (δ.set i (some (.own oa (ds.set n d)))) | none => False)
      | _ => False) (P.ex δ)
  | _ => False) (P.ex δ)
theorem ls_setI (i : Nat) {e2 : Expr} {te2 : TE} {pe2 : PX} {sp : Pos} (he : LX X E e te pe) (he2 : LX X E e2 te2 pe2) (hN : X.N[i]? = some sn := by rfl) (hv : Vis X.env.scope sn := by first | exact Or.inl rfl | exact Or.inr (Or.inl rfl) | exact Or.inr (Or.inr rfl)) (hd : (sn == ("__debug__" : Str)) = false := by decide) (hcd : (sn == ("__classdict__" : Str)) = false := by decide)
    (ha : ∀ v, assign (.Subscript (.Name sn p1) e2 sp) X.env v = (do
      let ov ← holding [v] (eval (.Name sn p1) X.env)
      let iv ← holding [v, ov] (eval e2 X.env)
      standAt sp
      holding [v, ov, iv] (setItem ov iv v)
      release [v, ov, iv] []) := by intro _; rfl)
    (hs : swapsWithSole [.Subscript (.Name sn p1) e2 sp] e pos.line X.env = pure false := by rfl) (hw : swappedStores [.Subscript (.Name sn p1) e2 sp] e X.env = pure none := by rfl)
    (h1 : (assignEach [.Subscript (.Name sn p1) e2 sp] X.env).map (·.2) = [assign (.Subscript (.Name sn p1) e2 sp) X.env] := by rfl) :
    LS X E (.Assign [.Subscript (.Name sn p1) e2 sp] e pos) (tAsg te (gSub (tVar i) te2 rSetL)) (pSetI i pe2 pe) := by
  refine ⟨ps_asg he.py (pg_sub (pe_var hN hv hd hcd) he2.py set_list ha) hs hw h1, fun {G0 H0 Dn P δ σ G H} en t p => ?_⟩
  refine he.le t.ok t.sr (en.ex t) p fun v d G' H' y rd q => ?_
  have t1 := t.step y
  split at q
  · rename_i oa ds ed
    obtain ⟨a, xs, ev, hoa, h, g, n, r⟩ := t1.sr.own ed
    refine ⟨_, ev, he2.le t1.ok t1.sr (en.ex t1) q fun v2 d2 G2 H2 y2 rd2 q2 => ?_⟩
    obtain ⟨h', g'⟩ := y2.h _ _ h g
    have t2 := t1.step y2
    split at q2
    · obtain rfl := rd2.intR
      split at q2
      · rename_i j ej
        rw [← r.length] at ej
        exact ⟨a, xs, _, j, rfl, rfl, h', ej, en.nx ⟨t2.ext.write n g', t2.sr.write ed ev (RAll.set (rd.mono y2.g) j (r.mono y2.g))⟩ q2⟩
      · exact q2.elim
    · exact q2.elim
  · exact q.elim
end
end
end Pu
set_option Elab.async false
set_option linter.all false
set_option maxRecDepth 100000
set_option maxHeartbeats 2000000
set_option autoImplicit false
namespace Pu
open PySem PySem.Spec L2
/-! # Pools of draws -/
def PB (s0 s1 s2 s3 : Int) (ns : List Int) : Prop := ns.length ≤ 63 ∧ 0 ≤ s0 ∧ 0 ≤ s1 ∧ s1 < 2147483629 ∧ 0 ≤ s2 ∧ 0 ≤ s3 ∧ s3 ≤ ns.length
def plD (s0 s1 s2 s3 : Int) (l : Addr) (ns : List Int) : List D := [.int s0, .int s1, .int s2, .int s3, .pin l ns]
/-- slot 0 holds the pool again, as a pool must be -/
def plE (p l : Addr) (ns : List Int) (δ : Dl) : Prop := ∃ s0 s1 s2 s3, δ[(0 : Nat)]? = some (some (.own (some p) (plD s0 s1 s2 s3 l ns))) ∧ PB s0 s1 s2 s3 ns
/-- a def whose first argument is the pool, the others flat -/
def wpPl (N : Nat) (pb : PSx) : PSp := fun ds P P2 => match ds with
  | .pool :: rest => rest.all flatD = true ∧ ∀ (p l : Addr) (s0 s1 s2 s3 : Int) (ns : List Int), PB s0 s1 s2 s3 ns →
      pb { nx := fun δ => plE p l ns δ ∧ P .non, rt := fun δ d => plE p l ns δ ∧ P d, bk := fun _ => False, ct := fun _ => False, ex := fun _ _ => False }
        (some (.own (some p) (plD s0 s1 s2 s3 l ns)) :: startD (N - 1) rest)
  | _ => False
theorem R.flatG {C : Ctx} {G G' : Gp} {v : V} {d : D} (r : R C G v d) (h : flatD d = true) : R C G' v d := by
  cases r <;> first | exact .non | exact .bl _ | exact .int _ | exact .str _ | cases h
theorem RAll.flatG {C : Ctx} {G G' : Gp} : ∀ {vs : List V} {ds : List D}, RAll C G vs ds → ds.all flatD = true → RAll C G' vs ds
  | _, _, .nil, _ => .nil
  | _, _, .cons r t, h => by
    simp only [List.all_cons, Bool.and_eq_true] at h
    exact .cons (r.flatG h.1) (RAll.flatG t h.2)
section
variable {P : Program} {w : World} {K : PySem.W.Frag} {mg : Str → Option Value} {base : Heap}
theorem pl_rel {C : Ctx} {G : Gp} {Hb H : Hp} {N : Nat} {Ns : List Str} {p : Addr} {xs : List V} {es : List D} {vs : List V} {ds : List D} (hN : Ns.length = N) (hN0 : 0 < N) (r : RAll C G vs ds) (hx : H p = some (.lst xs)) (gx : G p = none) (nx : Hb p = none) (re : RAll C G xs es) :
    SRel C Hb G H (L2.start Ns (.ref p :: vs)) (some (.own (some p) es) :: startD (N - 1) ds) := by
  obtain ⟨Ns', hNs⟩ : ∃ (Ns' : List Str), Ns'.length = N - 1 := ⟨Ns.tail, by rw [List.length_tail, hN]⟩
  have e1 : L2.start Ns (.ref p :: vs) = some (.ref p) :: L2.start Ns' vs := by
    unfold L2.start
    rw [List.map_cons, List.cons_append, List.length_cons, hN, hNs]
    have : N - (vs.length + 1) = N - 1 - vs.length := by omega
    rw [this]
  have e2 : startD (N - 1) ds = startD Ns'.length ds := by rw [hNs]
  rw [e1, e2]
  have b : SRel C Hb G H (L2.start Ns' vs) (startD Ns'.length ds) := r.startR
  have noOwn : ∀ (i : Nat) (s : S), (startD Ns'.length ds)[i]? = some (some s) → s.isOwn = false := fun i s h => by
    unfold startD at h
    by_cases hi : i < ds.length
    · rw [List.getElem?_append_left (by simpa using hi), List.getElem?_map] at h
      cases e : ds[i]? with
      | none => rw [e] at h; cases h
      | some d => rw [e] at h; cases h; rfl
    · rw [List.getElem?_append_right (by simpa using hi)] at h
      have := List.mem_of_getElem? h
      simp at this
  refine ⟨by rw [List.length_cons, List.length_cons, b.len], fun i s h => ?_, fun i j s s' v v' n h1 h2 o1 o2 _ _ => ?_⟩
  · cases i with
    | zero =>
      have : some (S.own (some p) es) = some s := Option.some.inj h
      cases this
      exact ⟨_, rfl, .own (fun b z => by cases z; rfl) hx gx nx re⟩
    | succ i => exact b.at_ i s (by simpa using h)
  · exfalso
    cases i with
    | zero =>
      cases j with
      | zero => exact n rfl
      | succ j => rw [noOwn j s' (by simpa using h2)] at o2; cases o2
    | succ i => rw [noOwn i s (by simpa using h1)] at o1; cases o1
theorem fn_mkPl {x qual : Str} {st : Stmt} {f : Addr} {fd : FuncData} {N ps : List Str} {k : Nat} {pb : PSx} (F : Fun K x qual st f fd) (S : FnScope N ps (defScope st)) (hN0 : 0 < N.length)
    (hbody : ∀ (cdv : Value) (A : Around) (outer : List Env) (s : Shared) (H : Hp) (E : XK), Room k (A.deeper (PyProof.Rows.envOfC qual (defScope st) s.heap.objs.size f cdv)) →
      ∃ t, LSs (cxOf (L2.CX P w) P w K mg base N qual (defScope st) f cdv A outer s H E) (WE (WF E)) (defBody st) t pb) :
    FnOk P w K mg base (L2.CX P w) (k + 1) f fd ps (liftSp ⟨K, mg⟩ (wpPl N.length pb) ps.length) := by
  refine F.okX S (fun vs H Q E h => h.1) (fun cdv A outer s H vs Q E hr h => ?_)
  obtain ⟨hl, G, ds, P1, P2, ok, r, p, q, xx⟩ := h
  obtain ⟨t, h⟩ := hbody cdv A outer s _ E hr
  unfold wpPl at p
  split at p
  · rename_i rest
    obtain ⟨fr, p⟩ := p
    cases r with
    | cons r0 rr =>
      cases r0 with
      | @pool pa l ns hg =>
        obtain ⟨⟨hns, s0, s1, s2, s3, hp, b0, b1, b2, b3, b4, b5⟩, gl⟩ : PoolAt H pa l ns ∧ G l = some (.fz (.lst (ns.map V.int))) := ok.at_ pa _ hg
        have lp : l ≠ pa := fun z => by rw [z, hg] at gl; cases gl
        classical
        let Gr : Gp := fun a => if a = pa then none else G a
        let Hb : Hp := fun a => if a = pa then none else H a
        have grn : ∀ {a}, a ≠ pa → Gr a = G a := fun h => if_neg h
        have grp : Gr pa = none := if_pos rfl
        have hbp : Hb pa = none := if_pos rfl
        have okr : Ok Gr H := ⟨fun a g h => by
          by_cases e : a = pa
          · rw [e, grp] at h; cases h
          · rw [grn e] at h
            have z := ok.at_ a g h
            cases g with
            | fz o => exact z
            | pool l2 ns2 =>
              obtain ⟨z1, z2⟩ : PoolAt H a l2 ns2 ∧ G l2 = some (.fz (.lst (ns2.map V.int))) := z
              exact ⟨z1, by rw [grn (fun y => by rw [y, hg] at z2; cases z2)]; exact z2⟩⟩
        have x1 : Ext Gr Hb Gr H := ⟨fun _ _ h => h, okr, fun a o h g => ⟨by
          have h' : (if a = pa then none else H a) = some o := h
          split at h'
          · cases h'
          · exact h', g⟩⟩
        have re : RAll ⟨K, mg⟩ Gr [.int s0, .int s1, .int s2, .int s3, .ref l] (plD s0 s1 s2 s3 l ns) :=
          .cons (.int _) (.cons (.int _) (.cons (.int _) (.cons (.int _) (.cons (.pin (by show Gr l = _; rw [grn lp]; exact gl)) .nil))))
        refine ⟨t, h.py, h.le (P := { nx := fun δ => plE pa l ns δ ∧ P1 .non, rt := fun δ d => plE pa l ns δ ∧ P1 d, bk := fun _ => False, ct := fun _ => False, ex := fun _ _ => False }) (G0 := Gr) (H0 := Hb) ?_
          ⟨x1, pl_rel rfl hN0 (rr.flatG fr) hp grp hbp re⟩ (p pa l s0 s1 s2 s3 ns ⟨hns, b0, b1, b2, b3, b4, b5⟩)⟩
        -- the pool is given back
        have back : ∀ {σ : L2.St} {δ : Dl} {G2 : Gp} {H2 : Hp}, Stt ⟨K, mg⟩ Gr Hb σ δ G2 H2 → plE pa l ns δ → ∃ G3, Ext G H G3 H2 ∧ ∀ a g, G2 a = some g → G3 a = some g := fun {σ δ G2 H2} t ⟨t0, t1, t2, t3, ed, hns', c0, c1, c2, c3, c4, c5⟩ => by
          obtain ⟨a, ys, ev, hoa, hy, gy, _, ry⟩ := t.sr.own ed
          obtain rfl := hoa pa rfl
          have ok2 : Ok G2 H2 := t.ext.ok
          obtain ⟨hys, gl'⟩ : ys = [.int t0, .int t1, .int t2, .int t3, .ref l] ∧ G2 l = some (.fz (.lst (ns.map V.int))) := by
            cases ry with
            | cons r1 ry => cases ry with
              | cons r2 ry => cases ry with
                | cons r3 ry => cases ry with
                  | cons r4 ry => cases ry with
                    | cons r5 ry =>
                      cases ry
                      cases r1; cases r2; cases r3; cases r4
                      cases r5 with
                      | pin hl => exact ⟨rfl, hl⟩
          subst hys
          let G3 : Gp := fun a => if a = pa then some (.pool l ns) else G2 a
          have g3p : G3 pa = some (.pool l ns) := if_pos rfl
          have g3n : ∀ {a}, a ≠ pa → G3 a = G2 a := fun h => if_neg h
          have sub : ∀ a g, G2 a = some g → G3 a = some g := fun a g h => by rw [g3n (fun z => by rw [z, gy] at h; cases h)]; exact h
          refine ⟨G3, ⟨fun a g h => ?_, ⟨fun a g h => ?_⟩, fun a o h g => ?_⟩, sub⟩
          · by_cases e : a = pa
            · rw [e, hg] at h; rw [e, g3p]; exact h
            · exact sub a g (t.ext.g a g (by rw [grn e]; exact h))
          · by_cases e : a = pa
            · rw [e, g3p] at h
              cases h
              rw [e]
              exact ⟨⟨hns, t0, t1, t2, t3, hy, c0, c1, c2, c3, c4, c5⟩, sub _ _ gl'⟩
            · rw [g3n e] at h
              have z := ok2.at_ a g h
              cases g with
              | fz o => exact z
              | pool l2 ns2 =>
                obtain ⟨z1, z2⟩ : PoolAt H2 a l2 ns2 ∧ G2 l2 = some (.fz (.lst (ns2.map V.int))) := z
                exact ⟨z1, sub _ _ z2⟩
          · have e : a ≠ pa := fun z => by rw [z, hg] at g; cases g
            obtain ⟨h1, g1⟩ := t.ext.h a o (by show (if a = pa then none else H a) = _; rw [if_neg e]; exact h) (by rw [grn e]; exact g)
            exact ⟨h1, by rw [g3n e]; exact g1⟩
        refine ⟨fun t p => ?_, fun t r p => ?_, fun _ p => p.elim, fun _ p => p.elim, fun t _ _ _ _ _ _ _ p => False.elim p⟩
        · obtain ⟨G3, x3, _⟩ := back t p.1
          exact q _ _ _ _ x3 .non p.2
        · obtain ⟨G3, x3, sb⟩ := back t p.1
          exact q _ _ _ _ x3 (r.mono sb) p.2
  · exact p.elim

/-- return [0, 1, 0, 0, list(script)]: a new pool -/
def wpNewPool : PSp := fun ds P _ => ∃ ns : List Int, ds = [.script ns] ∧ ns.length ≤ 63 ∧ P .pool
theorem fn_newPool {x qual : Str} {st : Stmt} {f : Addr} {fd : FuncData} {N ps : List Str} {k : Nat} {e : Expr} {pos : Pos} {pe : PX} (F : Fun K x qual st f fd) (S : FnScope N ps (defScope st)) (hps : ps.length = 1) (hst : defBody st = [.Return (some e) pos])
    (hbody : ∀ (cdv : Value) (A : Around) (outer : List Env) (s : Shared) (H : Hp) (E : XK), Room k (A.deeper (PyProof.Rows.envOfC qual (defScope st) s.heap.objs.size f cdv)) →
      ∃ te, LO (cxOf (L2.CX P w) P w K mg base N qual (defScope st) f cdv A outer s H E) (WE (WF E)) e te pe)
    (hp : ∀ (ns : List Int) (P : D → Prop), P (.lst [.int 0, .int 1, .int 0, .int 0, .lst (ns.map .int)]) → pe (startD N.length [.script ns]) P (fun _ => False)) :
    FnOk P w K mg base (L2.CX P w) (k + 1) f fd ps (liftSp ⟨K, mg⟩ wpNewPool ps.length) := by
  refine F.okX S (fun vs H Q E h => h.1) (fun cdv A outer s H vs Q E hr h => ?_)
  obtain ⟨hl, G, ds, P1, P2, ok, r, ⟨ns, rfl, hns, p⟩, q, xx⟩ := h
  obtain ⟨te, h⟩ := hbody cdv A outer s H E hr
  refine ⟨tRet te, by rw [hst]; exact pss_one (ps_ret h.py), ?_⟩
  refine h.le (P := fun d => d = .lst [.int 0, .int 1, .int 0, .int 0, .lst (ns.map .int)]) (P2 := fun _ => False) (H0 := H) ok r.startR (fun _ _ _ _ _ _ _ z => z.elim) (hp ns _ rfl) fun a xs ds G' H' y hn ha ga ra ed => ?_
  cases ed
  cases ra with
  | cons r1 ra => cases ra with
    | cons r2 ra => cases ra with
      | cons r3 ra => cases ra with
        | cons r4 ra => cases ra with
          | cons r5 ra =>
            cases ra
            cases r1; cases r2; cases r3; cases r4
            cases r5 with
            | @lst l5 _ _ hl5 rl =>
              have e5 := rl.int
              subst e5
              have sub := updG_keep (g := GO.pool l5 ns) ga
              have x3 : Ext G H (updG G' a (.pool l5 ns)) H' := by
                refine ⟨fun b g h => sub b g (y.g b g h), ⟨fun b g h => ?_⟩, fun b o h g => ?_⟩
                · by_cases e : b = a
                  · rw [e, updG_same] at h
                    cases h
                    rw [e]
                    exact ⟨⟨hns, 0, 1, 0, 0, ha, by decide, by decide, by decide, by decide, by decide, by omega⟩, sub _ _ hl5⟩
                  · rw [updG_ne e] at h
                    have z := y.ok.at_ b g h
                    cases g with
                    | fz o => exact z
                    | pool l2 ns2 =>
                      obtain ⟨z1, z2⟩ : PoolAt H' b l2 ns2 ∧ G' l2 = some (.fz (.lst (ns2.map V.int))) := z
                      exact ⟨z1, sub _ _ z2⟩
                · obtain ⟨h1, g1⟩ := y.h b o h g
                  exact ⟨h1, by rw [updG_ne (ne_of_none h hn)]; exact g1⟩
              exact q _ .pool _ _ x3 (.pool updG_same) p
end
end Pu
set_option Elab.async false
set_option linter.all false
set_option maxRecDepth 100000
set_option maxHeartbeats 2000000
set_option autoImplicit false
namespace Pu
open PySem PySem.Spec L2
/-! # raise -/
/-- what the text says of an error's class -/
structure ExT (K : PySem.W.Frag) (mg : Str → Option Value) (c : Nat) (A fI : Addr) : Prop where
  mg : mg (cname c) = some (.ref A)
  ox : OexC K A
  ini : PySem.W.findIn K (.ref A) "__init__" = some (some (.ref fI))
  ty : PySem.W.typeIn K (.ref fI) = some (.type "function")
  no : ∀ f ∈ cfs c, PySem.W.findIn K (.ref A) f = some none
/-- __init__ of an error: its attributes are what it is given -/
def spX (C : Ctx) (c n : Nat) : Sp := fun vs H Q _ => vs.length = n ∧ ∃ (a A : Addr) (ws : List V), vs = .ref a :: ws ∧ C.mg (cname c) = some (.ref A) ∧ H a = some (exo a A none) ∧
  ∀ (d : Addr) (H' : Hp), H d = none → d ≠ a → H' a = some (exo a A (some d)) → H' d = some (exd d (mkF c ws).reverse) → (∀ b o, b ≠ a → H b = some o → H' b = some o) → Q .non H'
/-- .. the one attribute is the tuple that it is given -/
def spXt (C : Ctx) (c n : Nat) : Sp := fun vs H Q _ => vs.length = n ∧ ∃ (a A t : Addr) (xs : List V), vs = [.ref a, .ref t] ∧ SqT C.K H t xs ∧ C.mg (cname c) = some (.ref A) ∧ H a = some (exo a A none) ∧
  ∀ (d : Addr) (H' : Hp), H d = none → d ≠ a → H' a = some (exo a A (some d)) → H' d = some (exd d (mkF c [.ref t]).reverse) → (∀ b o, b ≠ a → H b = some o → H' b = some o) → Q .non H'
section
variable {X : Cx} {W : WX} {k : Nat} {f : Addr} {fd : FuncData} {ps : List Str} {p pos rpos : Pos} {e : Expr} {es : List Expr} {ta : TA} {pa : PAx}
def pRaise (c : Nat) (pa : PAx) : PSx := fun P δ => pa δ (fun ds => ds.length = (cfs c).length ∧ ds ≠ [] ∧ P.ex δ ⟨c, ds⟩) (P.ex δ)
theorem raise_end {C : Ctx} {G1 : Gp} {H1 H' : Hp} {a A d : Addr} {c : Nat} {vs : List V} {ds : List D} {E : XK} {P : Exn → Prop} (ok : Ok G1 H1) (hm : C.mg (cname c) = some (.ref A)) (na : H1 a = none) (r : RAll C G1 vs ds) (hlen : ds.length = (cfs c).length)
    (nd : upd H1 a (exo a A none) d = none) (ha : H' a = some (exo a A (some d))) (hd : H' d = some (exd d (mkF c vs).reverse)) (keep : ∀ b o, b ≠ a → upd H1 a (exo a A none) b = some o → H' b = some o) (eo : EOk C G1 H1 E P) (p : P ⟨c, ds⟩) :
    ∃ (d' : Addr) (fs : List (Str × V)), H' a = some (exo a A (some d')) ∧ H' d' = some (exd d' fs) ∧ H1 d' = none ∧ E (.ref A) (some d') (upd (del H' a) d' (.xd fs)) := by
  have da : d ≠ a := fun z => by rw [z, upd_same] at nd; cases nd
  have nd1 : H1 d = none := by rw [upd_ne da] at nd; exact nd
  refine ⟨d, _, ha, hd, nd1, ?_⟩
  have keep1 : ∀ b o, H1 b = some o → upd (del H' a) d (.xd (mkF c vs).reverse) b = some o := fun b o h => by
    have ba : b ≠ a := ne_of_none h na
    have bd : b ≠ d := ne_of_none h nd1
    rw [upd_ne bd, del_ne ba]
    exact keep b o ba (by rw [upd_ne ba]; exact h)
  have gd : G1 d = none := ok.none_of nd1
  have x : Ext G1 H1 (updG G1 d (.fz (.xd (mkF c vs).reverse))) (upd (del H' a) d (.xd (mkF c vs).reverse)) := by
    refine ⟨fun b g h => updG_keep gd b g h, ⟨fun b g h => ?_⟩, fun b o h g => ⟨keep1 b o h, by rw [updG_ne (ne_of_none h nd1)]; exact g⟩⟩
    by_cases e : b = d
    · rw [e, updG_same] at h
      cases h
      rw [e]
      exact upd_same
    · rw [updG_ne e] at h
      have z := ok.at_ b g h
      cases g with
      | fz o => exact keep1 b o z
      | pool l ns =>
        obtain ⟨⟨h1, s0, s1, s2, s3, h2, h3⟩, h4⟩ : PoolAt H1 b l ns ∧ _ := z
        exact ⟨⟨h1, s0, s1, s2, s3, keep1 _ _ h2, h3⟩, updG_keep gd _ _ h4⟩
  exact eo _ _ _ _ ⟨c, ds⟩ x ⟨A, hm, rfl, hlen, .inr ⟨d, vs, rfl, updG_same, r.mono (updG_keep gd)⟩⟩ p
theorem ls_raise {c n : Nat} {A fI : Addr} (hc : X.calm = true) (tk : Takes X W) (T : ExT X.K X.mg c A fI) (F : FnOk X.prog X.w X.K X.mg X.base (L2.CX X.prog X.w) k fI fd ps (spX (cx X) c (n + 1))) (hr : Room (k + 1) X.A) (hb : Binds X.K fd ps []) (hg : Gl X (cname c))
    (ha : LAn X (WE W) (e :: es) ta pa n) (hsz : n ≤ 1000 := by decide) (hdb : (cname c == ("__debug__" : Str)) = false := by decide) (he : starEach (e :: es) X.env = (false, eval e X.env) :: starEach es X.env := by rfl) (hpl : (backTo pos (starEach es X.env)).any (·.1) = false := by rfl) :
    LS X (WE W) (.Raise (some (.Call (.Name (cname c) p) (e :: es) [] pos)) none rpos) (fun _ σ H => tMkO A (spX (cx X) c (n + 1)) [] ta σ H fun cls d H' => W cls d σ H') (pRaise c pa) := by
  refine ⟨ps_raise hc tk (pmk_oex T.ox T.ini T.ty F hr hb .nil passL hg T.mg ha.py hdb he hpl), fun {G0 H0 Dn P δ σ G H} en t q => ha.le t.ok t.sr (en.ex t) q fun vs ds G1 H1 hn y r p1 => ?_⟩
  refine ⟨by rw [hn]; exact hsz, fun a na => ?_⟩
  rw [List.append_nil]
  refine ⟨by rw [List.length_cons, hn], a, A, vs, rfl, T.mg, upd_same, fun d H' nd nda ha' hd' kp => ⟨rfl, ?_⟩⟩
  exact raise_end y.ok T.mg na r p1.1 nd ha' hd' kp ((en.ex t).ext y) p1.2.2
def pRaiseT (c : Nat) (pa : PAx) : PSx := fun P δ => pa δ (fun ds => match ds with | [.tup es] => (cfs c).length = 1 ∧ P.ex δ ⟨c, [.tup es]⟩ | _ => False) (P.ex δ)
theorem ls_raiseT {c : Nat} {A fI : Addr} (hc : X.calm = true) (tk : Takes X W) (T : ExT X.K X.mg c A fI) (F : FnOk X.prog X.w X.K X.mg X.base (L2.CX X.prog X.w) k fI fd ps (spXt (cx X) c 2)) (hr : Room (k + 1) X.A) (hb : Binds X.K fd ps []) (hg : Gl X (cname c))
    (ha : LAn X (WE W) (e :: es) ta pa 1) (hdb : (cname c == ("__debug__" : Str)) = false := by decide) (he : starEach (e :: es) X.env = (false, eval e X.env) :: starEach es X.env := by rfl) (hpl : (backTo pos (starEach es X.env)).any (·.1) = false := by rfl) :
    LS X (WE W) (.Raise (some (.Call (.Name (cname c) p) (e :: es) [] pos)) none rpos) (fun _ σ H => tMkO A (spXt (cx X) c 2) [] ta σ H fun cls d H' => W cls d σ H') (pRaiseT c pa) := by
  refine ⟨ps_raise hc tk (pmk_oex T.ox T.ini T.ty F hr hb .nil passL hg T.mg ha.py hdb he hpl), fun {G0 H0 Dn P δ σ G H} en t q => ha.le t.ok t.sr (en.ex t) q fun vs ds G1 H1 hn y r p1 => ?_⟩
  refine ⟨by rw [hn]; decide, fun a na => ?_⟩
  rw [List.append_nil]
  split at p1
  · rename_i es'
    cases r with
    | cons r1 r2 =>
      cases r2
      obtain ⟨tt, xs, rfl, ht, rt⟩ := RV.tup (C := cx X) y.ok (.inl r1)
      have ht' : SqT X.K (upd H1 a (exo a A none)) tt xs := by
        rcases ht with (h | ⟨o, h⟩) | h
        · exact .inl (.inl (by rw [upd_ne (ne_of_none h na)]; exact h))
        · exact .inl (.inr ⟨o, by rw [upd_ne (ne_of_none h na)]; exact h⟩)
        · exact .inr h
      refine ⟨rfl, a, A, tt, xs, rfl, ht', T.mg, upd_same, fun d H' nd nda ha' hd' kp => ⟨rfl, ?_⟩⟩
      exact raise_end y.ok T.mg na (.one r1) (by rw [p1.1]; rfl) nd ha' hd' kp ((en.ex t).ext y) p1.2
  · exact p1.elim
end
/-! ### the __init__ of errors -/
section
variable {P : Program} {w : World} {K : PySem.W.Frag} {mg : Str → Option Value} {base : Heap}
/-- def __init__(self, f, g): self.f = f; self.g = g -/
theorem xinit2 {c : Nat} {qual : Str} {st : Stmt} {f A : Addr} {fd : FuncData} {N : List Str} {n0 n1 n2 : Str} {q1 q2 q3 q4 q5 q6 q7 q8 : Pos} (F : Fun K "__init__" qual st f fd) (S : FnScope N [n0, n1, n2] (defScope st)) (hN : N = [n0, n1, n2]) (T : ExT K mg c A f)
    (hst : defBody st = [.Assign [.Attribute (.Name n0 q1) n1 q2] (.Name n1 q3) q4, .Assign [.Attribute (.Name n0 q5) n2 q6] (.Name n2 q7) q8]) (hf : cfs c = [n1, n2])
    (hb : ∀ (cdv : Value) (A' : Around) (outer : List Env) (s : Shared) (H : Hp) (E : XK),
      (PSs (cxOf (L2.CX P w) P w K mg base N qual (defScope st) f cdv A' outer s H E) [.Assign [.Attribute (.Name n0 q1) n1 q2] (.Name n1 q3) q4, .Assign [.Attribute (.Name n0 q5) n2 q6] (.Name n2 q7) q8] (tSeq (tOst K n1 (tVar 0) (tVar 1)) (tOst K n2 (tVar 0) (tVar 2))))) :
    FnOk P w K mg base (L2.CX P w) 1 f fd [n0, n1, n2] (spX ⟨K, mg⟩ c 3) := by
  refine F.okX S (fun vs H Q E h => h.1) (fun cdv A' outer s H vs Q E hr h => ?_)
  obtain ⟨hl, a, A2, ws, rfl, hm, ha, q⟩ := h
  obtain ⟨y1, y2, rfl⟩ : ∃ y1 y2, ws = [y1, y2] := by
    match ws, hl with
    | [y1, y2], _ => exact ⟨y1, y2, rfl⟩
  have eA : A2 = A := by
    have z := hm.symm.trans T.mg
    cases z
    rfl
  subst eA
  refine ⟨_, by rw [hst]; exact hb cdv A' outer s H E, ?_⟩
  subst hN
  refine ⟨y1, rfl, .ref a, rfl, a, A2, rfl, T.ox, T.no n1 (by rw [hf]; simp), .inl ⟨ha, fun dx ndx ne => ?_⟩⟩
  refine ⟨y2, rfl, .ref a, rfl, a, A2, rfl, T.ox, T.no n2 (by rw [hf]; simp), .inr ⟨dx, _, upd_same, by rw [upd_ne ne]; exact upd_same, by show 1 ≤ 900; decide, ?_⟩⟩
  refine q dx _ ndx ne (by rw [upd_ne (Ne.symm ne)]; exact upd_same) (by rw [upd_same]; unfold mkF; rw [hf]; rfl) fun b o hba hb' => ?_
  have hbd : b ≠ dx := ne_of_none hb' ndx
  rw [upd_ne hbd, upd_ne hba, upd_ne hbd]
  exact hb'
/-- def __init__(self, f): self.f = tuple(f) -/
theorem xinit1 {c : Nat} {qual : Str} {st : Stmt} {f A : Addr} {fd : FuncData} {N : List Str} {n0 n1 : Str} {te : TE} (F : Fun K "__init__" qual st f fd) (S : FnScope N [n0, n1] (defScope st)) (hN : N = [n0, n1]) (T : ExT K mg c A f) (hf : cfs c = [n1])
    (hte : ∀ σ H Q t xs, σ[(1 : Nat)]? = some (some (.ref t)) → SqT K H t xs → Q (.ref t) H → te σ H Q)
    (hb : ∀ (cdv : Value) (A' : Around) (outer : List Env) (s : Shared) (H : Hp) (E : XK),
      (PSs (cxOf (L2.CX P w) P w K mg base N qual (defScope st) f cdv A' outer s H E) (defBody st) (tOst K n1 (tVar 0) te))) :
    FnOk P w K mg base (L2.CX P w) 1 f fd [n0, n1] (spXt ⟨K, mg⟩ c 2) := by
  refine F.okX S (fun vs H Q E h => h.1) (fun cdv A' outer s H vs Q E hr h => ?_)
  obtain ⟨hl, a, A2, t, xs, rfl, ht, hm, ha, q⟩ := h
  have eA : A2 = A := by
    have z := hm.symm.trans T.mg
    cases z
    rfl
  subst eA
  refine ⟨_, hb cdv A' outer s H E, ?_⟩
  subst hN
  refine hte _ _ _ t xs rfl ht ⟨.ref a, rfl, a, A2, rfl, T.ox, T.no n1 (by rw [hf]; simp), .inl ⟨ha, fun dx ndx ne => ?_⟩⟩
  refine q dx _ ndx ne upd_same (by rw [upd_ne ne, upd_same]; unfold mkF; rw [hf]; rfl) fun b o hba hb' => ?_
  rw [upd_ne hba, upd_ne (ne_of_none hb' ndx)]
  exact hb'
end
end Pu
set_option Elab.async false
set_option linter.all false
set_option maxRecDepth 100000
set_option maxHeartbeats 2000000
set_option autoImplicit false
namespace Pu
open PySem PySem.Spec PyProof.Rows L2
/-! # More of expressions: slices, count, sorted, isinstance, new lists by + and * -/
section
variable {X : Cx} {E : L2.St → XK}
theorem PE.or {e : Expr} {t u : TE} (h : PE X e t) (h' : PE X e u) : PE X e (fun σ H Q => t σ H Q ∨ u σ H Q) := ⟨fun pins s σ H Q I q => by
  rcases q with q | q
  · exact h.run pins s σ H Q I q
  · exact h'.run pins s σ H Q I q⟩
theorem LX.or {e : Expr} {t u : TE} {p q : PX} (h : LX X E e t p) (h' : LX X E e u q) : LX X E e (fun σ H Q => t σ H Q ∨ u σ H Q) (fun δ P P2 => p δ P P2 ∨ q δ P P2) := ⟨PE.or h.py h'.py, fun k s x pq c => by
  rcases pq with pq | pq
  · exact .inl (h.le k s x pq c)
  · exact .inr (h'.le k s x pq c)⟩
/-! ### new lists by operators -/
structure OLo (X : Cx) (r : R2) (f : POp) : Prop where
  le : ∀ {G : Gp} {H : Hp} {x y : V} {dx dy : D} {Q : VK} {P : D → Prop}, Ok G H → RV (cx X) G H x dx → RV (cx X) G H y dy → f dx dy P →
    (∀ p xs ds G' H', Ext G H G' H' → H p = none → H' p = some (.lst xs) → G' p = none → RAll (cx X) G' xs ds → P (.lst ds) → Q (.ref p) H') → r x y H Q
theorem lo_bin {op : Operator} {r : R2} {f : POp} {a b : Expr} {ta tb : TE} {pa pb : PX} {pos : Pos} (ho : OpR X (binaryOp op) r) (ol : OLo X r f) (ha : LV X E a ta pa) (hb : LV X E b tb pb) : LO X E (.BinOp a op b pos) (tOp r ta tb) (pOp f pa pb) := by
  refine ⟨pe_op ho ha.py hb.py, fun {δ σ G H H0 Q P P2} k s x p q => ha.le k s x p fun v d G1 H1 y1 r1 p1 => ?_⟩
  refine hb.le y1.ok (s.ext y1) (x.ext y1) p1 fun u d2 G2 H2 y2 r2 p2 => ?_
  exact ol.le y2.ok (r1.ext y2) r2 p2 fun l xs ds G3 H3 y3 hn hp gp rr p3 => q l xs ds G3 H3 ((y1.trans y2).trans y3) ((y1.trans y2).back hn) hp gp rr p3
def fCat : POp := fun x y P => match x, y with | .lst a, .lst b => a.length + b.length ≤ szl ∧ P (.lst (a ++ b)) | _, _ => False
theorem olo_cat : OLo X rCat fCat := by
  refine ⟨fun {G H x y dx dy Q P} k rx ry p q => ?_⟩
  unfold fCat at p
  split at p
  · obtain ⟨a, xs, e1, h1, r1⟩ := rx.lst k
    obtain ⟨b, ys, e2, h2, r2⟩ := ry.lst k
    exact ⟨a, b, xs, ys, e1, e2, h1, h2, by rw [r1.length, r2.length, sizeLine_eq]; exact p.1, fun l hl => q l _ _ G _ (Ext.new k hl) hl upd_same (k.none_of hl) (r1.append r2) p.2⟩
  · exact p.elim
def fRep : POp := fun x y P => match x, y with | .lst a, .int j => -(2 ^ 63) ≤ j ∧ j < 2 ^ 63 ∧ a.length * j.toNat ≤ szl ∧ P (.lst (List.replicate j.toNat a).flatten) | _, _ => False
theorem olo_rep : OLo X rRep fRep := by
  refine ⟨fun {G H x y dx dy Q P} k rx ry p q => ?_⟩
  unfold fRep at p
  split at p
  · obtain ⟨a, xs, e1, h1, r1⟩ := rx.lst k
    exact ⟨a, _, xs, e1, ry.int, h1, p.1, p.2.1, by rw [r1.length, sizeLine_eq]; exact p.2.2.1, fun l hl => q l _ _ G _ (Ext.new k hl) hl upd_same (k.none_of hl) (r1.rep _) p.2.2.2⟩
  · exact p.elim
/-! ### slices -/
abbrev POx := Dl → (Option Int → Prop) → (Exn → Prop) → Prop
structure LP (X : Cx) (E : L2.St → XK) (e : Option Expr) (t : TO) (p : POx) : Prop where
  py : PO X e t
  le : ∀ {δ : Dl} {σ : L2.St} {G : Gp} {H H0 : Hp} {Q : Option Int → Hp → Prop} {P : Option Int → Prop} {P2 : Exn → Prop}, Ok G H → SRel (cx X) H0 G H σ δ → EOk (cx X) G H (E σ) P2 → p δ P P2 →
    (∀ o G' H', Ext G H G' H' → P o → Q o H') → t σ H Q
def pNo : POx := fun _ P _ => P none
def pPart (pe : PX) : POx := fun δ P P2 => pe δ (fun d => match d with | .int i => P (some i) | _ => False) P2
theorem lp_none : LP X E none tNoPart pNo := ⟨po_none, fun k s x p q => q _ _ _ (.refl k) p⟩
theorem lp_some {e : Expr} {te : TE} {pe : PX} (h : LX X E e te pe) : LP X E (some e) (tPart te) (pPart pe) := ⟨po_some h.py, fun k s x p q => h.le k s x p fun v d G' H' y r p' => by
  split at p'
  · obtain rfl := r.intR
    exact ⟨_, rfl, q _ _ _ y p'⟩
  · exact p'.elim⟩
def cutD (xs : List D) (lo hi : Option Int) : List D := (xs.drop (HT.sIx xs.length 0 lo)).take (HT.sIx xs.length xs.length hi - HT.sIx xs.length 0 lo)
theorem RAll.cut {C : Ctx} {G : Gp} {xs : List V} {ds : List D} {lo hi : Option Int} (r : RAll C G xs ds) : RAll C G (cutV xs lo hi) (cutD ds lo hi) := by
  unfold cutV cutD
  rw [r.length]
  exact (r.drop _).take _
def fSl : D → Option Int → Option Int → (D → Prop) → Prop := fun x lo hi P => match x with
  | .lst ds => P (.lst (cutD ds lo hi))
  | .tup ds => P (.tup (cutD ds lo hi))
  | .str z => z.length ≤ szl ∧ P (.str (cutS z lo hi))
  | _ => False
def pSl (pe : PX) (pl ph : POx) : PX := fun δ P P2 => pe δ (fun x => pl δ (fun lo => ph δ (fun hi => fSl x lo hi P) P2) P2) P2
def rSlAll (K : PySem.W.Frag) : V → Option Int → Option Int → Hp → VK → Prop := fun x lo hi H Q => rSlL K x lo hi H Q ∨ rSlN K x lo hi H Q ∨ rSlS x lo hi H Q
theorem sl_all : SlR X (rSlAll X.K) := sl_list.or (sl_tupN.or sl_str)
theorem lx_slice {e : Expr} {lo hi : Option Expr} {te : TE} {tl th : TO} {pe : PX} {pl ph : POx} {p2 pos : Pos} (he : LV X E e te pe) (hl : LP X E lo tl pl) (hh : LP X E hi th ph) : LX X E (.Subscript e (.Slice lo hi none p2) pos) (tSl (rSlAll X.K) te tl th) (pSl pe pl ph) := by
  refine ⟨pe_slice sl_all he.py hl.py hh.py, fun {δ σ G H H0 Q P P2} k s x p q => he.le k s x p fun v d G1 H1 y1 r1 p1 => ?_⟩
  refine hl.le y1.ok (s.ext y1) (x.ext y1) p1 fun o G2 H2 y2 p2 => ?_
  refine hh.le y2.ok ((s.ext y1).ext y2) ((x.ext y1).ext y2) p2 fun o2 G3 H3 y3 p3 => ?_
  have r3 := (r1.ext y2).ext y3
  have y := (y1.trans y2).trans y3
  unfold fSl at p3
  split at p3
  · obtain ⟨a, xs, rfl, h, rr⟩ := r3.lst y3.ok
    exact .inl ⟨a, xs, rfl, SqL.of h, fun l hl => q _ (.lst _) _ _ (y.trans (Ext.newG y3.ok hl)) (.lst updG_same (rr.cut.mono (updG_keep (y3.ok.none_of hl)))) p3⟩
  · rename_i ds
    have r0 := r3.tupR
    obtain ⟨a, xs, rfl, h, rr⟩ := r3.tup y3.ok
    refine .inr (.inl ⟨a, xs, rfl, h, fun w => ?_, fun _ l ob hl ho => let ⟨x1, x2⟩ := Ext.newT (C := cx X) (o := ob) y3.ok hl ho rr.cut; q _ (.tup _) _ _ (y.trans x1) x2 p3⟩)
    refine q _ _ _ _ y r0 ?_
    have e : cutD ds o o2 = ds := by
      unfold cutD
      rw [← rr.length, w.1, w.2, List.drop_zero, Nat.sub_zero, rr.length, List.take_length]
    rw [e] at p3
    exact p3
  · exact .inr (.inr ⟨_, r3.str, by rw [sizeLine_eq]; exact p3.1, q _ _ _ _ y (.str _) p3.2⟩)
  · exact p3.elim
/-- .. of a list: a new one -/
theorem lo_slice {e : Expr} {lo hi : Option Expr} {te : TE} {tl th : TO} {pe : PX} {pl ph : POx} {p2 pos : Pos} (he : LV X E e te pe) (hl : LP X E lo tl pl) (hh : LP X E hi th ph) :
    LO X E (.Subscript e (.Slice lo hi none p2) pos) (tSl (rSlL X.K) te tl th) (fun δ P P2 => pe δ (fun x => pl δ (fun lo => ph δ (fun hi => match x with | .lst ds => P (.lst (cutD ds lo hi)) | _ => False) P2) P2) P2) := by
  refine ⟨pe_slice sl_list he.py hl.py hh.py, fun {δ σ G H H0 Q P P2} k s x p q => he.le k s x p fun v d G1 H1 y1 r1 p1 => ?_⟩
  refine hl.le y1.ok (s.ext y1) (x.ext y1) p1 fun o G2 H2 y2 p2 => ?_
  refine hh.le y2.ok ((s.ext y1).ext y2) ((x.ext y1).ext y2) p2 fun o2 G3 H3 y3 p3 => ?_
  have r3 := (r1.ext y2).ext y3
  have y := (y1.trans y2).trans y3
  split at p3
  · obtain ⟨a, xs, rfl, h, rr⟩ := r3.lst y3.ok
    exact ⟨a, xs, rfl, SqL.of h, fun l hl => q l _ _ _ _ (y.trans (Ext.new y3.ok hl)) (y.back hl) upd_same (y3.ok.none_of hl) rr.cut p3⟩
  · exact p3.elim
/-! ### xs.count(k): a list or a tuple of ints, an int -/
theorem RV.nd {C : Ctx} {G : Gp} {H : Hp} {v : V} {d : D} {ds : List D} {ns : List Int} (k : Ok G H) (r : RV C G H v d) (e : itemsD d = some ds) (en : intsD ds = some ns) : ∃ a T, v = .ref a ∧ ∀ G' H', Ext G H G' H' → Nd C.K H' a T (ns.map V.int) := by
  rw [intsD_eq en] at e
  unfold itemsD at e
  split at e
  · cases e
    rcases r with r | ⟨a, xs, ds', rfl, e, h, g, r⟩
    · cases r with
      | @lst a xs _ h r =>
        rw [r.int] at h
        exact ⟨a, "list", rfl, fun G' H' x => .inl ⟨rfl, SqL.of (x.ok.fz (x.g _ _ h))⟩⟩
    · cases e
      rw [r.int] at h
      exact ⟨a, "list", rfl, fun G' H' x => .inl ⟨rfl, SqL.of (x.h _ _ h g).1⟩⟩
  · cases e
    cases r.tupR with
    | @tup a xs _ h r =>
      refine ⟨a, "tuple", rfl, fun G' H' x => .inr ⟨rfl, ?_⟩⟩
      rw [r.int] at h
      rcases h.mono x.g with ⟨o, h, hd⟩ | h
      · exact .inl ⟨o, x.ok.fz h, hd⟩
      · exact .inr h
  · cases e
def pCount (po pe : PX) : PX := fun δ P P2 => po δ (fun x => match itemsD x with
  | some ds => (match intsD ds with | some ns => pe δ (fun y => match y with | .int k => P (.int (ns.count k : Nat)) | _ => False) P2 | none => False)
  | none => False) P2
theorem lx_count {o e : Expr} {to te : TE} {po pe : PX} {apos cpos : Pos} (ho : LV X E o to po) (he : LX X E e te pe)
    (hbase : attributeBase o "count" X.env (eval o X.env) = eval o X.env := by rfl)
    (hfew : ((backTo cpos (starEach [e] X.env)).all (fun x => !x.1) && (backToKw cpos (keywordEach [] X.env)).all (fun x => x.1.isSome)
      && decide ([e].length + ([] : List Keyword).length + (if ([] : List Keyword).isEmpty then 0 else 1) < 30)) = true := by rfl)
    (hline : (apos.endLine == cpos.line) = true := by rfl) (hs : starEach [e] X.env = (false, eval e X.env) :: starEach [] X.env := by rfl) :
    LX X E (.Call (.Attribute o "count" apos) [e] [] cpos) (tCnt X.K to te) (pCount po pe) := by
  refine ⟨pe_cnt ho.py he.py hbase hfew hline hs, fun {δ σ G H H0 Q P P2} k s x p q => ho.le k s x p fun v d G1 H1 y1 r1 p1 => ?_⟩
  split at p1
  · rename_i ds ed
    split at p1
    · rename_i ns en
      obtain ⟨a, T, ev, nd⟩ := r1.nd y1.ok ed en
      refine ⟨a, T, ns, ev, nd _ _ (.refl y1.ok), he.le y1.ok (s.ext y1) (x.ext y1) p1 fun w d2 G2 H2 y2 r2 p2 => ?_⟩
      split at p2
      · obtain rfl := r2.intR
        exact ⟨_, rfl, nd _ _ y2, q _ _ _ _ (y1.trans y2) (.int _) p2⟩
      · exact p2.elim
    · exact p1.elim
  · exact p1.elim
end
end Pu
set_option Elab.async false
set_option linter.all false
set_option maxRecDepth 100000
set_option maxHeartbeats 2000000
set_option autoImplicit false
namespace Pu
open PySem PySem.Spec PyProof.Rows L2
/-! # isinstance; try -/
/-- does isinstance(d, T) hold, for a built-in T -/
def isTy (T : String) : D → Option Bool
  | .non => some false
  | .bl _ => some (T == "bool" || T == "int")
  | .int _ => some (T == "int")
  | .str _ => some (T == "str")
  | .lst _ => some (T == "list")
  | .script _ => some (T == "list")
  | .tup _ => some (T == "tuple")
  | _ => none
def IsTyT (T : String) : Prop := kitB "NoneType" T = some false ∧ kitB "bool" T = some (T == "bool" || T == "int") ∧ kitB "int" T = some (T == "int") ∧ kitB "str" T = some (T == "str") ∧ kitB "list" T = some (T == "list") ∧ kitB "tuple" T = some (T == "tuple")
theorem isTy_bool : IsTyT "bool" := by unfold IsTyT; decide +kernel
theorem isTy_int : IsTyT "int" := by unfold IsTyT; decide +kernel
theorem isTy_str : IsTyT "str" := by unfold IsTyT; decide +kernel
theorem isTy_list : IsTyT "list" := by unfold IsTyT; decide +kernel
theorem isTy_tuple : IsTyT "tuple" := by unfold IsTyT; decide +kernel
/-- the built-in type of a value -/
def tyD : D → Option String
  | .non => some "NoneType"
  | .bl _ => some "bool"
  | .int _ => some "int"
  | .str _ => some "str"
  | .lst _ => some "list"
  | .script _ => some "list"
  | .tup _ => some "tuple"
  | _ => none
theorem isTy_kit {T : String} (h : IsTyT T) {d : D} {b : Bool} (e : isTy T d = some b) : ∃ t, tyD d = some t ∧ kitB t T = some b := by
  obtain ⟨h0, h1, h2, h3, h4, h5⟩ := h
  cases d with
  | non => cases e; exact ⟨_, rfl, h0⟩
  | bl _ => cases e; exact ⟨_, rfl, h1⟩
  | int _ => cases e; exact ⟨_, rfl, h2⟩
  | str _ => cases e; exact ⟨_, rfl, h3⟩
  | lst _ => cases e; exact ⟨_, rfl, h4⟩
  | script _ => cases e; exact ⟨_, rfl, h4⟩
  | tup _ => cases e; exact ⟨_, rfl, h5⟩
  | obj _ _ => cases e
  | pool => cases e
  | pin _ _ => cases e
  | cls _ => cases e
section
variable {X : Cx} {E : L2.St → XK}
theorem ty_RV {C : Ctx} {G : Gp} {H : Hp} {v : V} {d : D} {t : String} (k : Ok G H) (r : RV C G H v d) (e : tyD d = some t) : TyX C.K H v (.type t) := by
  rcases r with r | ⟨a, xs, ds, rfl, rfl, h, g, r⟩
  · cases r with
    | non => cases e; exact .base .non
    | bl b => cases e; exact .base (.bl b)
    | int i => cases e; exact .base (.int i)
    | str x => cases e; exact .base (.str x)
    | lst h r => cases e; exact .base (.lst (k.fz h))
    | script h =>
      cases e
      rcases h with h | ⟨o, h⟩ | ⟨o, its, n, h, hc, _⟩
      · exact .base (.lst (k.fz h))
      · exact .base (.frz (k.fz h))
      · exact .kList h hc
    | tup h r =>
      cases e
      rcases h with ⟨o, h, _⟩ | ⟨o, its, n, h, hc, _⟩
      · exact .fTuple (k.fz h)
      · exact .kTuple h hc
    | obj _ _ _ _ => cases e
    | pool _ => cases e
    | pin _ => cases e
    | cls _ => cases e
  · cases e
    exact .base (.lst h)
def pIsT (T : String) (pe : PX) : PX := fun δ P P2 => pe δ (fun d => match isTy T d with | some b => P (.bl b) | none => False) P2
theorem lx_isT (T : String) {e : Expr} {te : TE} {pe : PX} {x : Str} {p p2 pos : Pos} (hT : IsTyT T) (he : LV X E e te pe) (hg : Gl X "isinstance") (hm : X.mg "isinstance" = none) (hgx : Gl X x) (hmx : X.mg x = none) (hv : bootBuiltins x = some (.type T)) (hv2 : bootBuiltins "isinstance" = some (.builtin "isinstance"))
    (hn : x ≠ "__name__" := by decide) (hd : (x == ("__debug__" : Str)) = false := by decide)
    (h1 : starEach [e, .Name x p2] X.env = (false, eval e X.env) :: starEach [.Name x p2] X.env := by rfl) (h2 : starEach [.Name x p2] X.env = (false, eval (.Name x p2) X.env) :: starEach [] X.env := by rfl)
    (hpl : (backTo pos (starEach [.Name x p2] X.env)).any (·.1) = false := by rfl) :
    LX X E (.Call (.Name "isinstance" p) [e, .Name x p2] [] pos) (tCB (rIsi X.K) (tCons te (tCons (tC (.ty T)) tNil))) (pIsT T pe) := by
  refine ⟨pe_callB call_isi hg hm hv2 (pa_cons he.py (pa_cons (pe_bltn hgx hmx hv rfl hn hd) pa_nil h2) h1) (by decide) (by decide) h1 hpl, fun {δ σ G H H0 Q P P2} k s x p q => he.le k s x p fun v d G1 H1 y1 r1 p1 => ?_⟩
  split at p1
  · rename_i b eb
    obtain ⟨t, et, ek⟩ := isTy_kit hT eb
    exact ⟨v, .ty T, .type t, .type T, b, rfl, .ty T, ty_RV y1.ok r1 et, kit_ty ek, q _ _ _ _ y1 (.bl b) p1⟩
  · exact p1.elim
/-- what the text says of the class c for isinstance: which values are asked about -/
structure IsC (K : PySem.W.Frag) (mgv : Str → Option Value) (c : Nat) (A : Addr) (cs : List Nat) : Prop where
  mg : mgv (cname c) = some (.ref A)
  ty : ∀ t ∈ ["NoneType", "bool", "int", "str", "list", "tuple"], PySem.W.kitOne K (.type t) (.ref A) = some false
  own : ∀ c' ∈ cs, ∀ A', mgv (cname c') = some (.ref A') → PySem.W.kitOne K (.ref A') (.ref A) = some (c' == c) ∧ Cls K A' ∧ PySem.W.findIn K (.ref A') "__class__" = some (some (.builtin "object.__class__")) ∧ PySem.W.mroIn K A' (.type "object") = some true
  hn : PySem.W.specialIn K (.builtin "object.__class__") "__get__" = some (some (.builtin "getset_descriptor.__get__"))
  ht : PySem.W.takesIn K (.builtin "object.__class__") = some true
def isCl (c : Nat) (cs : List Nat) : D → Option Bool := fun d => match d with
  | .obj c' _ => if cs.contains c' then some (c' == c) else none
  | d => match tyD d with | some _ => some false | none => none
theorem tyD_mem {d : D} {t : String} (e : tyD d = some t) : t ∈ ["NoneType", "bool", "int", "str", "list", "tuple"] := by
  cases d <;> first | (cases e; simp) | cases e
theorem isC_RV {c : Nat} {A : Addr} {cs : List Nat} {C : Ctx} {G : Gp} {H : Hp} {v : V} {d : D} {b : Bool} (T : IsC C.K C.mg c A cs) (k : Ok G H) (r : RV C G H v d) (e : isCl c cs d = some b) : ∃ t, TyX C.K H v t ∧ PySem.W.kitOne C.K t (.ref A) = some b := by
  have low : ∀ t, tyD d = some t → b = false → ∃ t, TyX C.K H v t ∧ PySem.W.kitOne C.K t (.ref A) = some b := fun t et eb => ⟨_, ty_RV k r et, by rw [eb]; exact T.ty t (tyD_mem et)⟩
  cases d with
  | obj c' ds =>
    unfold isCl at e
    split at e
    · rename_i c2 _ e2
      cases e2
      split at e
      · rename_i hc
        cases r.scal (fun _ z => by cases z) with
        | obj hm hg rv hl =>
          obtain ⟨h1, h2, h3, h4⟩ := T.own _ (by simpa using hc) _ hm
          cases e
          exact ⟨_, .base (.ins (k.fz hg) h2 h3 T.hn T.ht h4), h1⟩
      · cases e
    · rename_i n
      exact absurd rfl (n c' ds)
  | non => exact low _ rfl (by cases e; rfl)
  | bl x => exact low _ rfl (by cases e; rfl)
  | int x => exact low _ rfl (by cases e; rfl)
  | str x => exact low _ rfl (by cases e; rfl)
  | lst x => exact low _ rfl (by cases e; rfl)
  | tup x => exact low _ rfl (by cases e; rfl)
  | script x => exact low _ rfl (by cases e; rfl)
  | pool => cases e
  | pin _ _ => cases e
  | cls x => cases e
def pIsC (c : Nat) (cs : List Nat) (pe : PX) : PX := fun δ P P2 => pe δ (fun d => match isCl c cs d with | some b => P (.bl b) | none => False) P2
theorem lx_isC {c : Nat} {A : Addr} {cs : List Nat} {e : Expr} {te : TE} {pe : PX} {p p2 pos : Pos} (T : IsC X.K X.mg c A cs) (he : LV X E e te pe) (hg : Gl X "isinstance") (hm : X.mg "isinstance" = none) (hgx : Gl X (cname c)) (hv2 : bootBuiltins "isinstance" = some (.builtin "isinstance"))
    (hd : (cname c == ("__debug__" : Str)) = false := by decide)
    (h1 : starEach [e, .Name (cname c) p2] X.env = (false, eval e X.env) :: starEach [.Name (cname c) p2] X.env := by rfl) (h2 : starEach [.Name (cname c) p2] X.env = (false, eval (.Name (cname c) p2) X.env) :: starEach [] X.env := by rfl)
    (hpl : (backTo pos (starEach [.Name (cname c) p2] X.env)).any (·.1) = false := by rfl) :
    LX X E (.Call (.Name "isinstance" p) [e, .Name (cname c) p2] [] pos) (tCB (rIsi X.K) (tCons te (tCons (tC (.ref A)) tNil))) (pIsC c cs pe) := by
  refine ⟨pe_callB call_isi hg hm hv2 (pa_cons he.py (pa_cons (pe_glob hgx T.mg rfl hd) pa_nil h2) h1) (by decide) (by decide) h1 hpl, fun {δ σ G H H0 Q P P2} k s x p q => he.le k s x p fun v d G1 H1 y1 r1 p1 => ?_⟩
  split at p1
  · rename_i b eb
    obtain ⟨t, et, ek⟩ := isC_RV T y1.ok r1 eb
    exact ⟨v, .ref A, t, .ref A, b, rfl, .own A, et, ek, q _ _ _ _ y1 (.bl b) p1⟩
  · exact p1.elim
end
/-! ### try .. except C as e -/
abbrev WN : WX := fun _ _ _ _ => False
def pTryEx (i : Nat) (f : Nat → Option Bool) (ps : Addr → Value → Option Addr → PSx) (P : PEnds) : Dl → Exn → Prop := fun δ' e => match f e.c with
  | some true => ∀ a cls d, ps a cls d { nx := fun δ2 => P.nx (δ2.set i none), rt := P.rt, bk := fun δ2 => P.bk (δ2.set i none), ct := fun δ2 => P.ct (δ2.set i none), ex := fun _ _ => False } (δ'.set i (some (.exc a cls d e)))
  | some false => P.ex δ' e
  | none => False
def pTryAs (i : Nat) (f : Nat → Option Bool) (pb : PSx) (ps : Addr → Value → Option Addr → PSx) : PSx := fun P δ => pb { P with ex := pTryEx i f ps P } δ
/-- which errors the clause catches -/
def CatT (K : PySem.W.Frag) (mg : Str → Option Value) (cv : Value) (f : Nat → Option Bool) : Prop := ∀ c b, f c = some b → ∀ A, mg (cname c) = some (.ref A) → PySem.W.exmOne K (.ref A) cv = some b
section
variable {X : Cx} {W : WX} {x n : Str} {cv : Value} {i : Nat} {body suite : List Stmt} {b₀ : Stmt} {np pos pos' : Pos} {pb : PSx} {ps : Addr → Value → Option Addr → PSx} {f : Nat → Option Bool}
theorem takes_any {W' : WX} {pn : List (Addr × Obj)} (hs : X.stack = X.env :: X.outer) (hf : X.env.frame = some X.env.locals) :
    Takes (X.tr pn fun e s1 => wpAny (model X.prog X.w) X.A (noteFrame e X.env) (fun _ s2 => wpAny (model X.prog X.w) X.A (setFlight e none) (fun _ _ => True) X.xe s2) X.xe s1) W' := by
  intro u s' ⟨a, B, sI, pins, σ, H, cls, d, eu, J, nb, up, sky, na, os, ag, w⟩
  subst eu
  have hfr : X.A.frames = some (X.env :: X.outer) := J.ok.frames.trans (congrArg some hs)
  have sky' : Sky B (X.env :: X.outer) a (Zc cls d) X.env.locals s'.heap := by rw [← hs]; exact sky
  exact Sky.land Zc.steady hfr hf sky' fun _ _ _ => trivial
theorem dummyZ (cls : Value) (d : Option Addr) : Zc cls d { cls := cls, dict := d, data := .fields #[] } ∧ ∃ vs : Array Value, ({ cls := cls, dict := d, data := .fields #[] } : Obj).data = .fields vs := ⟨⟨rfl, rfl⟩, _, rfl⟩
theorem ls_tryAs (i : Nat) (f : Nat → Option Bool) (hs : X.stack = X.env :: X.outer) (hf : X.env.frame = some X.env.locals) (hN : X.N.Nodup) (hi : X.N[i]? = some n) (hln : X.env.kindOf n = some .local) (hc : Names X x cv) (tk : Takes X W) (T : CatT X.K X.mg cv f)
    (hb : ∀ (W' : WX) (pn : List (Addr × Obj)) (xe : Value → Shared → Prop), Takes (X.tr pn xe) W' → PassesOwn (model X.prog X.w) X.A X.env xe → ∃ t, LSs (X.tr pn xe) (WE W') body t pb)
    (hsu : ∀ (a : Addr) (oe : Obj) (cls : Value) (d : Option Addr) (pn : List (Addr × Obj)), Zc cls d oe → (∃ vs, oe.data = .fields vs) → ∃ t, LSs (X.suite a ((a, oe) :: pn)) (WE WN) (b₀ :: suite) t (ps a cls d)) :
    LS X (WE W) (.Try body [.ExceptHandler (some (.Name x np)) (some n) (b₀ :: suite) pos'] [] [] pos) (fun D σ H => tsOf (cx X) (WE (wAs X.K cv i (fun a cls d => tsOf (cx X) (WE WN) (ps a cls d)) W D)) pb D σ H) (pTryAs i f pb ps) := by
  refine ⟨ps_try_as hs hf hN hi hln hc tk (tb := fun W' => tsOf (cx X) (WE W') pb) (fun W' pn xe h1 h2 => let ⟨_, h⟩ := hb W' pn xe h1 h2; h.sem.py) (fun a oe cls d pn h1 h2 => let ⟨_, h⟩ := hsu a oe cls d pn h1 h2; h.sem.py), fun {G0 H0 Dn P δ σ G H} e t p => ?_⟩
  obtain ⟨t0, ht0⟩ := hb (wAs X.K cv i (fun a cls d => tsOf (cx X) (WE WN) (ps a cls d)) W Dn) [] _ (takes_any hs hf) PassesOwn.looking
  refine ht0.sem.le (P := { P with ex := pTryEx i f ps P }) ⟨e.nx, e.rt, e.bk, e.ct, fun {σ δ G H} t => ?_⟩ t p
  intro G' H' cls d ex y xr p1
  obtain ⟨A, hm, ec, hlen, hd⟩ := id xr
  have p1' : pTryEx i f ps P δ ex := p1
  unfold pTryEx at p1'
  show wAs X.K cv i (fun a cls d => tsOf (cx X) (WE WN) (ps a cls d)) W Dn cls d σ H'
  split at p1'
  · rename_i ef
    refine ⟨true, by rw [ec]; exact T _ _ ef _ hm, fun _ a na => ?_, fun z => absurd z.symm Bool.false_ne_true⟩
    obtain ⟨z1, z2⟩ := dummyZ cls d
    obtain ⟨t1, ht1⟩ := hsu a _ cls d [] z1 z2
    refine ht1.sem.le (P := { nx := fun δ2 => P.nx (δ2.set i none), rt := P.rt, bk := fun δ2 => P.bk (δ2.set i none), ct := fun δ2 => P.ct (δ2.set i none), ex := fun _ _ => False }) (G0 := G0) (H0 := H0) (G := G')
      ⟨fun t p => e.nx ⟨t.ext, t.sr.setN⟩ p, fun t r p => e.rt t r p, fun t p => e.bk ⟨t.ext, t.sr.setN⟩ p, fun t p => e.ct ⟨t.ext, t.sr.setN⟩ p, fun _ _ _ _ _ _ _ _ p => p.elim⟩ ?_ (p1' a cls d)
    exact ⟨t.ext.trans y, (t.sr.ext y).set (.exc xr) fun z => by cases z⟩
  · rename_i ef
    exact ⟨false, by rw [ec]; exact T _ _ ef _ hm, fun z => absurd z Bool.false_ne_true, fun _ => e.ex t G' H' cls d ex y xr p1'⟩
  · exact p1'.elim
/-! ### in the clause: e.f, isinstance(e, C) -/
def tXm (K : PySem.W.Frag) (a : Addr) (cls : Value) (d : Option Addr) (fn : Str) (te : TE) : TE := fun σ H Q => ∃ C, XfC K C ∧ PySem.W.findIn K (.ref C) fn = some none ∧ tXf a cls d C fn te σ H Q
def pXm (a : Addr) (cls : Value) (d : Option Addr) (i : Nat) (tbl : List (Nat × Nat)) : PX := fun δ P _ => match δ[i]? with
  | some (some (.exc a' cls' d' e)) => a' = a ∧ cls' = cls ∧ d' = d ∧ (match tbl.lookup e.c with | some j => (match e.ds[j]? with | some x => P x | none => False) | none => False)
  | _ => False
def XfT (K : PySem.W.Frag) (mg : Str → Option Value) (fn : Str) (tbl : List (Nat × Nat)) : Prop := ∀ c j, tbl.lookup c = some j → (cfs c).Nodup ∧ (cfs c)[j]? = some fn ∧ ∀ A, mg (cname c) = some (.ref A) → XfC K A ∧ PySem.W.findIn K (.ref A) fn = some none
theorem lookup_zipR {ns : List Str} {vs : List V} {j : Nat} {f : Str} {v : V} (nd : ns.Nodup) (h1 : ns[j]? = some f) (h2 : vs[j]? = some v) (hl : vs.length = ns.length) : (ns.zip vs).reverse.lookup f = some v := by
  have key : ∀ (l : List (Str × V)), (l.map (·.1)).Nodup → (f, v) ∈ l → l.lookup f = some v := by
    intro l
    induction l with
    | nil => intro _ h; cases h
    | cons p l ih =>
      intro nd h
      obtain ⟨f', v'⟩ := p
      rw [List.map_cons, List.nodup_cons] at nd
      unfold List.lookup
      by_cases e : f = f'
      · subst e
        have eb : (f == f) = true := by simp
        rw [eb]
        rcases List.mem_cons.mp h with h | h
        · cases h; rfl
        · exact absurd (List.mem_map.mpr ⟨_, h, rfl⟩) nd.1
      · have eb : (f == f') = false := by simpa using e
        rw [eb]
        rcases List.mem_cons.mp h with h | h
        · cases h; exact absurd rfl e
        · exact ih nd.2 h
  refine key _ ?_ ?_
  · rw [List.map_reverse, List.map_fst_zip (by omega)]
    exact (List.reverse_perm _).nodup_iff.mpr nd
  · refine List.mem_reverse.mpr (List.mem_of_getElem? (i := j) ?_)
    rw [List.getElem?_zip_eq_some]
    exact ⟨h1, h2⟩
end
section
variable {X : Cx} {a : Addr} {oe : Obj} {cls : Value} {d : Option Addr} {pn : List (Addr × Obj)} {E : L2.St → XK}
theorem lx_xm (i : Nat) (tbl : List (Nat × Nat)) {fn n : Str} {np pos : Pos} (T : XfT X.K X.mg fn tbl) (hz : Zc cls d oe) (hf : ∃ vs, oe.data = .fields vs) (hN : X.N[i]? = some n := by rfl) (hv : Vis X.env.scope n := by first | exact Or.inl rfl | exact Or.inr (Or.inl rfl) | exact Or.inr (Or.inr rfl))
    (hd : (n == ("__debug__" : Str)) = false := by decide) (hcd : (n == ("__classdict__" : Str)) = false := by decide) (hb : attributeBase (.Name n np) fn X.env (eval (.Name n np) X.env) = eval (.Name n np) X.env := by rfl) :
    LX (X.suite a ((a, oe) :: pn)) E (.Attribute (.Name n np) fn pos) (tXm X.K a cls d fn (tVar i)) (pXm a cls d i tbl) := by
  refine ⟨⟨fun pins s σ H Q I ⟨C, h1, h2, h3⟩ => (pe_xf h1 h2 hz hf (pe_var (X := X.suite a ((a, oe) :: pn)) hN hv hd hcd) hb).run pins s σ H Q I h3⟩, fun {δ σ G H H0 Q P P2} k s x p q => ?_⟩
  unfold pXm at p
  split at p
  · rename_i a' cls' d' e es
    obtain ⟨rfl, rfl, rfl, p⟩ := p
    split at p
    · rename_i j ej
      split at p
      · rename_i w ew
        obtain ⟨v, ev, r⟩ := s.at_ i _ es
        cases r with
        | exc xr =>
          obtain ⟨A, hm, rfl, hlen, hd⟩ := xr
          obtain ⟨nd, hfj, hA⟩ := T _ _ ej
          obtain ⟨c1, c2⟩ := hA _ hm
          refine ⟨A, c1, c2, _, ev, rfl, rfl, ?_⟩
          rcases hd with ⟨h0, _⟩ | ⟨dd, vs, rfl, hg, rv⟩
          · rw [h0] at ew; simp at ew
          · obtain ⟨v, evj, rw1⟩ := rv.get ew
            exact ⟨dd, _, v, rfl, k.fz hg, lookup_zipR nd hfj evj (by rw [rv.length, hlen]), q _ _ _ _ (.refl k) rw1 p⟩
      · exact p.elim
    · exact p.elim
  · exact p.elim
/-- isinstance(e, c) -/
def rIsX (K : PySem.W.Frag) (a : Addr) (cls : Value) (d : Option Addr) : List V → Hp → VK → Prop := fun xs H Q => ∃ (c : V) (cv : Value) (b : Bool) (C : Addr), cls = .ref C ∧ ExcC K C ∧ (d = none ∨ ∃ dd fs, d = some dd ∧ H dd = some (.xd fs)) ∧ xs = [.ref a, c] ∧ ClsV c cv ∧ PySem.W.kitOne K (.ref C) cv = some b ∧ Q (.bl b) H
theorem call_isX (hz : Zc cls d oe) (hf : ∃ vs, oe.data = .fields vs) : CallR (X.suite a ((a, oe) :: pn)) (.builtin "isinstance") (rIsX X.K a cls d) := fun pins s σ H xs us Q I r ⟨c, cv, b, C, ec, T, hd, ex, hc, hk, q⟩ => by
  subst ec ex
  obtain ⟨u1, u2, rfl, r1, r2⟩ := vals2 r
  cases r1
  obtain rfl := hc.eq r2
  obtain ⟨at1, _⟩ := I.pin (a, oe) (List.mem_append.mpr (.inl List.mem_cons_self))
  obtain ⟨vs, hv⟩ := hf
  obtain ⟨oc, od, dt, sl⟩ := oe
  obtain ⟨z1, z2⟩ := hz
  simp only at z1 z2 hv
  subst z1 z2 hv
  have J : ∃ o2, PySem.W.InstAt s.heap a ⟨.ref C, od, .fields vs, sl⟩ C o2 := by
    rcases hd with rfl | ⟨dd, fs, rfl, hx⟩
    · exact ⟨none, at1, rfl, rfl, trivial⟩
    · obtain ⟨mA, ns, _⟩ := (show ObjOk X.prog X.w H s.heap dd (.xd fs) from I.hok dd _ hx)
      obtain ⟨o, ho, _⟩ := lookIn_ns ns
      exact ⟨some o, at1, rfl, rfl, ho⟩
  obtain ⟨o2, J⟩ := J
  have hcl : (PySem.W.clsIn X.K C).isSome = true := by
    obtain ⟨cd, hc, _⟩ := PySem.W.any_some T.hd
    rw [hc] <;> rfl
  exact PySem.W.kia_one (PySem.W.kitx_exc hcl T.hg T.hk T.hs T.ha T.hn T.ht T.hm) I.kIn J hk (fun z => nomatch z) fun tk => ⟨.bl b, H, I.tok tk, rfl, q⟩
/-- what the text says of the errors cs for isinstance with the class cv -/
def IsXT (K : PySem.W.Frag) (mg : Str → Option Value) (cv : Value) (f : Nat → Option Bool) : Prop := ∀ c b, f c = some b → ∀ A, mg (cname c) = some (.ref A) → ExcC K A ∧ PySem.W.kitOne K (.ref A) cv = some b
def pIsX (a : Addr) (cls : Value) (d : Option Addr) (i : Nat) (f : Nat → Option Bool) : PX := fun δ P _ => match δ[i]? with
  | some (some (.exc a' cls' d' e)) => a' = a ∧ cls' = cls ∧ d' = d ∧ (match f e.c with | some b => P (.bl b) | none => False)
  | _ => False
theorem isx_le {i : Nat} {f : Nat → Option Bool} {c : V} {cv : Value} (T : IsXT X.K X.mg cv f) (hc : ClsV c cv) {δ : Dl} {σ : L2.St} {G : Gp} {H H0 : Hp} {Q : VK} {P : D → Prop} {P2 : Exn → Prop} (k : Ok G H) (s : SRel (cx X) H0 G H σ δ) (p : pIsX a cls d i f δ P P2)
    (q : ∀ v d G' H', Ext G H G' H' → R (cx X) G' v d → P d → Q v H') : ∃ v, σ[i]? = some (some v) ∧ rIsX X.K a cls d [v, c] H Q := by
  unfold pIsX at p
  split at p
  · rename_i a' cls' d' e es
    obtain ⟨rfl, rfl, rfl, p⟩ := p
    split at p
    · rename_i b eb
      obtain ⟨v, ev, r⟩ := s.at_ i _ es
      cases r with
      | exc xr =>
        obtain ⟨A, hm, rfl, hlen, hd⟩ := xr
        obtain ⟨t1, t2⟩ := T _ _ eb _ hm
        refine ⟨_, ev, c, cv, b, A, rfl, t1, ?_, rfl, hc, t2, q _ _ _ _ (.refl k) (.bl b) p⟩
        rcases hd with ⟨_, h0⟩ | ⟨dd, vs, e2, hg, rv⟩
        · exact .inl h0
        · exact .inr ⟨dd, _, e2, k.fz hg⟩
    · exact p.elim
  · exact p.elim
theorem lx_isXC (i : Nat) (f : Nat → Option Bool) {x n : Str} {C : Addr} {np p p2 pos : Pos} (T : IsXT X.K X.mg (.ref C) f) (hz : Zc cls d oe) (hf : ∃ vs, oe.data = .fields vs) (hg : Gl X "isinstance") (hm : X.mg "isinstance" = none) (hv2 : bootBuiltins "isinstance" = some (.builtin "isinstance")) (hgx : Gl X x) (hmx : X.mg x = some (.ref C))
    (hN : X.N[i]? = some n := by rfl) (hv : Vis X.env.scope n := by first | exact Or.inl rfl | exact Or.inr (Or.inl rfl) | exact Or.inr (Or.inr rfl))
    (hd : (n == ("__debug__" : Str)) = false := by decide) (hcd : (n == ("__classdict__" : Str)) = false := by decide) (hdx : (x == ("__debug__" : Str)) = false := by decide) :
    LX (X.suite a ((a, oe) :: pn)) E (.Call (.Name "isinstance" p) [.Name n np, .Name x p2] [] pos) (tCB (rIsX X.K a cls d) (tCons (tVar i) (tCons (tC (.ref C)) tNil))) (pIsX a cls d i f) :=
  ⟨pe_callB (X := X.suite a ((a, oe) :: pn)) (call_isX hz hf) hg hm hv2 (pa_cons (pe_var (X := X.suite a ((a, oe) :: pn)) hN hv hd hcd) (pa_cons (pe_glob (X := X.suite a ((a, oe) :: pn)) hgx hmx rfl hdx) pa_nil)),
    fun k s x p q => isx_le T (.own C) k s p q⟩
theorem lx_isXT (i : Nat) (f : Nat → Option Bool) {x n : Str} {B : String} {np p p2 pos : Pos} (T : IsXT X.K X.mg (.type B) f) (hz : Zc cls d oe) (hf : ∃ vs, oe.data = .fields vs) (hg : Gl X "isinstance") (hm : X.mg "isinstance" = none) (hv2 : bootBuiltins "isinstance" = some (.builtin "isinstance")) (hgx : Gl X x) (hmx : X.mg x = none) (hvx : bootBuiltins x = some (.type B))
    (hN : X.N[i]? = some n := by rfl) (hv : Vis X.env.scope n := by first | exact Or.inl rfl | exact Or.inr (Or.inl rfl) | exact Or.inr (Or.inr rfl))
    (hd : (n == ("__debug__" : Str)) = false := by decide) (hcd : (n == ("__classdict__" : Str)) = false := by decide) (hnx : x ≠ "__name__" := by decide) (hdx : (x == ("__debug__" : Str)) = false := by decide) :
    LX (X.suite a ((a, oe) :: pn)) E (.Call (.Name "isinstance" p) [.Name n np, .Name x p2] [] pos) (tCB (rIsX X.K a cls d) (tCons (tVar i) (tCons (tC (.ty B)) tNil))) (pIsX a cls d i f) :=
  ⟨pe_callB (X := X.suite a ((a, oe) :: pn)) (call_isX hz hf) hg hm hv2 (pa_cons (pe_var (X := X.suite a ((a, oe) :: pn)) hN hv hd hcd) (pa_cons (pe_bltn (X := X.suite a ((a, oe) :: pn)) hgx hmx hvx rfl hnx hdx) pa_nil)),
    fun k s x p q => isx_le T (.ty B) k s p q⟩
end
end Pu
set_option Elab.async false
set_option linter.all false
set_option maxRecDepth 100000
set_option maxHeartbeats 2000000
set_option autoImplicit false
namespace Pu
open PySem PySem.Spec PyProof.Rows L2
/-! # Lists of one's own are lent for a call that hands back none of them -/
mutual
/-- no list, no pool in it -/
def noL : D → Bool
  | .non => true
  | .bl _ => true
  | .int _ => true
  | .str _ => true
  | .lst _ => false
  | .tup ds => noLL ds
  | .obj _ ds => noLL ds
  | .pool => false
  | .cls _ => true
  | .script _ => false
  | .pin _ _ => false
def noLL : List D → Bool
  | [] => true
  | d :: ds => noL d && noLL ds
end
section
variable {C : Ctx} {G G1 G2 G3 : Gp} {H H1 H2 : Hp}
mutual
theorem R.noL (k : ∀ a g, G2 a = some g → (∀ xs, g ≠ .fz (.lst xs)) → (∀ l ns, g ≠ .pool l ns) → G3 a = some g) : ∀ {v : V} {d : D}, R C G2 v d → noL d = true → R C G3 v d
  | _, _, .non, _ => .non
  | _, _, .bl b, _ => .bl b
  | _, _, .int i, _ => .int i
  | _, _, .str x, _ => .str x
  | _, _, .tup h r, e => by
    unfold Pu.noL at e
    refine .tup ?_ (RAll.noL k r e)
    rcases h with ⟨o, h, hd⟩ | h
    · exact .inl ⟨o, k _ _ h (fun _ z => by cases z) (fun _ _ z => by cases z), hd⟩
    · exact .inr h
  | _, _, .obj m h r l, e => by
    unfold Pu.noL at e
    exact .obj m (k _ _ h (fun _ z => by cases z) (fun _ _ z => by cases z)) (RAll.noL k r e) l
  | _, _, .cls m, _ => .cls m
  | _, _, .lst _ _, e => by unfold Pu.noL at e; cases e
  | _, _, .script _, e => by unfold Pu.noL at e; cases e
  | _, _, .pool _, e => by unfold Pu.noL at e; cases e
  | _, _, .pin _, e => by unfold Pu.noL at e; cases e
theorem RAll.noL (k : ∀ a g, G2 a = some g → (∀ xs, g ≠ .fz (.lst xs)) → (∀ l ns, g ≠ .pool l ns) → G3 a = some g) : ∀ {vs : List V} {ds : List D}, RAll C G2 vs ds → noLL ds = true → RAll C G3 vs ds
  | _, _, .nil, _ => .nil
  | _, _, .cons r t, e => by
    unfold noLL at e
    rw [Bool.and_eq_true] at e
    exact .cons (R.noL k r e.1) (RAll.noL k t e.2)
end
/-- G1 and lists that are lent -/
structure Lent (G G1 : Gp) (H : Hp) : Prop where
  g : ∀ a g, G a = some g → G1 a = some g
  n : ∀ a g, G1 a = some g → G a = some g ∨ (G a = none ∧ ∃ xs, g = .fz (.lst xs) ∧ H a = some (.lst xs))
  ok : Ok G1 H
theorem Lent.refl (k : Ok G H) : Lent G G H := ⟨fun _ _ h => h, fun _ _ h => .inl h, k⟩
theorem lend : ∀ {vs : List V} {ds : List D} {G1 : Gp}, Lent G G1 H → RVAll C G H vs ds → ∃ G2, Lent G G2 H ∧ (∀ a g, G1 a = some g → G2 a = some g) ∧ RAll C G2 vs ds
  | _, _, _, l, .nil => ⟨_, l, fun _ _ h => h, .nil⟩
  | _, _, G1, l, .cons (v := v) (d := d) r t => by
    have one : ∃ G3, Lent G G3 H ∧ (∀ a g, G1 a = some g → G3 a = some g) ∧ R C G3 v d := by
      rcases r with r | ⟨a, xs, ds, rfl, rfl, h, g, r⟩
      · exact ⟨G1, l, fun _ _ h => h, r.mono l.g⟩
      · cases e : G1 a with
        | some u =>
          rcases l.n a u e with z | ⟨_, ys, rfl, hy⟩
          · rw [g] at z; cases z
          · rw [h] at hy
            cases hy
            exact ⟨G1, l, fun _ _ h => h, .lst e (r.mono l.g)⟩
        | none =>
          refine ⟨updG G1 a (.fz (.lst xs)), ⟨fun b u hb => updG_keep e b u (l.g b u hb), fun b u hb => ?_, l.ok.fzG h e⟩, updG_keep e, .lst updG_same (r.mono fun b u hb => updG_keep e b u (l.g b u hb))⟩
          by_cases z : b = a
          · subst z
            rw [updG_same] at hb
            cases hb
            exact .inr ⟨g, xs, rfl, h⟩
          · rw [updG_ne z] at hb
            exact l.n b u hb
    obtain ⟨G3, l3, k3, r3⟩ := one
    obtain ⟨G2, l2, k2, r2⟩ := lend l3 t
    exact ⟨G2, l2, fun a g h => k2 a g (k3 a g h), .cons (r3.mono k2) r2⟩
/-- what is known behind such a call -/
def backG (G G1 G2 : Gp) : Gp := fun a => match G a with
  | some g => some g
  | none => match G1 a with
    | some _ => none
    | none => match G2 a with
      | some (.fz (.lst _)) => none
      | some (.pool _ _) => none
      | x => x
theorem back_keep {G G1 G2 : Gp} {a : Addr} {g : GO} (h : G2 a = some g) (h1 : ∀ xs, g ≠ .fz (.lst xs)) (h2 : ∀ l ns, g ≠ .pool l ns) (l : Lent G G1 H) (x : ∀ a g, G1 a = some g → G2 a = some g) : backG G G1 G2 a = some g := by
  unfold backG
  cases e : G a with
  | some u =>
    have z := x _ _ (l.g _ _ e)
    rw [h] at z
    exact z.symm
  | none =>
    cases e1 : G1 a with
    | some u =>
      rcases l.n _ _ e1 with z | ⟨_, xs, rfl, _⟩
      · rw [e] at z; cases z
      · have z := x _ _ e1
        rw [h] at z
        cases z
        exact absurd rfl (h1 xs)
    | none =>
      simp only
      rw [h]
      split
      · rename_i xs z
        cases z
        exact absurd rfl (h1 _)
      · rename_i l ns z
        cases z
        exact absurd rfl (h2 _ _)
      · rfl
theorem Ext.back_of {G G1 G2 : Gp} {H H2 : Hp} (l : Lent G G1 H) (x : Ext G1 H G2 H2) (k : Ok G H) : Ext G H (backG G G1 G2) H2 := by
  refine ⟨fun a g h => by unfold backG; rw [h], ⟨fun a g h => ?_⟩, fun a o h g => ?_⟩
  · unfold backG at h
    cases e : G a with
    | some u =>
      have eu : u = g := by rw [e] at h; exact Option.some.inj h
      subst eu
      have z := x.ok.at_ a _ (x.g _ _ (l.g _ _ e))
      cases u with
      | fz o => exact z
      | pool p ns =>
        have z0 : PoolAt H a p ns ∧ G p = some (.fz (.lst (ns.map V.int))) := k.at_ a _ e
        have z1 : PoolAt H2 a p ns ∧ _ := z
        refine ⟨z1.1, ?_⟩
        unfold backG
        rw [z0.2]
    | none =>
      rw [e] at h
      cases e1 : G1 a with
      | some u => rw [e1] at h; cases h
      | none =>
        rw [e1] at h
        simp only at h
        split at h
        · cases h
        · cases h
        · rename_i n1 n2
          have z := x.ok.at_ a g h
          cases g with
          | fz o => exact z
          | pool p ns => exact absurd h (n2 p ns)
  · cases e1 : G1 a with
    | some u =>
      rcases l.n _ _ e1 with z | ⟨_, xs, rfl, hx⟩
      · rw [g] at z; cases z
      · rw [h] at hx
        cases hx
        refine ⟨x.ok.fz (x.g _ _ e1), ?_⟩
        unfold backG
        rw [g]
        simp only
        rw [e1]
    | none =>
      obtain ⟨h1, g1⟩ := x.h a o h e1
      refine ⟨h1, ?_⟩
      unfold backG
      rw [g]
      simp only
      rw [e1]
      simp only
      rw [g1]
end

theorem XR.noL {C : Ctx} {G2 G3 : Gp} {cls : Value} {d : Option Addr} {e : Exn} (k : ∀ a g, G2 a = some g → (∀ xs, g ≠ .fz (.lst xs)) → (∀ l ns, g ≠ .pool l ns) → G3 a = some g) (r : XR C G2 cls d e) (h : noLL e.ds = true) : XR C G3 cls d e := by
  obtain ⟨A, h1, h2, h3, h4⟩ := r
  refine ⟨A, h1, h2, h3, ?_⟩
  rcases h4 with h4 | ⟨dd, vs, e1, e2, e3⟩
  · exact .inl h4
  · exact .inr ⟨dd, vs, e1, k _ _ e2 (fun _ z => by cases z) (fun _ _ z => by cases z), RAll.noL k e3 h⟩
theorem EOk.lent {C : Ctx} {G G1 : Gp} {H : Hp} {E : XK} {P : Exn → Prop} (x : EOk C G H E P) (l : Lent G G1 H) (k : Ok G H) : EOk C G1 H E (fun e => noLL e.ds = true ∧ P e) := fun G' H' cls d e y r p =>
  x (backG G G1 G') H' cls d e (Ext.back_of l y k) (r.noL (fun _ _ h h1 h2 => back_keep h h1 h2 l y.g) p.1) p.2
section
variable {X : Cx} {W : WX} {k : Nat} {f : Addr} {fd : FuncData} {ps : List Str} {x m : Str} {p pos apos : Pos} {e o : Expr} {es : List Expr} {ta : TE} {t : TA} {psp : PSp} {pa : PAx} {po : PX}
/-- written arguments that are looked at, and their number -/
structure LWn (X : Cx) (E : L2.St → XK) (es : List Expr) (ta : TA) (pa : PAx) (n : Nat) : Prop where
  py : PA X es ta
  le : ∀ {δ : Dl} {σ : L2.St} {G : Gp} {H H0 : Hp} {Q : List V → Hp → Prop} {P : List D → Prop} {P2 : Exn → Prop}, Ok G H → SRel (cx X) H0 G H σ δ → EOk (cx X) G H (E σ) P2 → pa δ P P2 →
    (∀ vs ds G' H', vs.length = n → Ext G H G' H' → RVAll (cx X) G' H' vs ds → P ds → Q vs H') → ta σ H Q
theorem lwn_nil {E : L2.St → XK} : LWn X E [] tNil pNil 0 := ⟨pa_nil, fun k s x p q => q _ _ _ _ rfl (.refl k) .nil p⟩
theorem lwn_cons {E : L2.St → XK} {te : TE} {pe : PX} {n : Nat} (he : LV X E e te pe) (ha : LWn X E es t pa n) (hs : starEach (e :: es) X.env = (false, eval e X.env) :: starEach es X.env := by rfl) : LWn X E (e :: es) (tCons te t) (pCons pe pa) (n + 1) :=
  ⟨pa_cons he.py ha.py hs, fun k s x p q => he.le k s x p fun v d G1 H1 y1 r1 p1 => ha.le y1.ok (s.ext y1) (x.ext y1) p1 fun vs ds G2 H2 hn y2 r2 p2 =>
    q _ _ G2 H2 (by rw [List.length_cons, hn]) (y1.trans y2) (.cons (r1.ext y2) r2) p2⟩
def spW (psp : PSp) (ds : List D) (P : D → Prop) (P2 : Exn → Prop) : Prop := psp ds (fun d => noL d = true ∧ P d) (fun e => noLL e.ds = true ∧ P2 e)
def pCallW (psp : PSp) (pa : PAx) : PX := fun δ P P2 => pa δ (fun ds => spW psp ds P P2) P2
theorem callW_le {vs : List V} {ds : List D} {σ : L2.St} {G : Gp} {H : Hp} {Q : VK} {P : D → Prop} {P2 : Exn → Prop} {n : Nat} (hn : vs.length = n) (ok : Ok G H) (r : RVAll (cx X) G H vs ds) (x : EOk (cx X) G H (WE W σ) P2) (p : spW psp ds P P2)
    (q : ∀ v d G' H', Ext G H G' H' → R (cx X) G' v d → P d → Q v H') : liftSp (cx X) psp n vs H Q (WE W σ) := by
  obtain ⟨G2, l, _, r2⟩ := lend (Lent.refl ok) r
  exact ⟨hn, G2, ds, _, _, l.ok, r2, p, fun v d G' H' y r pd => q v d (backG G G2 G') H' (Ext.back_of l y ok) (r.noL (fun _ _ h h1 h2 => back_keep h h1 h2 l y.g) pd.1) pd.2, x.lent l ok⟩
theorem lx_callW (tk : Takes X W) (F : FnOk X.prog X.w X.K X.mg X.base (L2.CX X.prog X.w) k f fd ps (liftSp (cx X) psp ps.length)) (hr : Room k X.A) (hg : Gl X x) (hm : X.mg x = some (.ref f)) (hk : PySem.W.keepIn X.K (.ref f) = true) (hb : Binds X.K fd ps [])
    (ha : LWn X (WE W) (e :: es) t pa ps.length) (hdb : (x == ("__debug__" : Str)) = false := by decide) (he : starEach (e :: es) X.env = (false, eval e X.env) :: starEach es X.env := by rfl) (hpl : (backTo pos (starEach es X.env)).any (·.1) = false := by rfl) :
    LX X (WE W) (.Call (.Name x p) (e :: es) [] pos) (tCallS (liftSp (cx X) psp ps.length) (WE W) t) (pCallW psp pa) :=
  ⟨pe_callS F hr hg hm hk hb (fun σ => passAt tk σ) ha.py hdb he hpl, fun k s x p q => ha.le k s x p fun vs ds G1 H1 hn y1 r1 p1 =>
    callW_le hn y1.ok r1 (x.ext y1) p1 fun v d G' H' y r pd => q v d G' H' (y1.trans y) r pd⟩
def pMakeW (c : Nat) (pi : PSpI) (pa : PAx) : PX := fun δ P P2 => pa δ (fun ds => pi ds (fun fs => noLL fs = true ∧ P (.obj c fs)) (fun e => noLL e.ds = true ∧ P2 e)) P2
theorem makeW_le {c n : Nat} {C : Addr} {pi : PSpI} (hm : X.mg (cname c) = some (.ref C)) {vs : List V} {ds : List D} {σ : L2.St} {G : Gp} {H : Hp} {Q : VK} {P : D → Prop} {P2 : Exn → Prop} (hn : vs.length = n) (ok : Ok G H) (r : RVAll (cx X) G H vs ds) (x : EOk (cx X) G H (WE W σ) P2)
    (p : pi ds (fun fs => noLL fs = true ∧ P (.obj c fs)) (fun e => noLL e.ds = true ∧ P2 e)) (q : ∀ v d G' H', Ext G H G' H' → R (cx X) G' v d → P d → Q v H') {a dx : Addr} (na : H a = none) (nd : H dx = none) (ne : dx ≠ a) :
    liftInit (cx X) c pi (n + 1) (.ref a :: vs) (upd (upd H dx (.own a)) a (.ins C dx [])) (fun v H2 => v = .non ∧ Q (.ref a) H2) (WE W σ) := by
  obtain ⟨G2, l, _, r2⟩ := lend (Lent.refl ok) r
  refine ⟨by rw [List.length_cons, hn], G2, H, a, dx, C, vs, ds, _, _, rfl, rfl, na, nd, ne, hm, l.ok, r2, p, fun vsF dsF dx' G' H' y2 hx gx rF hl pF => ⟨rfl, ?_⟩, x.lent l ok⟩
  have gb : backG G G2 G' a = none := by
    unfold backG
    rw [ok.none_of na]
    simp only
    rw [l.ok.none_of na]
    simp only
    rw [gx]
  have kp : ∀ b g, G' b = some g → (∀ xs, g ≠ .fz (.lst xs)) → (∀ l ns, g ≠ .pool l ns) → backG G G2 G' b = some g := fun _ _ h h1 h2 => back_keep h h1 h2 l y2.g
  exact q (.ref a) (.obj c dsF) (updG (backG G G2 G') a (.fz (.ins C dx' (mkF c vsF)))) H' ((Ext.back_of l y2 ok).share na hx gb) (.obj hm updG_same ((RAll.noL kp rF pF.1).mono (updG_keep gb)) hl) pF.2
theorem lx_makeW {c n : Nat} {C : Addr} {pi : PSpI} (tk : Takes X W) (M : Mk X.K C f) (hm : X.mg (cname c) = some (.ref C)) (F : FnOk X.prog X.w X.K X.mg X.base (L2.CX X.prog X.w) k f fd ps (liftInit (cx X) c pi (n + 1))) (hr : Room (k + 1) X.A) (hg : Gl X (cname c)) (hb : Binds X.K fd ps [])
    (ha : LWn X (WE W) (e :: es) t pa n) (hdb : (cname c == ("__debug__" : Str)) = false := by decide) (he : starEach (e :: es) X.env = (false, eval e X.env) :: starEach es X.env := by rfl) (hpl : (backTo pos (starEach es X.env)).any (·.1) = false := by rfl) :
    LX X (WE W) (.Call (.Name (cname c) p) (e :: es) [] pos) (tMakeS C (liftInit (cx X) c pi (n + 1)) (WE W) t) (pMakeW c pi pa) :=
  ⟨pe_makeS M F hr hg hm hb (fun σ => passAt tk σ) ha.py hdb he hpl, fun {δ σ G H H0 Q P P2} k s x p q => ha.le k s x p fun vs ds G1 H1 hn y r p1 => fun a dx na nd ne =>
    makeW_le hm hn y.ok r (x.ext y) p1 (fun v d G' H' y2 r2 p2 => q v d G' H' (y.trans y2) r2 p2) na nd ne⟩
/-! ### cls(..): the class in a variable -/
def tMakeV (C : Addr) (sp : Sp) (E : L2.St → XK) (tf : TE) (t : TA) : TE := fun σ H Q => tf σ H fun v H1 => v = .ref C ∧ tMakeS C sp E t σ H1 Q
theorem pe_makeV {CX : CXT} {C : Addr} {sp : Sp} {E : L2.St → XK} {tf : TE} (hf : PE X (.Name x p) tf) (M : Mk X.K C f) (F : FnOk X.prog X.w X.K X.mg X.base CX k f fd ps sp) (hr : Room (k + 1) X.A) (hb : Binds X.K fd ps []) (hx : ∀ σ, PassesAt CX X σ (E σ))
    (ha : PA X (e :: es) t) (he : starEach (e :: es) X.env = (false, eval e X.env) :: starEach es X.env := by rfl) (hpl : (backTo pos (starEach es X.env)).any (·.1) = false := by rfl) :
    PE X (.Call (.Name x p) (e :: es) [] pos) (tMakeV C sp E tf t) :=
  ⟨fun pins s σ H Q I h => wpAny_Call_Name_kw (thn (hf.run pins s σ H _ I h) fun u s0 ⟨v, H0, I0, rv, ev, q0⟩ => by
    subst ev
    obtain rfl : u = Value.ref C := rv
    exact PySem.W.callWith_K (h₀ := X.base) I0.ok.mod.kin M.kp (thn (ha.run pos pins s0 σ H0 _ I0 q0) fun us s1 ⟨vs, H1, I1, r, q⟩ => ⟨I1.kIn, run_makeS M F hr hb hx I1 r q⟩) he hpl)⟩
def pMakeV (i c : Nat) (pi : PSpI) (pa : PAx) : PX := fun δ P P2 => match δ[i]? with
  | some (some (.d (.cls c'))) => c' = c ∧ pMakeW c pi pa δ P P2
  | _ => False
theorem lx_makeV (i : Nat) {c n : Nat} {C : Addr} {pi : PSpI} (tk : Takes X W) (M : Mk X.K C f) (hm : X.mg (cname c) = some (.ref C)) (F : FnOk X.prog X.w X.K X.mg X.base (L2.CX X.prog X.w) k f fd ps (liftInit (cx X) c pi (n + 1))) (hr : Room (k + 1) X.A) (hb : Binds X.K fd ps [])
    (ha : LWn X (WE W) (e :: es) t pa n) (hN : X.N[i]? = some x := by rfl) (hv : Vis X.env.scope x := by first | exact Or.inl rfl | exact Or.inr (Or.inl rfl) | exact Or.inr (Or.inr rfl))
    (hd : (x == ("__debug__" : Str)) = false := by decide) (hcd : (x == ("__classdict__" : Str)) = false := by decide) (he : starEach (e :: es) X.env = (false, eval e X.env) :: starEach es X.env := by rfl) (hpl : (backTo pos (starEach es X.env)).any (·.1) = false := by rfl) :
    LX X (WE W) (.Call (.Name x p) (e :: es) [] pos) (tMakeV C (liftInit (cx X) c pi (n + 1)) (WE W) (tVar i) t) (pMakeV i c pi pa) := by
  refine ⟨pe_makeV (pe_var hN hv hd hcd) M F hr hb (fun σ => passAt tk σ) ha.py he hpl, fun {δ σ G H H0 Q P P2} k s x p q => ?_⟩
  unfold pMakeV at p
  split at p
  · rename_i c' ed
    obtain ⟨rfl, p⟩ := p
    obtain ⟨v, ev, r⟩ := s.rvD ed
    cases r with
    | cls h =>
      have z := h.symm.trans hm
      cases z
      exact ⟨_, ev, rfl, ha.le k s x p fun vs ds G1 H1 hn y r p1 => fun a dx na nd ne =>
        makeW_le hm hn y.ok r (x.ext y) p1 (fun v d G' H' y2 r2 p2 => q v d G' H' (y.trans y2) r2 p2) na nd ne⟩
  · exact p.elim
/-! ### C.m(..), m a classmethod -/
theorem code_fnS {CX : CXT} {sp : Sp} {E : L2.St → XK} {pins : List (Addr × Obj)} {σ : L2.St} {H : Hp} {s : Shared} {Q : VK} {us : List Value} {vs : List V} (F : FnOk X.prog X.w X.K X.mg X.base CX k f fd ps sp) (hr : Room k X.A) (hb : Binds X.K fd ps []) (hx : PassesAt CX X σ (E σ)) (I : Inv X pins σ H s) (r : Vals vs us) (h : sp vs H Q (E σ)) :
    codeAny (model X.prog X.w) X.A (.call (.ref f) ⟨us, []⟩) (fun r s' => match r with | .ok (.ret v) => EP X pins σ Q v s' | .ok _ => False | .error e => X.xe e s') s := by
  have hl : us.length = ps.length := (r.length.symm.trans (F.len _ _ _ _ h))
  have b := hb s us I.kIn (by rw [List.append_nil]; exact hl)
  rw [List.append_nil] at b
  refine codeAny_mono (F.run X.A X.stack s H ⟨us, []⟩ us vs Q (E σ) hr I.env0 b r h) fun z s' hq => ?_
  match z, hq with
  | .error e, hq => exact hx pins H s e s' I hq
  | .ok (.ret u), hq => exact I.after hq
def tCMS (C : Addr) (sp : Sp) (E : L2.St → XK) (ta : TE) (t : TA) : TE := fun σ H Q => ta σ H fun v H1 => v = .ref C ∧ t σ H1 fun vs H2 => sp (.ref C :: vs) H2 Q (E σ)
theorem pe_cmS {CX : CXT} {C g pp : Addr} {mc : Value} {sp : Sp} {E : L2.St → XK} {pl : Sem Bool} (he : PE X o ta) (r : ClX.CRead X.K C mc) (c : ClX.CMet X.K C mc m pp f) (F : FnOk X.prog X.w X.K X.mg X.base CX k f fd ps sp) (hr : Room k X.A) (hb : Binds X.K fd ps []) (hx : ∀ σ, PassesAt CX X σ (E σ)) (ha : PA X (e :: es) t)
    (hst : starEach (e :: es) X.env = (false, eval e X.env) :: starEach es X.env := by rfl) (hpl : (backTo pos (starEach es X.env)).any (·.1) = false := by rfl)
    (ht : eval (.Call (.Attribute o m apos) (e :: es) [] pos) X.env = (do
      let ov ← eval o X.env
      standAt apos.atName
      let (f, first) ← holding [ov] (getMethod ov m pl)
      callWith pos f first (backTo pos (starEach (e :: es) X.env)) (backToKw pos (keywordEach [] X.env))) := by rfl) :
    PE X (.Call (.Attribute o m apos) (e :: es) [] pos) (tCMS C sp E ta t) :=
  ⟨fun pins s σ H Q I h => PySem.W.methodCall_KW (pl := pl) (thn (he.run pins s σ H _ I h) fun u s1 ⟨v, H1, I1, rv, ev, q⟩ => by
    subst ev
    obtain rfl : u = Value.ref C := rv
    refine ClX.getmethcm_ok I1 r c fun s2 I2 => ?_
    refine ClX.callwith_cm I2 (ClX.base_none I1 (Nat.le_refl _)) c.fi (thn (ha.run pos _ s2 σ H1 _ I2 q) fun us s3 ⟨vs, H2, I3, rv, q2⟩ => ⟨⟨ClX.pin_at I3, I3.kIn⟩, ?_⟩) hst hpl
    exact thn (wpAny_call (PySem.W.method_call (ClX.pin_at I3) (code_fnS (us := .ref C :: us) (vs := .ref C :: vs) F hr hb (hx σ) I3 (.cons rfl rv) q2))) fun _ _ y => ClX.unpinE y) ht⟩
/-- what the text says of a class method -/
structure CmT (K : PySem.W.Frag) (mgv : Str → Option Value) (c : Nat) (A : Addr) (m : Str) (f : Addr) : Prop where
  mg : mgv (cname c) = some (.ref A)
  rd : ∃ mc pp, ClX.CRead K A mc ∧ ClX.CMet K A mc m pp f
def pCm (c : Nat) (psp : PSp) (pa : PAx) : PX := fun δ P P2 => pa δ (fun ds => spW psp (.cls c :: ds) P P2) P2
theorem lx_cm {c n : Nat} {A : Addr} {pl : Sem Bool} {np : Pos} (tk : Takes X W) (T : CmT X.K X.mg c A m f) (F : FnOk X.prog X.w X.K X.mg X.base (L2.CX X.prog X.w) k f fd ps (liftSp (cx X) psp (n + 1))) (hr : Room k X.A) (hb : Binds X.K fd ps []) (hgx : Gl X (cname c)) (ha : LWn X (WE W) (e :: es) t pa n)
    (hdb : (cname c == ("__debug__" : Str)) = false := by decide) (hst : starEach (e :: es) X.env = (false, eval e X.env) :: starEach es X.env := by rfl) (hpl : (backTo pos (starEach es X.env)).any (·.1) = false := by rfl)
    (ht : eval (.Call (.Attribute (.Name (cname c) np) m apos) (e :: es) [] pos) X.env = (do
      let ov ← eval (.Name (cname c) np) X.env
      standAt apos.atName
      let (f, first) ← holding [ov] (getMethod ov m pl)
      callWith pos f first (backTo pos (starEach (e :: es) X.env)) (backToKw pos (keywordEach [] X.env))) := by rfl) :
    LX X (WE W) (.Call (.Attribute (.Name (cname c) np) m apos) (e :: es) [] pos) (tCMS A (liftSp (cx X) psp (n + 1)) (WE W) (tC (.ref A)) t) (pCm c psp pa) := by
  obtain ⟨mc, pp, cr, cm⟩ := T.rd
  exact ⟨pe_cmS (g := f) (pe_glob hgx T.mg rfl hdb) cr cm F hr hb (fun σ => passAt tk σ) ha.py hst hpl ht, fun k s x p q => ⟨rfl, ha.le k s x p fun vs ds G1 H1 hn y r p1 =>
    callW_le (by rw [List.length_cons, hn]) y.ok (.cons (.inl (.cls T.mg)) r) (x.ext y) p1 fun v d G' H' y2 r2 p2 => q v d G' H' (y.trans y2) r2 p2⟩⟩
/-! ### C.f, a constant of the class -/
structure CvT (K : PySem.W.Frag) (mgv : Str → Option Value) (c : Nat) (A : Addr) (fn : Str) (i : Int) : Prop where
  mg : mgv (cname c) = some (.ref A)
  rd : ∃ mc u, ClX.CRead K A mc ∧ ClX.CVal K A mc fn (.int i) u
theorem lx_cval {E : L2.St → XK} {c : Nat} {A : Addr} {fn : Str} {i : Int} {np : Pos} (T : CvT X.K X.mg c A fn i) (hgx : Gl X (cname c)) (hdb : (cname c == ("__debug__" : Str)) = false := by decide)
    (hb : attributeBase (.Name (cname c) np) fn X.env (eval (.Name (cname c) np) X.env) = eval (.Name (cname c) np) X.env := by rfl) :
    LX X E (.Attribute (.Name (cname c) np) fn pos) (ClX.tCVal X.K (tC (.ref A)) fn) (pC (.int i)) := by
  obtain ⟨mc, u, cr, cv⟩ := T.rd
  exact ⟨ClX.pe_cval (pe_glob hgx T.mg rfl hdb) hb, fun k s x p q => ⟨A, mc, .int i, u, rfl, cr, cv, q _ _ _ _ (.refl k) (.int i) p⟩⟩
/-! ### sum of a list or tuple; sorted of ints -/
def rSumA (K : PySem.W.Frag) : List V → Hp → VK → Prop := fun vs H Q => ∃ a ns, vs = [V.ref a] ∧ (SqL K H a (ns.map V.int) ∨ SqT K H a (ns.map V.int)) ∧ Q (.int (List.sum ns)) H
theorem cr_sumA (hc : X.calm = true) : CallR X (.builtin "sum") (rSumA X.K) := fun pins s σ H vs us Q I r ⟨a, ns, e, h, q⟩ => by
  rcases h with h | h
  · exact cr_sum hc pins s σ H vs us Q I r ⟨a, ns, e, h, q⟩
  · subst e
    obtain ⟨its, rv, p, _⟩ := I.tuple h
    rw [Vals.ref1 r]
    obtain ⟨xs, ex⟩ := rv.ints.allInts.items
    have hn : numsOf (intItems xs).toList = ns := by rw [← ex]; exact rv.ints.numsOf
    rw [nums_intItems] at hn
    have p' : s.heap.IsTuple a (intItems xs) := by rw [← ex]; exact p
    refine PySem.W.ktm_sumG (I.ok.hd hc) p' fun h' tk t' hk => ⟨.int _, H, I.kept hk, ⟨t', ?_⟩, q⟩
    rw [preSum_eq, List.take_of_length_le (by simp), hn]
def fSumA : PFn := fun ds P => match ds with | [d] => (match itemsD d with | some es => (match intsD es with | some ns => P (.int (List.sum ns)) | none => False) | none => False) | _ => False
theorem cl_sumA : CL X (rSumA X.K) fSumA := by
  refine ⟨fun {G H vs ds Q P} k r0 p q => ?_⟩
  unfold fSumA at p
  split at p
  · split at p
    · rename_i es e1
      split at p
      · rename_i ns e2
        obtain ⟨v, rfl, r⟩ := r0.one
        obtain ⟨a, xs, rfl, h, r⟩ := r.items k e1
        rw [intsD_eq e2] at r
        rw [r.int] at h
        exact ⟨_, _, rfl, h, q _ _ _ _ (.refl k) (.int _) p⟩
      · exact p.elim
    · exact p.elim
  · exact p.elim
def fSortI : PFn := fun ds P => match ds with | [.lst es] => (match intsD es with | some ns => ∀ ns' : List Int, ns'.Perm ns → ns'.Pairwise (· ≤ ·) → P (.lst (ns'.map .int)) | none => False) | _ => False
theorem cl_sortI : CLo X (rSortedI X.K) fSortI := by
  refine ⟨fun {G H vs ds Q P} k r0 p q => ?_⟩
  unfold fSortI at p
  split at p
  · split at p
    · rename_i ns e
      obtain ⟨v, rfl, r⟩ := r0.one
      obtain ⟨a, xs, rfl, h, r⟩ := r.lst k
      rw [intsD_eq e] at r
      rw [r.int] at h
      exact ⟨_, _, rfl, SqL.of h, fun ns' l hp ho hl => q l _ _ G _ (Ext.new k hl) hl upd_same (k.none_of hl) (RAll.ints _) (p ns' hp ho)⟩
    · exact p.elim
  · exact p.elim
end
/-! ### x == y by an own __eq__ -/
section
variable {X : Cx} {k : Nat} {f : Addr} {fd : FuncData} {ps : List Str} {psp : PSp}
def rEqO (K : PySem.W.Frag) (A : Addr) (sp : Sp) : R2 := fun x y H Q => ∃ (a dx : Addr) (fs : List (Str × V)) (t : Value), x = .ref a ∧ H a = some (.ins A dx fs) ∧ TyX K H y t ∧ PySem.W.notFirst K A t = true ∧ sp [x, y] H (fun v H' => (∃ b, v = .bl b) ∧ Q v H') E0
theorem op_eqO {A : Addr} {sp : Sp} (F : FnOk X.prog X.w X.K X.mg X.base (L2.CX X.prog X.w) k f fd ps sp) (hr : Room k X.A) (hs : PySem.W.findIn X.K (.ref A) "__eq__" = some (some (.ref f))) (hf : PySem.W.isFn X.K (.ref f) = true) (hb : Binds X.K fd ps []) : OpR X (compareOp .Eq) (rEqO X.K A sp) :=
  fun pins s σ H x y v u Q I rx ry ⟨a, dx, fs, t, ex, ha, ty, hn, q⟩ => by
    subst ex
    obtain rfl : v = Value.ref a := rx
    obtain ⟨mA, J, _⟩ := ins_get I.hok ha
    obtain ⟨od, J, _⟩ := J.look
    obtain ⟨P, Z, p, hx⟩ := kit_of I ry ty
    obtain ⟨m, hF⟩ := I.fr
    refine PySem.W.cmp_K (op := .Eq) (tb := t) hr.units0 hF I.ok.mod.kin J (Z.ty _ _ I.kIn p) hn hs hf ?_
    refine thn (run_fnS (E := fun _ => E0) (us := [.ref a, u]) (vs := [.ref a, y]) F hr hb (fun pins H s e s' I c => passL pins σ H s e s' I c) I (.cons rfl (.cons ry .nil)) q) fun w s' ⟨z, H', I', rz, ⟨b, ez⟩, q'⟩ => ?_
    subst ez
    cases rz
    exact ⟨.bl b, H', I', rfl, q'⟩
/-- what the text says of it: it raises nothing -/
structure EqT (K : PySem.W.Frag) (mgv : Str → Option Value) (c : Nat) (A f : Addr) (cs : List Nat) : Prop where
  is : IsC K mgv c A cs
  fi : PySem.W.findIn K (.ref A) "__eq__" = some (some (.ref f))
  fn : PySem.W.isFn K (.ref f) = true
  ty : ∀ t ∈ ["NoneType", "bool", "int", "str", "list", "tuple"], PySem.W.notFirst K A (.type t) = true
  own : ∀ c' ∈ cs, ∀ A', mgv (cname c') = some (.ref A') → PySem.W.notFirst K A (.ref A') = true
def fEqO (c : Nat) (cs : List Nat) (psp : PSp) : POp := fun x y P => match x with
  | .obj c' fs => c' = c ∧ (isCl c cs y).isSome = true ∧ noL y = true ∧ psp [.obj c' fs, y] (fun d => ∃ b, d = .bl b ∧ P (.bl b)) (fun _ => False)
  | _ => False
theorem ol_eqO {c : Nat} {A : Addr} {cs : List Nat} (T : EqT X.K X.mg c A f cs) : OL X (rEqO X.K A (liftSp (cx X) psp 2)) (fEqO c cs psp) := by
  refine ⟨fun {G H x y dx dy Q P} k rx ry p q => ?_⟩
  unfold fEqO at p
  split at p
  · rename_i c' fs
    obtain ⟨rfl, hi, hl, p⟩ := p
    have ry' : R (cx X) G y dy := ry.scal fun ds z => by rw [z] at hl; unfold noL at hl; cases hl
    have rx' := rx.scal fun ds z => by cases z
    cases rx' with
    | @obj a A' ddx vs _ _ hm hg rv hlen =>
      have rx0 : R (cx X) G (.ref a) (.obj c' fs) := .obj hm hg rv hlen
      have eA : A' = A := by
        have z := hm.symm.trans T.is.mg
        cases z
        rfl
      subst eA
      have tt : ∃ t, TyX X.K H y t ∧ PySem.W.notFirst X.K A' t = true := by
        cases ed : tyD dy with
        | some t => exact ⟨_, ty_RV k ry ed, T.ty t (tyD_mem ed)⟩
        | none =>
          cases dy with
          | obj c2 gs =>
            have hc : cs.contains c2 = true := by
              unfold isCl at hi
              split at hi
              · rename_i c3 gs3 e3
                cases e3
                split at hi
                · assumption
                · cases hi
              · rename_i n
                exact absurd rfl (n c2 gs)
            cases ry' with
            | obj hm2 hg2 rv2 hl2 =>
              obtain ⟨h1, h2, h3, h4⟩ := T.is.own _ (by simpa using hc) _ hm2
              exact ⟨_, .base (.ins (k.fz hg2) h2 h3 T.is.hn T.is.ht h4), T.own _ (by simpa using hc) _ hm2⟩
          | pool => cases hi
          | pin _ _ => cases hi
          | cls _ => cases hi
          | non => cases ed
          | bl _ => cases ed
          | int _ => cases ed
          | str _ => cases ed
          | lst _ => cases ed
          | tup _ => cases ed
          | script _ => cases ed
      obtain ⟨t, t1, t2⟩ := tt
      refine ⟨a, _, _, t, rfl, k.fz hg, t1, t2, rfl, G, _, _, fun _ => False, k, .cons rx0 (.cons ry' .nil), p, fun v d G' H' y2 r2 ⟨b, eb, p2⟩ => ?_, fun _ _ _ _ _ _ _ z => z⟩
      subst eb
      cases r2
      exact ⟨⟨b, rfl⟩, q _ _ _ _ y2 (.bl b) p2⟩
  · exact p.elim
end
end Pu
set_option Elab.async false
set_option linter.all false
set_option maxRecDepth 100000
set_option maxHeartbeats 2000000
set_option autoImplicit false
namespace Pu
open PySem PySem.Spec PyProof.Rows L2
section
variable {P : Program} {w : World} {K : PySem.W.Frag} {mg : Str → Option Value} {base : Heap}
/-- a promise that nobody asks for -/
theorem fn_never {k n : Nat} {f : Addr} {fd : FuncData} {ps : List Str} : FnOk P w K mg base (L2.CX P w) k f fd ps (liftSp ⟨K, mg⟩ (fun _ _ _ => False) n) :=
  ⟨fun _ _ _ _ ⟨_, _, _, _, _, _, _, p, _⟩ => p.elim, fun _ _ _ _ _ _ _ _ _ _ _ _ _ ⟨_, _, _, _, _, _, _, p, _⟩ => p.elim⟩
end
theorem lx_gint {X : Cx} {E : L2.St → XK} {x : Str} {i : Int} {pos : Pos} (hg : Gl X x) (hm : ∃ t, X.mg x = some (.int i t)) (hd : (x == ("__debug__" : Str)) = false := by decide) : LX X E (.Name x pos) (tC (.int i)) (pC (.int i)) := by
  obtain ⟨t, h⟩ := hm
  exact lx_glob (v := .int i) hg h ⟨t, rfl⟩ (fun _ => .int i) hd
def pSlo (pe : PX) (pl ph : POx) : PX := fun δ P P2 => pe δ (fun x => pl δ (fun lo => ph δ (fun hi => match x with | .lst ds => P (.lst (cutD ds lo hi)) | _ => False) P2) P2) P2
end Pu
set_option Elab.async false
set_option linter.all false
set_option maxRecDepth 100000
set_option maxHeartbeats 2000000
set_option autoImplicit false
namespace Pu
open PySem PySem.Spec PyProof.Rows L2
/-! # The ends -/
def spLaw (K : PySem.W.Frag) : Sp := fun vs H Q _ => ∃ (a : Addr) (ns : List Int), vs = [.ref a] ∧ SqL K H a (ns.map V.int) ∧ ns.length ≤ 63 ∧ ∀ H', Q (.bl true) H'
theorem law_imp {P : Program} {w : World} {K : PySem.W.Frag} {mg : Str → Option Value} {base : Heap} {k : Nat} {f : Addr} {fd : FuncData} {ps : List Str} {psp : PSp} (F : FnOk P w K mg base (L2.CX P w) k f fd ps (liftSp ⟨K, mg⟩ psp 1))
    (h : ∀ ns : List Int, ns.length ≤ 63 → psp [.script ns] (fun d => d = .bl true) (fun _ => False)) : FnOk P w K mg base (L2.CX P w) k f fd ps (spLaw K) := by
  refine F.imp fun vs H Q E ⟨a, ns, ev, hs, hl, q⟩ => ?_
  subst ev
  have key : ∃ G : Gp, Ok G H ∧ LsG ⟨K, mg⟩ G a (ns.map V.int) := by
    rcases hs with (hs | ⟨o, hs⟩) | hs
    · refine ⟨updG (fun _ => none) a (.fz (.lst (ns.map V.int))), ⟨fun b g hb => ?_⟩, .inl updG_same⟩
      by_cases e : b = a
      · rw [e, updG_same] at hb
        cases hb
        rw [e]
        exact hs
      · rw [updG_ne e] at hb
        cases hb
    · refine ⟨updG (fun _ => none) a (.fz (.frz o (.lst (ns.map V.int)))), ⟨fun b g hb => ?_⟩, .inr (.inl ⟨o, updG_same⟩)⟩
      by_cases e : b = a
      · rw [e, updG_same] at hb
        cases hb
        rw [e]
        exact hs
      · rw [updG_ne e] at hb
        cases hb
    · exact ⟨fun _ => none, ⟨fun _ _ hb => by cases hb⟩, .inr (.inr hs)⟩
  obtain ⟨G, ok, r⟩ := key
  refine ⟨rfl, G, [.script ns], _, _, ok, .cons (.script r) .nil, h ns hl, fun v d G' H' _ rv ed => ?_, fun _ _ _ _ _ _ _ z => z.elim⟩
  subst ed
  cases rv
  exact q _
theorem cx_none {P : Program} {w : World} (H : Hp) (s : Shared) (e : Value) (s' : Shared) (h : L2.CX P w [] H s (fun _ _ _ => False) e s') : False := by
  obtain ⟨_, _, _, _, _, _, _, _, _, _, _, _, z⟩ := h
  exact z
/-! ### putting facts together -/
theorem at1 {mg : Str → Option Value} {x : Str} {A : Addr} {P : Addr → Prop} (h : mg x = some (.ref A)) (p : P A) : ∀ A', mg x = some (.ref A') → P A' := fun A' h' => by
  cases h.symm.trans h'
  exact p
theorem all6 {P : String → Prop} (h0 : P "NoneType") (h1 : P "bool") (h2 : P "int") (h3 : P "str") (h4 : P "list") (h5 : P "tuple") : ∀ t ∈ ["NoneType", "bool", "int", "str", "list", "tuple"], P t := fun t h => by
  simp only [List.mem_cons, List.not_mem_nil, or_false] at h
  rcases h with rfl | rfl | rfl | rfl | rfl | rfl <;> assumption
theorem lookup_mem {c j : Nat} : ∀ {l : List (Nat × Nat)}, l.lookup c = some j → (c, j) ∈ l
  | [], h => by cases h
  | (a, b) :: l, h => by
    unfold List.lookup at h
    split at h
    · rename_i e
      cases h
      have : c = a := by simpa using e
      subst this
      exact List.mem_cons_self
    · exact List.mem_cons_of_mem _ (lookup_mem h)
theorem exm_of {K : PySem.W.Frag} {A C : Addr} {b : Bool} (h1 : PySem.W.subIn K (.ref C) (.type "BaseException") = some true) (h2 : PySem.W.hasDictIn K C = true) (h3 : PySem.W.typeIn K (.ref C) = some (.type "type")) (h4 : PySem.W.subIn K (.ref A) (.ref C) = some b) :
    PySem.W.exmOne K (.ref A) (.ref C) = some b := PySem.W.exm_ref h1 h2 h3 h4
end Pu
set_option Elab.async false
set_option linter.all false
set_option maxRecDepth 100000
set_option maxHeartbeats 2000000
set_option autoImplicit false
namespace Pu
open PySem PySem.Spec PyProof.Rows L2
/-! # Further rules -/
/-! ### an expression that changes a list of one's own -/
abbrev PM := Dl → (D → Dl → Prop) → (Exn → Prop) → Prop
structure LXm (X : Cx) (E : L2.St → XK) (e : Expr) (te : TE) (pe : PM) : Prop where
  py : PE X e te
  le : ∀ {G0 : Gp} {H0 : Hp} {δ : Dl} {σ : L2.St} {G : Gp} {H : Hp} {Q : VK} {P : D → Dl → Prop} {P2 : Exn → Prop}, Stt (cx X) G0 H0 σ δ G H → EOk (cx X) G H (E σ) P2 → pe δ P P2 →
    (∀ v d δ' G' H', Stt (cx X) G0 H0 σ δ' G' H' → R (cx X) G' v d → P d δ' → Q v H') → te σ H Q
section
variable {X : Cx} {E : L2.St → XK} {sn : Str} {p1 p apos pos : Pos} {te : TE} {pe : PX} {e : Expr}
def popMK (ds : List D) (F : D → List D → Prop) : D → Prop := fun d => match d with
  | .int k => -(2 ^ 63) ≤ k ∧ k < 2 ^ 63 ∧ (match ixN ds.length k with | some j => (match ds[j]? with | some x => F x (ds.eraseIdx j) | none => False) | none => False)
  | _ => False
def pmPop (i : Nat) (pe : PX) : PM := fun δ P P2 => match δ[i]? with
  | some (some (.own oa ds)) => pe δ (popMK ds fun x es => P x (δ.set i (some (.own oa es)))) P2
  | _ => False
theorem lxm_popAt (i : Nat) (he : LX X E e te pe) (hN : X.N[i]? = some sn := by rfl) (hv : Vis X.env.scope sn := by first | exact Or.inl rfl | exact Or.inr (Or.inl rfl) | exact Or.inr (Or.inr rfl)) (hd : (sn == ("__debug__" : Str)) = false := by decide) (hcd : (sn == ("__classdict__" : Str)) = false := by decide)
    (hbase : attributeBase (.Name sn p1) "pop" X.env (eval (.Name sn p1) X.env) = eval (.Name sn p1) X.env := by rfl)
    (hfew : ((backTo p (starEach [e] X.env)).all (fun x => !x.1) && (backToKw p (keywordEach [] X.env)).all (fun x => x.1.isSome)
      && decide ([e].length + ([] : List Keyword).length + (if ([] : List Keyword).isEmpty then 0 else 1) < 30)) = true := by rfl)
    (hline : (apos.endLine == p.line) = true := by rfl) (hs : starEach [e] X.env = (false, eval e X.env) :: starEach [] X.env := by rfl) (hplain : (backTo p (starEach [] X.env)).any (·.1) = false := by rfl) :
    LXm X E (.Call (.Attribute (.Name sn p1) "pop" apos) [e] [] p) (tBM X.K "list" rPopAt (tVar i) (tCons te tNil)) (pmPop i pe) := by
  refine ⟨pe_bm PySem.F.plainAttrs_list PySem.F.slot_list_pop PySem.F.type_list_pop mt_popAt (pe_var hN hv hd hcd) (pa_cons he.py pa_nil hs) hbase hfew hline hs hplain, fun {G0 H0 δ σ G H Q P P2} t en p q0 => ?_⟩
  unfold pmPop at p
  split at p
  · rename_i oa ds ed
    obtain ⟨a, xs, ev, hoa, h, g, n, r⟩ := t.sr.own ed
    refine ⟨_, ev, tyV_lst h, he.le t.ok t.sr en p fun v d G' H' y rd q => ?_⟩
    obtain ⟨h', g'⟩ := y.h _ _ h g
    have t1 := t.step y
    unfold popMK at q
    split at q
    · obtain rfl := rd.intR
      obtain ⟨q1, q2, q⟩ := q
      split at q
      · rename_i j ej
        split at q
        · rename_i x ex
          rw [← r.length] at ej
          obtain ⟨e1, e2⟩ := ixN_seq' ej
          obtain ⟨v, ev2, rv⟩ := r.get ex
          have z : xs[j] = v := by rw [List.getElem?_eq_getElem e2] at ev2; exact Option.some.inj ev2
          refine ⟨a, xs, _, j, xs[j], rfl, rfl, h', q1, q2, e1, List.getElem?_eq_getElem e2, ?_⟩
          rw [z]
          exact q0 _ _ _ _ _ ⟨t1.ext.write n g', t1.sr.write ed ev ((r.mono y.g).eraseIdx j)⟩ (rv.mono y.g) q
        · exact q.elim
      · exact q.elim
    · exact q.elim
  · exact p.elim
/-- y = e -/
def pAsgM (pe : PM) (i : Nat) : PSx := fun P δ => pe δ (fun d δ' => P.nx (δ'.set i (some (.d d)))) (P.ex δ)
theorem ls_setM (i : Nat) {x : Str} {pe : PM} {pos pos' : Pos} (hN : X.N.Nodup) (he : LXm X E e te pe) (hi : X.N[i]? = some x := by rfl) (hx : Loc X.env.scope x := by first | exact Or.inl rfl | exact Or.inr rfl)
    (hs : swapsWith e (some (.Name x pos')) pos.line X.env = pure false := by rfl) (hf : X.fn x = true ∨ X.env.scope.names.lookup x = some .local := by first | exact .inl rfl | exact .inr rfl) :
    LS X E (.Assign [.Name x pos'] e pos) (tAsg te (gName i)) (pAsgM pe i) :=
  ⟨by first | exact ps_set hN hi hx he.py hs hf | exact ps_set hN hi hx he.py hs, fun en t p => he.le t (en.ex t) p fun v d δ' G' H' t' r q => en.nx ⟨t'.ext, t'.sr.setD r⟩ q⟩
/-- ys.append(e) -/
def pAppM (i : Nat) (pe : PM) : PSx := fun P δ => match δ[i]? with
  | some (some (.own _ _)) => pe δ (fun d δ' => match δ'[i]? with
      | some (some (.own oa ds)) => ds.length < szl ∧ P.nx (δ'.set i (some (.own oa (ds ++ [d]))))
      | _ => False) (P.ex δ)
  | _ => False
theorem ls_appM (i : Nat) {pe : PM} (he : LXm X E e te pe) (hN : X.N[i]? = some sn := by rfl) (hv : Vis X.env.scope sn := by first | exact Or.inl rfl | exact Or.inr (Or.inl rfl) | exact Or.inr (Or.inr rfl)) (hd : (sn == ("__debug__" : Str)) = false := by decide) (hcd : (sn == ("__classdict__" : Str)) = false := by decide)
    (hbase : attributeBase (.Name sn p1) "append" X.env (eval (.Name sn p1) X.env) = eval (.Name sn p1) X.env := by rfl)
    (hfew : ((backTo p (starEach [e] X.env)).all (fun x => !x.1) && (backToKw p (keywordEach [] X.env)).all (fun x => x.1.isSome)
      && decide ([e].length + ([] : List Keyword).length + (if ([] : List Keyword).isEmpty then 0 else 1) < 30)) = true := by rfl)
    (hline : (apos.endLine == p.line) = true := by rfl) (hs : starEach [e] X.env = (false, eval e X.env) :: starEach [] X.env := by rfl) (hplain : (backTo p (starEach [] X.env)).any (·.1) = false := by rfl)
    (hsw : swapsWith (.Call (.Attribute (.Name sn p1) "append" apos) [e] [] p) none pos.line X.env = pure false := by rfl) :
    LS X E (.Expr (.Call (.Attribute (.Name sn p1) "append" apos) [e] [] p) pos) (tDrop (tBM X.K "list" rAppend (tVar i) (tCons te tNil))) (pAppM i pe) := by
  refine ⟨ps_expr (pe_bm PySem.F.plainAttrs_list PySem.F.slot_list_append PySem.F.type_list_append mt_append (pe_var hN hv hd hcd) (pa_cons he.py pa_nil hs) hbase hfew hline hs hplain) hsw, fun {G0 H0 Dn P δ σ G H} en t p => ?_⟩
  unfold pAppM at p
  split at p
  · rename_i oa0 ds0 ed0
    obtain ⟨a0, xs0, ev0, _, h0, _, _, _⟩ := t.sr.own ed0
    refine ⟨_, ev0, tyV_lst h0, he.le t (en.ex t) p fun v d δ' G' H' t' rd q => ?_⟩
    split at q
    · rename_i oa ds ed
      obtain ⟨a, xs, ev, hoa, h, g, n, r⟩ := t'.sr.own ed
      rw [ev0] at ev
      cases ev
      exact ⟨a0, xs, v, rfl, rfl, h, by rw [r.length, sizeLine_eq]; exact q.1, en.nx ⟨t'.ext.write n g, t'.sr.write ed ev0 (r.append (.one rd))⟩ q.2⟩
    · exact q.elim
  · exact p.elim
end
/-! ### a + b by an own __add__ -/
section
variable {X : Cx} {k : Nat} {f : Addr} {fd : FuncData} {ps : List Str} {psp : PSp} {W : WX}
def tAddO (C : Addr) (sp : Sp) (E : L2.St → XK) (ta tb : TE) : TE := fun σ H Q => ta σ H fun x H1 => tb σ H1 fun y H2 => ∃ (a dx : Addr) (fs : List (Str × V)) (b dx' : Addr) (fs' : List (Str × V)),
  x = .ref a ∧ H2 a = some (.ins C dx fs) ∧ y = .ref b ∧ H2 b = some (.ins C dx' fs') ∧ sp [x, y] H2 Q (E σ)
theorem pe_addO {C : Addr} {sp : Sp} {CX : CXT} {E : L2.St → XK} {a b : Expr} {ta tb : TE} {pos : Pos} (ha : PE X a ta) (hb : PE X b tb) (F : FnOk X.prog X.w X.K X.mg X.base CX k f fd ps sp) (hr : Room k X.A) (hs : PySem.W.findIn X.K (.ref C) "__add__" = some (some (.ref f))) (hf : PySem.W.isFn X.K (.ref f) = true) (hc : PySem.W.selfFirst X.K C = true) (hbd : Binds X.K fd ps [])
    (hx : ∀ σ, PassesAt CX X σ (E σ)) : PE X (.BinOp a .Add b pos) (tAddO C sp E ta tb) := by
  refine ⟨fun pins s σ H Q I h => ?_⟩
  refine wpAny_BinOp (binT ha hb I h fun v u s2 x y H2 I2 rx ry q => ?_)
  obtain ⟨a, dx, fs, b, dx', fs', ex, h1, ey, h2, q⟩ := q
  subst ex ey
  obtain rfl : v = Value.ref a := rx
  obtain rfl : u = Value.ref b := ry
  obtain ⟨mA, J, _⟩ := ins_get I2.hok h1
  obtain ⟨od, J, _⟩ := J.look
  obtain ⟨mB, JB, _⟩ := ins_get I2.hok h2
  obtain ⟨odB, JB, _⟩ := JB.look
  obtain ⟨m, hF⟩ := I2.fr
  refine PySem.W.binop_K (op := .Add) hF I2.ok.mod.kin J JB.type hc hs hf ?_
  refine thn (run_fnS (us := [.ref a, .ref b]) (vs := [.ref a, .ref b]) F hr hbd (hx σ) I2 (.cons rfl (.cons rfl .nil)) q) fun w s' ⟨z, H', I', rz, q'⟩ => ?_
  have key : w ≠ .notImplemented := by
    intro e
    subst e
    cases z with
    | int _ => obtain ⟨_, z⟩ := rz; cases z
    | str _ => obtain ⟨_, z⟩ := rz; cases z
    | byt _ => obtain ⟨_, z⟩ := rz; cases z
    | flt _ => obtain ⟨_, z⟩ := rz; cases z
    | _ => cases rz
  unfold PySem.W.CmpBack
  split
  · exact key rfl
  · exact ⟨z, H', I', rz, q'⟩
def pAddO (c : Nat) (psp : PSp) (pa pb : PX) : PX := fun δ P P2 => pa δ (fun x => pb δ (fun y => match x, y with
  | .obj c1 d1, .obj c2 d2 => c1 = c ∧ c2 = c ∧ psp [.obj c1 d1, .obj c2 d2] P P2
  | _, _ => False) P2) P2
structure AddT (K : PySem.W.Frag) (mgv : Str → Option Value) (c : Nat) (A f : Addr) : Prop where
  mg : mgv (cname c) = some (.ref A)
  fi : PySem.W.findIn K (.ref A) "__add__" = some (some (.ref f))
  fn : PySem.W.isFn K (.ref f) = true
  sf : PySem.W.selfFirst K A = true
theorem lx_addO {c : Nat} {A : Addr} {a b : Expr} {ta tb : TE} {pa pb : PX} {pos : Pos} (ha : LX X (WE W) a ta pa) (hb : LX X (WE W) b tb pb) (tk : Takes X W) (T : AddT X.K X.mg c A f) (F : FnOk X.prog X.w X.K X.mg X.base (L2.CX X.prog X.w) k f fd ps (liftSp (cx X) psp 2)) (hr : Room k X.A) (hbd : Binds X.K fd ps []) :
    LX X (WE W) (.BinOp a .Add b pos) (tAddO A (liftSp (cx X) psp 2) (WE W) ta tb) (pAddO c psp pa pb) := by
  refine ⟨pe_addO ha.py hb.py F hr T.fi T.fn T.sf hbd (fun σ => passAt tk σ), fun {δ σ G H H0 Q P P2} k s x p q => ?_⟩
  refine ha.le k s x p fun v d G1 H1 y1 r1 p1 => ?_
  refine hb.le y1.ok (s.ext y1) (x.ext y1) p1 fun u d2 G2 H2 y2 r2 p2 => ?_
  split at p2
  · obtain ⟨rfl, rfl, p2⟩ := p2
    have r1' := r1.mono y2.g
    cases r1' with
    | @obj a A1 dx vs _ _ m1 g1 ra1 l1 =>
      cases r2 with
      | @obj b A2 dx' vs' _ _ m2 g2 ra2 l2 =>
        have e1 := m1.symm.trans T.mg
        cases e1
        have e2 := m2.symm.trans T.mg
        cases e2
        refine ⟨a, dx, _, b, dx', _, rfl, y2.ok.fz g1, rfl, y2.ok.fz g2, ?_⟩
        have hl : [V.ref a, V.ref b].length = 2 := rfl
        exact call_le hl y2.ok (.cons (.obj m1 g1 ra1 l1) (.cons (.obj m2 g2 ra2 l2) .nil)) ((x.ext y1).ext y2) p2 fun v d G' H' y r pd => q v d G' H' ((y1.trans y2).trans y) r pd
  · exact p2.elim
end
end Pu
set_option Elab.async false
set_option linter.all false
set_option maxRecDepth 100000
set_option maxHeartbeats 2000000
set_option autoImplicit true
open PySem PySem.Spec PyProof.Rows
open PySem.SeqAt
namespace Pu
section
variable {prog : Program} {w : World} {A : Around} {E : Value → Shared → Prop} {s : Shared} {K : PySem.W.Frag} {x C f l : Addr} {ox : Obj} {od : Option Obj} {Q : Value → Shared → Prop}
theorem dcl_none (hq : Q .notImplemented s) : wpAny (model prog w) A (call (.builtin "NoneType.__eq__") [.none, .ref x]) Q E s :=
  call_gives F.slot_NoneType_eq_refl rfl F.entry_NoneType_eq (F.args_NoneType_eq_2 _ _) (NoneType___eq___none_ref_0 x) hq
theorem int_dcl (b : Int) (u : Tok) (x dx C : Addr) :
    Meets (Builtin.«int.__eq__» ⟨[.int b u, .ref x], []⟩) (fun _ R s => s.heap.get? x = some (PySem.W.instObj C dx) ∧ R (.ok (.ret .notImplemented)) s) :=
  .of_wp fun prog w A R s h => by obtain ⟨hp, g, d, tk, os⟩ := s; obtain ⟨hl, h⟩ := h; wp_walk using wpAny_load hl; exact ⟨_, rfl, h⟩
theorem list_dcl (l : Addr) (items : Array Value) (n : Nat) (dd : Option Addr) (sl : Array (Option Value)) (x dx C : Addr) :
    Meets (Builtin.«list.__eq__» ⟨[.ref l, .ref x], []⟩) (fun _ R s => s.heap.get? l = some { cls := .type "list", dict := dd, data := .seq items n, slots := sl } ∧ s.heap.get? x = some (PySem.W.instObj C dx) ∧ (∀ M : Model, PySem.W.Looks M s.heap (isSubtype (.ref C) (.type "list")) false) ∧ R (.ok (.ret .notImplemented)) s) :=
  .of_wp fun prog w A R s h => by
    obtain ⟨hl, h1, h2, h⟩ := h
    simp only [Builtin.«list.__eq__»]
    obtain ⟨hp, g, d, tk, os⟩ := s
    wp_walk using wpAny_loadPart' hl, wpAny_loadPart' h1
    refine (h2 _).here ?_
    wp_walk using wpAny_loadPart' hl, wpAny_loadPart' h1
    exact ⟨_, rfl, h⟩
theorem tuple_dcl (l : Addr) (items : Array Value) (n : Nat) (dd : Option Addr) (sl : Array (Option Value)) (x dx C : Addr) :
    Meets (Builtin.«tuple.__eq__» ⟨[.ref l, .ref x], []⟩) (fun _ R s => s.heap.get? l = some { cls := .type "tuple", dict := dd, data := .seq items n, slots := sl } ∧ s.heap.get? x = some (PySem.W.instObj C dx) ∧ (∀ M : Model, PySem.W.Looks M s.heap (isSubtype (.ref C) (.type "tuple")) false) ∧ R (.ok (.ret .notImplemented)) s) :=
  .of_wp fun prog w A R s h => by
    obtain ⟨hl, h1, h2, h⟩ := h
    simp only [Builtin.«tuple.__eq__»]
    obtain ⟨hp, g, d, tk, os⟩ := s
    wp_walk using wpAny_loadPart' hl, wpAny_loadPart' h1
    refine (h2 _).here ?_
    wp_walk using wpAny_loadPart' hl, wpAny_loadPart' h1
    exact ⟨_, rfl, h⟩
theorem cmp_KR {prog : Program} {w : World} {A : Around} {E : Value → Shared → Prop} {s : Shared} {K : PySem.W.Frag} {x C f : Addr} {ox : Obj} {od : Option Obj} {Q : Value → Shared → Prop} {a : Value} {T id : String} (hu : A.units < cLine) (X : K.In s.heap) (I : PySem.W.InstAt s.heap x ox C od) (ta : s.TypeIs a T)
    (hsub : PySem.W.subIn K (.ref C) (.type T) = some false) (hs : PySem.W.findIn K (.ref C) "__eq__" = some (some (.ref f))) (hf : PySem.W.isFn K (.ref f) = true) (hsl : Slot T "__eq__" id)
    (hd : ∀ Q' : Value → Shared → Prop, Q' .notImplemented s → wpAny (model prog w) A (call (.builtin id) [a, .ref x]) Q' E s)
    (h : wpAny (model prog w) A (call (.ref f) [.ref x, a]) (PySem.W.CmpBack Q) E s) : wpAny (model prog w) A (richCompare .Eq a (.ref x)) Q E s := by
  have one : wpAny (model prog w) A (tryCompare (.ref x) "__eq__" a) (fun r s' => ∃ v, r = some v ∧ Q v s') E s := by
    unfold tryCompare
    refine wpAny_bind (PySem.W.ifBound_K X I hs hf (wpAny_mono h (fun v s' hv => ?_) fun _ _ e => e))
    cases v <;> first | exact hv.elim | exact wpAny_pure ⟨_, rfl, hv⟩
  rcases hi : cmpInfo CmpOp.Eq with ⟨sym, f', r⟩
  have e1 : f' = "__eq__" := by cases hi; rfl
  have e2 : r = "__eq__" := by cases hi; rfl
  simp only [richCompare, hi, ta.oneThing_none, e1, e2]
  try with_reducible refine wpAny_holding ?_
  refine wpAny_bind (wpAny_cRoomFor_or (.inr hu) ?_)
  refine wpAny_bind (wpAny_typeOf ta (wpAny_bind (I.type.here ?_)))
  have hne : (Value.type T != Value.ref C) = true := by simp
  simp only [hne, if_true]
  refine wpAny_bind ((PySem.W.looks_subIn X hsub).here ?_)
  simp only [Bool.false_eq_true, if_false, Bool.not_false, if_true]
  refine wpAny_bind (m := tryCompare a _ (.ref x)) (wpAny_tryCompare_declines ta hsl (hd _ ⟨rfl, ?_⟩))
  refine wpAny_bind (m := tryCompare (.ref x) _ a) (wpAny_mono one (fun r s1 z => ?_) fun _ _ e => e)
  obtain ⟨v, rfl, hq⟩ := z
  exact wpAny_pure hq
theorem dcl_int {prog : Program} {w : World} {A : Around} {E : Value → Shared → Prop} {s : Shared} {x dx C : Addr} (b : Int) (u : Tok) (hx : s.heap.get? x = some (PySem.W.instObj C dx)) (Q' : Value → Shared → Prop) (hq : Q' .notImplemented s) : wpAny (model prog w) A (call (.builtin "int.__eq__") [.int b u, .ref x]) Q' E s :=
  call_meets F.slot_int_eq (typeIs_int s b u) F.entry_int_eq (F.args_int_eq_2 _ _) (int_dcl b u x dx C) ⟨hx, hq⟩
theorem dcl_list {prog : Program} {w : World} {A : Around} {E : Value → Shared → Prop} {s : Shared} {K : PySem.W.Frag} {x dx C l : Addr} {items : Array Value} (X : K.In s.heap) (hl : s.heap.IsList l items) (hx : s.heap.get? x = some (PySem.W.instObj C dx))
    (hsub : PySem.W.subIn K (.ref C) (.type "list") = some false) (Q' : Value → Shared → Prop) (hq : Q' .notImplemented s) : wpAny (model prog w) A (call (.builtin "list.__eq__") [.ref l, .ref x]) Q' E s := by
  obtain ⟨⟨cls, dd, data, sl⟩, ho, hc, n, hd⟩ := id hl
  simp only at hc hd
  subst hc hd
  exact call_meets F.slot_list_eq ⟨_, ho, rfl⟩ F.entry_list_eq (F.args_list_eq_2 _ _) (list_dcl l items n dd sl x dx C) ⟨ho, hx, fun M => PySem.W.looks_subIn X hsub, hq⟩
theorem dcl_tuple {prog : Program} {w : World} {A : Around} {E : Value → Shared → Prop} {s : Shared} {K : PySem.W.Frag} {x dx C l : Addr} {items : Array Value} (X : K.In s.heap) (hl : s.heap.IsTuple l items) (hx : s.heap.get? x = some (PySem.W.instObj C dx))
    (hsub : PySem.W.subIn K (.ref C) (.type "tuple") = some false) (Q' : Value → Shared → Prop) (hq : Q' .notImplemented s) : wpAny (model prog w) A (call (.builtin "tuple.__eq__") [.ref l, .ref x]) Q' E s := by
  obtain ⟨⟨cls, dd, data, sl⟩, ho, hc, n, hd⟩ := id hl
  simp only at hc hd
  subst hc hd
  exact call_meets F.slot_tuple_eq ⟨_, ho, rfl⟩ F.entry_tuple_eq (F.args_tuple_eq_2 _ _) (tuple_dcl l items n dd sl x dx C) ⟨ho, hx, fun M => PySem.W.looks_subIn X hsub, hq⟩
end
end Pu

set_option autoImplicit false

namespace Pu
open PySem PySem.Spec PyProof.Rows L2
/-! ### y == x where x has an own __eq__ and y is no object -/
/-- values whose own == hands the question on -/
inductive Dcl (K : PySem.W.Frag) (H : Hp) : V → String → Prop where
  | non : Dcl K H .non "NoneType"
  | int (i : Int) : Dcl K H (.int i) "int"
  | lst {a : Addr} {xs : List V} (e : H a = some (.lst xs)) : Dcl K H (.ref a) "list"
  | tup {a : Addr} {o : Obj} {xs : List V} (e : H a = some (.frz o (.tup xs))) : Dcl K H (.ref a) "tuple"
  | kTup {a : Addr} {o : Obj} {its : Array Value} {n : Nat} (e : K.lookup a = some o) (c : o.cls = .type "tuple") (d : o.data = .seq its n) : Dcl K H (.ref a) "tuple"
section
variable {X : Cx} {k : Nat} {f : Addr} {fd : FuncData} {ps : List Str} {psp : PSp}
def rEqR (K : PySem.W.Frag) (A : Addr) (sp : Sp) : R2 := fun x y H Q => ∃ (a dx : Addr) (fs : List (Str × V)) (t : String), y = .ref a ∧ H a = some (.ins A dx fs) ∧ Dcl K H x t ∧ PySem.W.subIn K (.ref A) (.type t) = some false ∧ sp [y, x] H (fun v H' => (∃ b, v = .bl b) ∧ Q v H') E0
theorem op_eqR {A : Addr} {sp : Sp} (Fo : FnOk X.prog X.w X.K X.mg X.base (L2.CX X.prog X.w) k f fd ps sp) (hr : Room k X.A) (hs : PySem.W.findIn X.K (.ref A) "__eq__" = some (some (.ref f))) (hf : PySem.W.isFn X.K (.ref f) = true) (hb : Binds X.K fd ps []) : OpR X (compareOp .Eq) (rEqR X.K A sp) :=
  fun pins s σ H x y u v Q I rx ry ⟨a, dx, fs, t, ey, ha, ty, hn, q⟩ => by
    subst ey
    obtain rfl : v = Value.ref a := ry
    have ho : s.heap.get? a = some (PySem.W.instObj A dx) := (show ObjOk X.prog X.w H s.heap a (.ins A dx fs) from I.hok a _ ha).2.2.2.1
    obtain ⟨mA, J, _⟩ := ins_get I.hok ha
    obtain ⟨od, J, _⟩ := J.look
    have go : ∀ {id : String}, s.TypeIs u t → Slot t "__eq__" id → (∀ Q' : Value → Shared → Prop, Q' .notImplemented s → wpAny (model X.prog X.w) X.A (call (.builtin id) [u, .ref a]) Q' X.xe s) → wpAny (model X.prog X.w) X.A (compareOp .Eq u (.ref a)) (EP X pins σ Q) X.xe s := fun ta hsl hd => by
      refine cmp_KR hr.units0 I.kIn J ta hn hs hf hsl hd ?_
      refine thn (run_fnS (E := fun _ => E0) (us := [.ref a, u]) (vs := [.ref a, x]) Fo hr hb (fun pins H s e s' I c => passL pins σ H s e s' I c) I (.cons rfl (.cons rx .nil)) q) fun w s' ⟨z, H', I', rz, ⟨b, ez⟩, q'⟩ => ?_
      subst ez
      cases rz
      exact ⟨.bl b, H', I', rfl, q'⟩
    cases ty with
    | non =>
      cases (show u = Value.none from rx)
      exact go rfl F.slot_NoneType_eq_refl fun Q' hq => dcl_none hq
    | int i =>
      obtain ⟨t, z⟩ := (show ∃ t, u = Value.int i t from rx)
      cases z
      exact go (typeIs_int s i t) F.slot_int_eq fun Q' hq => dcl_int i t ho Q' hq
    | @lst b xs e =>
      cases (show u = Value.ref b from rx)
      obtain ⟨_, its, n, _, h1⟩ := (show ObjOk X.prog X.w H s.heap b (.lst xs) from I.hok b _ e)
      exact go ⟨_, h1, rfl⟩ F.slot_list_eq fun Q' hq => dcl_list I.kIn (items := its.toArray) ⟨_, h1, rfl, n, rfl⟩ ho hn Q' hq
    | @tup b o xs e =>
      cases (show u = Value.ref b from rx)
      obtain ⟨_, _, its, _, h2⟩ := (show ObjOk X.prog X.w H s.heap b (.frz o (.tup xs)) from I.hok b _ e)
      have h2' := h2
      obtain ⟨o', h3, h4, _⟩ := h2
      exact go ⟨o', h3, h4⟩ F.slot_tuple_eq fun Q' hq => dcl_tuple I.kIn (items := its.toArray) h2' ho hn Q' hq
    | @kTup b o its n e c d =>
      cases (show u = Value.ref b from rx)
      exact go ⟨o, I.kIn b o e, c⟩ F.slot_tuple_eq fun Q' hq => dcl_tuple I.kIn (items := its) ⟨o, I.kIn b o e, c, n, d⟩ ho hn Q' hq
theorem op_eqA {A : Addr} {sp : Sp} (F : FnOk X.prog X.w X.K X.mg X.base (L2.CX X.prog X.w) k f fd ps sp) (hr : Room k X.A) (hs : PySem.W.findIn X.K (.ref A) "__eq__" = some (some (.ref f))) (hf : PySem.W.isFn X.K (.ref f) = true) (hb : Binds X.K fd ps []) : OpR X (compareOp .Eq) (fun x y H Q => rEqO X.K A sp x y H Q ∨ rEqR X.K A sp x y H Q) :=
  fun pins s σ H x y u v Q I rx ry z => z.elim (op_eqO F hr hs hf hb pins s σ H x y u v Q I rx ry) (op_eqR F hr hs hf hb pins s σ H x y u v Q I rx ry)
structure EqS (K : PySem.W.Frag) (A : Addr) : Prop where
  sb : ∀ t ∈ ["NoneType", "bool", "int", "str", "list", "tuple"], PySem.W.subIn K (.ref A) (.type t) = some false
/-- operands that are given on: they stand -/
structure OLX (X : Cx) (r : R2) (f : POp) : Prop where
  le : ∀ {G : Gp} {H : Hp} {x y : V} {dx dy : D} {Q : VK} {P : D → Prop}, Ok G H → R (cx X) G x dx → R (cx X) G y dy → f dx dy P →
    (∀ v d G' H', Ext G H G' H' → R (cx X) G' v d → P d → Q v H') → r x y H Q
theorem opx_le {E : L2.St → XK} {r : R2} {f : POp} {a b : Expr} {ta tb : TE} {pa pb : PX} (ol : OLX X r f) (ha : LX X E a ta pa) (hb : LX X E b tb pb) {δ : Dl} {σ : L2.St} {G : Gp} {H H0 : Hp} {Q : VK} {P : D → Prop} {P2 : Exn → Prop}
    (k : Ok G H) (s : SRel (cx X) H0 G H σ δ) (x : EOk (cx X) G H (E σ) P2) (p : pOp f pa pb δ P P2) (q : ∀ v d G' H', Ext G H G' H' → R (cx X) G' v d → P d → Q v H') : tOp r ta tb σ H Q := by
  refine ha.le k s x p fun v d G1 H1 y1 r1 p1 => ?_
  refine hb.le y1.ok (s.ext y1) (x.ext y1) p1 fun u d2 G2 H2 y2 r2 p2 => ?_
  exact ol.le y2.ok (r1.mono y2.g) r2 p2 fun w d3 G3 H3 y3 r3 p3 => q w d3 G3 H3 ((y1.trans y2).trans y3) r3 p3
theorem lt_cmpX {E : L2.St → XK} {op : CmpOp} {r : R2} {f : POp} {a b : Expr} {ta tb : TE} {pa pb : PX} {pos : Pos} (ho : OpR X (compareOp op) r) (ol : OLX X r f) (ha : LX X E a ta pa) (hb : LX X E b tb pb) (hm : behindInMarks op b = false) :
    LT X E (.Compare a [op] [b] pos) (tTest (tOp r ta tb)) (pTst (pOp f pa pb)) := lt_of (pt_cmpR ho ha.py hb.py hm) (opx_le ol ha hb)
theorem lx_cmpX {E : L2.St → XK} {op : CmpOp} {r : R2} {f : POp} {a b : Expr} {ta tb : TE} {pa pb : PX} {pos : Pos} (ho : OpR X (compareOp op) r) (ol : OLX X r f) (ha : LX X E a ta pa) (hb : LX X E b tb pb) (hm : behindInMarks op b = false) : LX X E (.Compare a [op] [b] pos) (tOp r ta tb) (pOp f pa pb) :=
  ⟨pe_cmpR ho ha.py hb.py hm, opx_le ol ha hb⟩
def isDcl : D → Bool
  | .non => true
  | .int _ => true
  | .lst _ => true
  | .tup _ => true
  | _ => false
def fEqA (c : Nat) (cs : List Nat) (psp : PSp) : POp := fun x y P => match x, y with
  | .obj c' fs, y => c' = c ∧ (isCl c cs y).isSome = true ∧ psp [.obj c' fs, y] (fun d => ∃ b, d = .bl b ∧ P (.bl b)) (fun _ => False)
  | x, .obj c' fs => c' = c ∧ isDcl x = true ∧ psp [.obj c' fs, x] (fun d => ∃ b, d = .bl b ∧ P (.bl b)) (fun _ => False)
  | _, _ => False
theorem R.dcl {C : Ctx} {G : Gp} {H : Hp} {v : V} {d : D} (k : Ok G H) (r : R C G v d) (e : isDcl d = true) : ∃ t, t ∈ ["NoneType", "bool", "int", "str", "list", "tuple"] ∧ Dcl C.K H v t := by
  cases r with
  | non => exact ⟨_, by simp, .non⟩
  | int i => exact ⟨_, by simp, .int i⟩
  | lst h r => exact ⟨_, by simp, .lst (k.fz h)⟩
  | tup h r =>
    rcases h with ⟨o, h, _⟩ | ⟨o, its, n, h, hc, _, hd, _⟩
    · exact ⟨_, by simp, .tup (k.fz h)⟩
    · exact ⟨_, by simp, .kTup h hc hd⟩
  | _ => cases e
theorem ol_eqA {c : Nat} {A : Addr} {cs : List Nat} (T : EqT X.K X.mg c A f cs) (S : EqS X.K A) : OLX X (fun x y H Q => rEqO X.K A (liftSp (cx X) psp 2) x y H Q ∨ rEqR X.K A (liftSp (cx X) psp 2) x y H Q) (fEqA c cs psp) := by
  refine ⟨fun {G H x y dx dy Q P} k rx ry p q => ?_⟩
  unfold fEqA at p
  split at p
  · rename_i c' fs
    obtain ⟨rfl, hi, p⟩ := p
    left
    cases rx with
    | @obj a A' ddx vs _ _ hm hg rv hlen =>
      have rx0 : R (cx X) G (.ref a) (.obj c' fs) := .obj hm hg rv hlen
      have eA : A' = A := by
        have z := hm.symm.trans T.is.mg
        cases z
        rfl
      subst eA
      have tt : ∃ t, TyX X.K H y t ∧ PySem.W.notFirst X.K A' t = true := by
        cases ed : tyD dy with
        | some t => exact ⟨_, ty_RV k (.inl ry) ed, T.ty t (tyD_mem ed)⟩
        | none =>
          cases dy with
          | obj c2 gs =>
            have hc : cs.contains c2 = true := by
              unfold isCl at hi
              split at hi
              · rename_i c3 gs3 e3
                cases e3
                split at hi
                · assumption
                · cases hi
              · rename_i n
                exact absurd rfl (n c2 gs)
            cases ry with
            | obj hm2 hg2 rv2 hl2 =>
              obtain ⟨h1, h2, h3, h4⟩ := T.is.own _ (by simpa using hc) _ hm2
              exact ⟨_, .base (.ins (k.fz hg2) h2 h3 T.is.hn T.is.ht h4), T.own _ (by simpa using hc) _ hm2⟩
          | pool => cases hi
          | pin _ _ => cases hi
          | cls _ => cases hi
          | non => cases ed
          | bl _ => cases ed
          | int _ => cases ed
          | str _ => cases ed
          | lst _ => cases ed
          | tup _ => cases ed
          | script _ => cases ed
      obtain ⟨t, t1, t2⟩ := tt
      refine ⟨a, _, _, t, rfl, k.fz hg, t1, t2, rfl, G, _, _, fun _ => False, k, .cons rx0 (.cons ry .nil), p, fun v d G' H' y2 r2 ⟨b, eb, p2⟩ => ?_, fun _ _ _ _ _ _ _ z => z⟩
      subst eb
      cases r2
      exact ⟨⟨b, rfl⟩, q _ _ _ _ y2 (.bl b) p2⟩
  · rename_i c' fs hne
    obtain ⟨rfl, hi, p⟩ := p
    right
    cases ry with
    | @obj a A' ddx vs _ _ hm hg rv hlen =>
      have ry0 : R (cx X) G (.ref a) (.obj c' fs) := .obj hm hg rv hlen
      have eA : A' = A := by
        have z := hm.symm.trans T.is.mg
        cases z
        rfl
      subst eA
      obtain ⟨t, t0, t1⟩ := rx.dcl k hi
      refine ⟨a, _, _, t, rfl, k.fz hg, t1, S.sb t t0, rfl, G, _, _, fun _ => False, k, .cons ry0 (.cons rx .nil), p, fun v d G' H' y2 r2 ⟨b, eb, p2⟩ => ?_, fun _ _ _ _ _ _ _ z => z⟩
      subst eb
      cases r2
      exact ⟨⟨b, rfl⟩, q _ _ _ _ y2 (.bl b) p2⟩
  · exact p.elim
end
end Pu
namespace Pu
open PySem PySem.Spec PyProof.Rows L2
section
variable {X : Cx} {E : L2.St → XK}
theorem kt_R {C : Ctx} {G : Gp} {a : Addr} {ss : List Str} (h : KT C.K a (ss.map V.str)) : R C G (.ref a) (.tup (ss.map D.str)) := by
  refine .tup (.inr h) ?_
  clear h
  induction ss with
  | nil => exact .nil
  | cons s ss ih => exact .cons (.str s) ih
theorem lx_gtup {x : Str} {a : Addr} {ss : List Str} {pos : Pos} (hg : Gl X x) (hm : X.mg x = some (.ref a)) (h : KT X.K a (ss.map V.str)) (hd : (x == ("__debug__" : Str)) = false := by decide) :
    LX X E (.Name x pos) (tC (.ref a)) (pC (.tup (ss.map D.str))) := lx_glob hg hm rfl (fun G => kt_R h) hd
end
end Pu
namespace Pu
open PySem PySem.Spec PyProof.Rows L2
/-- a statement that is never reached -/
def pNever : PSx := fun _ _ => False
theorem ls_never {X : Cx} {E : L2.St → XK} {st : Stmt} : LS X E st (fun _ _ _ => False) pNever := ⟨⟨fun _ _ _ _ _ _ h => h.elim⟩, fun _ _ h => h.elim⟩
end Pu
set_option Elab.async false
set_option linter.all false
set_option maxRecDepth 100000
set_option maxHeartbeats 2000000
set_option autoImplicit false
namespace Pu
open PySem PySem.Spec PyProof.Rows L2
/-! # a call whose list is new: it is given no list -/
open Classical in
/-- without the lists that are shared, but those of the pools -/
noncomputable def shr (G : Gp) : Gp := fun a => match G a with
  | some (.fz (.lst xs)) => if ∃ p ns, G p = some (.pool a ns) then some (.fz (.lst xs)) else none
  | x => x
theorem shr_le {G : Gp} {a : Addr} {g : GO} (h : shr G a = some g) : G a = some g := by
  unfold shr at h
  split at h
  · rename_i xs e
    split at h
    · rw [e]; exact h
    · cases h
  · exact h
theorem shr_keep {G : Gp} {a : Addr} {g : GO} (h : G a = some g) (n : ∀ xs, g ≠ .fz (.lst xs)) : shr G a = some g := by
  unfold shr
  rw [h]
  split
  · rename_i xs e
    exact absurd (Option.some.inj e) (n xs)
  · rfl
theorem shr_pool {G : Gp} {a p : Addr} {ns : List Int} {xs : List V} (h : G p = some (.pool a ns)) (e : G a = some (.fz (.lst xs))) : shr G a = some (.fz (.lst xs)) := by
  unfold shr
  rw [e]
  simp only
  rw [if_pos ⟨p, ns, h⟩]
theorem shr_lst {G : Gp} {a : Addr} {xs : List V} (e : G a = some (.fz (.lst xs))) : (shr G a = none) ∨ (shr G a = some (.fz (.lst xs)) ∧ ∃ p ns, G p = some (.pool a ns)) := by
  by_cases h : ∃ p ns, G p = some (.pool a ns)
  · obtain ⟨p, ns, h'⟩ := h
    exact .inr ⟨shr_pool h' e, p, ns, h'⟩
  · left
    unfold shr
    rw [e]
    simp only
    rw [if_neg h]
theorem Ok.shr {G : Gp} {H : Hp} (k : Ok G H) : Ok (shr G) H := ⟨fun a g h => by
  have h' := shr_le h
  have z := k.at_ a g h'
  cases g with
  | fz o => exact z
  | pool l ns =>
    obtain ⟨z1, z2⟩ : PoolAt H a l ns ∧ G l = some (.fz (.lst (ns.map V.int))) := z
    exact ⟨z1, shr_pool h' z2⟩⟩
open Classical in
noncomputable def uni (G G' : Gp) (r0 : Option Addr) : Gp := fun a => match G a with
  | some g => some g
  | none => if r0 = some a then none else match G' a with
    | some (.pool _ _) => none
    | x => x
theorem uni_old {G G' : Gp} {r0 : Option Addr} {a : Addr} {g : GO} (h : G a = some g) : uni G G' r0 a = some g := by unfold uni; rw [h]
theorem uni_new {G G' : Gp} {r0 : Option Addr} {a : Addr} {g : GO} (h : uni G G' r0 a = some g) (n : G a = none) : r0 ≠ some a ∧ G' a = some g ∧ ∀ l ns, g ≠ .pool l ns := by
  unfold uni at h
  rw [n] at h
  simp only at h
  split at h
  · cases h
  · rename_i hr
    split at h
    · cases h
    · rename_i np
      exact ⟨hr, h, fun l ns z => by subst z; exact np l ns h⟩
/-- what stood has not changed -/
theorem uni_stood {G G' : Gp} {H H' : Hp} (k : Ok G H) (y : Ext (shr G) H G' H') {a : Addr} {g : GO} (e : G a = some g) : G' a = some g ∨ (G' a = none ∧ ∃ xs, g = .fz (.lst xs) ∧ H' a = some (.lst xs)) := by
  cases es : shr G a with
  | some u =>
    have := shr_le es
    rw [e] at this
    cases this
    exact .inl (y.g a _ es)
  | none =>
    right
    cases g with
    | pool l ns => rw [shr_keep e (fun _ z => by cases z)] at es; cases es
    | fz o =>
      have hx : ∃ xs, o = .lst xs := Classical.byContradiction fun z => by
        rw [shr_keep e (fun xs z2 => z ⟨xs, by cases z2; rfl⟩)] at es
        cases es
      obtain ⟨xs, rfl⟩ := hx
      have hH := k.fz e
      obtain ⟨h1, h2⟩ := y.h a _ hH es
      exact ⟨h2, xs, rfl, h1⟩
theorem Ext.uni {G G' : Gp} {H H' : Hp} (k : Ok G H) (y : Ext (shr G) H G' H') (r0 : Option Addr) : Ext G H (Pu.uni G G' r0) H' := by
  refine ⟨fun a o h => uni_old h, ⟨fun a g h => ?_⟩, fun a o h n => ?_⟩
  · cases e : G a with
    | some u =>
      rw [uni_old e] at h
      cases h
      rcases uni_stood k y e with z | ⟨_, xs, rfl, hx⟩
      · have w := y.ok.at_ a g z
        cases g with
        | fz o => exact w
        | pool l ns =>
          obtain ⟨w1, _⟩ : PoolAt H' a l ns ∧ _ := w
          obtain ⟨_, z2⟩ : PoolAt H a l ns ∧ G l = some (.fz (.lst (ns.map V.int))) := k.at_ a _ e
          exact ⟨w1, uni_old z2⟩
      · exact hx
    | none =>
      obtain ⟨_, h2, h3⟩ := uni_new h e
      have w := y.ok.at_ a g h2
      cases g with
      | fz o => exact w
      | pool l ns => exact absurd rfl (h3 l ns)
  · have ns : shr G a = none := by
      cases es : shr G a with
      | none => rfl
      | some u => have := shr_le es; rw [n] at this; cases this
    obtain ⟨h1, h2⟩ := y.h a o h ns
    refine ⟨h1, ?_⟩
    unfold Pu.uni
    rw [n]
    simp only
    rw [h2]
    split <;> rfl
theorem uni_keep {G G' : Gp} {H H' : Hp} (k : Ok G H) (y : Ext (shr G) H G' H') {r0 : Option Addr} (hr : ∀ r, r0 = some r → ∃ xs, G' r = some (.fz (.lst xs))) {b : Addr} {g : GO} (h : G' b = some g) (n1 : ∀ xs, g ≠ .fz (.lst xs)) (n2 : ∀ l ns, g ≠ .pool l ns) : uni G G' r0 b = some g := by
  cases e : G b with
  | some u =>
    rw [uni_old e]
    rcases uni_stood k y e with z | ⟨z, _⟩
    · rw [h] at z; exact z.symm
    · rw [h] at z; cases z
  | none =>
    unfold uni
    rw [e]
    simp only
    split
    · rename_i hb
      obtain ⟨xs, hx⟩ := hr b hb
      rw [h] at hx
      cases hx
      exact absurd rfl (n1 xs)
    · rw [h]
      split
      · rename_i l ns z
        cases z
        exact absurd rfl (n2 _ _)
      · rfl
theorem uni_fz {G G' : Gp} {H H' : Hp} (k : Ok G H) (y : Ext (shr G) H G' H') {b : Addr} {o : HO} (h : G' b = some (.fz o)) : uni G G' none b = some (.fz o) := by
  cases e : G b with
  | some u =>
    rw [uni_old e]
    rcases uni_stood k y e with z | ⟨z, _⟩
    · rw [h] at z; exact z.symm
    · rw [h] at z; cases z
  | none =>
    unfold uni
    rw [e]
    simp only
    split
    · rename_i z; cases z
    · rw [h]
def argF : D → Bool
  | .pool => true
  | d => noL d
theorem RAll.shr {C : Ctx} {G : Gp} {H : Hp} (k : Ok G H) : ∀ {vs : List V} {ds : List D}, RAll C G vs ds → ds.all argF = true → RAll C (shr G) vs ds
  | _, _, .nil, _ => .nil
  | _, _, .cons (v := v) (d := d) r t, h => by
    rw [List.all_cons, Bool.and_eq_true] at h
    refine .cons ?_ (RAll.shr k t h.2)
    have one : Pu.noL d = true → R C (Pu.shr G) v d := fun hn => by
      exact R.noL (G2 := G) (fun a g e n1 _ => shr_keep e n1) r hn
    cases d with
    | pool =>
      cases r with
      | pool hp => exact .pool (shr_keep hp fun _ z => by cases z)
    | _ => exact one h.1
theorem EOk.shr {C : Ctx} {G : Gp} {H : Hp} {E : XK} {P : Exn → Prop} (k : Ok G H) (x : EOk C G H E P) : EOk C (shr G) H E (fun e => noLL e.ds = true ∧ P e) := fun G' H' cls d e y r p =>
  x (uni G G' none) H' cls d e (Ext.uni k y none) (XR.noL (fun a g h n1 n2 => uni_keep k y (fun _ z => by cases z) h n1 n2) r p.1) p.2
/-- is a list of these surely no script -/
def frs : List D → Bool
  | [] => false
  | .int _ :: _ => false
  | _ => true
structure LFr (X : Cx) (E : L2.St → XK) (e : Expr) (te : TE) (pe : PX) : Prop where
  py : PE X e te
  le : ∀ {δ : Dl} {σ : L2.St} {G : Gp} {H H0 : Hp} {Q : VK} {P : D → Prop} {P2 : Exn → Prop}, Ok G H → SRel (cx X) H0 G H σ δ → EOk (cx X) G H (E σ) P2 → pe δ P P2 →
    (∀ v ds G' H', Ext G H G' H' → ((frs ds = true ∧ ∃ p xs, v = .ref p ∧ H p = none ∧ H' p = some (.lst xs) ∧ G' p = none ∧ RAll (cx X) G' xs ds) ∨ (frs ds = false ∧ R (cx X) G' v (.lst ds))) → P (.lst ds) → Q v H') → te σ H Q
def pAsgF (pe : PX) (i : Nat) : PSx := fun P δ => pe δ (fun d => match d with | .lst ds => P.nx (δ.set i (some (if frs ds = true then .own none ds else .d (.lst ds)))) | _ => False) (P.ex δ)
section
variable {X : Cx} {W : WX} {k : Nat} {f : Addr} {fd : FuncData} {ps : List Str} {x : Str} {p pos : Pos} {e : Expr} {es : List Expr} {t : TA} {psp : PSp} {pa : PAx}
theorem ls_asgF {E : L2.St → XK} (i : Nat) {x : Str} {e : Expr} {te : TE} {pe : PX} {pos pos' : Pos} (hN : X.N.Nodup) (he : LFr X E e te pe) (hi : X.N[i]? = some x := by rfl) (hx : Loc X.env.scope x := by first | exact Or.inl rfl | exact Or.inr rfl)
    (hs : swapsWith e (some (.Name x pos')) pos.line X.env = pure false := by rfl) (hf : X.fn x = true ∨ X.env.scope.names.lookup x = some .local := by first | exact .inl rfl | exact .inr rfl) :
    LS X E (.Assign [.Name x pos'] e pos) (tAsg te (gName i)) (pAsgF pe i) :=
  ⟨by first | exact ps_set hN hi hx he.py hs hf | exact ps_set hN hi hx he.py hs, fun e t p => he.le t.ok t.sr (e.ex t) p fun v ds G' H' y z q => by
    simp only at q
    rcases z with ⟨hf, l, xs, rfl, hn, hp, gp, r⟩ | ⟨hf, r⟩
    · rw [if_pos hf] at q
      exact e.nx ⟨t.ext.trans y, SRel.setO t.ext t.sr y hn hp gp r⟩ q
    · rw [if_neg (by rw [hf]; exact fun z => by cases z)] at q
      exact e.nx ⟨t.ext.trans y, (t.sr.ext y).setD r⟩ q⟩
def pCallF (psp : PSp) (pa : PAx) : PX := fun δ P P2 => pa δ (fun ds => ds.all argF = true ∧ psp ds (fun d => ∃ es, d = .lst es ∧ noLL es = true ∧ P (.lst es)) (fun e => noLL e.ds = true ∧ P2 e)) P2
theorem lf_call (tk : Takes X W) (F : FnOk X.prog X.w X.K X.mg X.base (L2.CX X.prog X.w) k f fd ps (liftSp (cx X) psp ps.length)) (hr : Room k X.A) (hg : Gl X x) (hm : X.mg x = some (.ref f)) (hk : PySem.W.keepIn X.K (.ref f) = true) (hb : Binds X.K fd ps [])
    (ha : LAn X (WE W) (e :: es) t pa ps.length) (hdb : (x == ("__debug__" : Str)) = false := by decide) (he : starEach (e :: es) X.env = (false, eval e X.env) :: starEach es X.env := by rfl) (hpl : (backTo pos (starEach es X.env)).any (·.1) = false := by rfl) :
    LFr X (WE W) (.Call (.Name x p) (e :: es) [] pos) (tCallS (liftSp (cx X) psp ps.length) (WE W) t) (pCallF psp pa) :=
  ⟨pe_callS F hr hg hm hk hb (fun σ => passAt tk σ) ha.py hdb he hpl, fun {δ σ G H H0 Q P P2} k s x p q => ha.le k s x p fun vs ds G1 H1 hn y1 r1 p1 => by
    have k1 := y1.ok
    refine ⟨hn, shr G1, ds, _, _, k1.shr, r1.shr k1 p1.1, p1.2, fun v d G' H' y r pd => ?_, EOk.shr k1 (x.ext y1)⟩
    obtain ⟨es, rfl, hnl, pd⟩ := pd
    by_cases hf : frs es = true
    · cases r with
      | @lst a xs _ hl rl =>
        have hr0 : ∀ r, some a = some r → ∃ xs, G' r = some (.fz (.lst xs)) := fun r z => by cases z; exact ⟨xs, hl⟩
        have hna : H1 a = none := by
          cases eh : H1 a with
          | none => rfl
          | some o =>
            exfalso
            cases es' : Pu.shr G1 a with
            | none =>
              have := (y.h a o eh es').2
              have hl' : G' a = some (.fz (.lst xs)) := hl
              rw [hl'] at this
              cases this
            | some u =>
              have h1 := y.g a u es'
              have hl' : G' a = some (.fz (.lst xs)) := hl
              rw [hl'] at h1
              cases h1
              have h2 := shr_le es'
              rcases shr_lst h2 with z | ⟨_, pp, nn, hpool⟩
              · rw [z] at es'; cases es'
              · obtain ⟨_, z2⟩ : PoolAt H1 pp a nn ∧ G1 a = some (.fz (.lst (nn.map V.int))) := k1.at_ pp _ hpool
                rw [h2] at z2
                cases z2
                cases nn with
                | nil => cases rl; cases hf
                | cons n nn =>
                  cases rl with
                  | cons r0 rt => cases r0; cases hf
        have gna : G1 a = none := k1.none_of hna
        refine q (.ref a) es (uni G1 G' (some a)) H' (y1.trans (Ext.uni k1 y (some a))) (.inl ⟨hf, a, xs, rfl, ?_, y.ok.fz hl, ?_, RAll.noL (fun b g h n1 n2 => uni_keep k1 y hr0 h n1 n2) rl hnl⟩) pd
        · cases eh : H a with
          | none => rfl
          | some o =>
            cases eg : G a with
            | none => have := (y1.h a o eh eg).1; rw [hna] at this; cases this
            | some g => rw [y1.g a g eg] at gna; cases gna
        · unfold uni
          rw [gna]
          simp only
          exact if_pos trivial
    · have hf' : frs es = false := by cases h : frs es with
        | true => exact absurd h hf
        | false => rfl
      cases r with
      | @lst a xs _ hl rl =>
        refine q (.ref a) es (uni G1 G' none) H' (y1.trans (Ext.uni k1 y none)) (.inr ⟨hf', .lst (uni_fz k1 y hl) (RAll.noL (fun b g h n1 n2 => uni_keep k1 y (fun _ z => by cases z) h n1 n2) rl hnl)⟩) pd⟩
end
end Pu
set_option Elab.async false
set_option linter.all false
set_option maxRecDepth 100000
set_option maxHeartbeats 2000000
set_option autoImplicit false
namespace HT
open PySem PySem.Spec PyProof.Rows
section
variable {prog : Program} {w : World} {A : Around} {E : Value → Shared → Prop} {s : Shared}
theorem sliceApplied_rev {sl : Addr} {vl vu vs : Value} {n : Nat} {Q : Int × Int × Nat → Shared → Prop} (hs : s.heap.IsSliceOf sl vl vu vs) (pl : IsPart vl none) (pu : IsPart vu none) (ps : IsPart vs (some (-1)))
    (h : Q ((n : Int) - 1, -1, n) s) : wpAny (model prog w) A (Builtin.Slice.sliceApplied (.ref sl) (pure (n : Int))) Q E s := by
  obtain ⟨os, hos, hcs, hds⟩ := id hs
  unfold Builtin.Slice.sliceApplied Builtin.Slice.sliceFields
  refine wpAny_bind (wpAny_bind (wpAny_field hos hds (x := vl) rfl (wpAny_bind (wpAny_field hos hds (x := vu) rfl (wpAny_bind (wpAny_field hos hds (x := vs) rfl (wpAny_pure ?_)))))))
  refine wpAny_bind (slicePart_ ps ?_)
  show wpAny _ _ (if ((-1 : Int) == 0) = true then _ else _) _ _ s
  rw [if_neg (by decide)]
  refine wpAny_bind (slicePart_ pl (wpAny_bind (slicePart_ pu (wpAny_bind (wpAny_pure ?_)))))
  show wpAny _ _ (match Builtin.Slice.sliceAdjust none none (-1) (n : Int) with | (lo, hi) => pure (lo, (-1 : Int), Builtin.Slice.slicePlaces lo hi (-1))) _ _ s
  have e1 : Builtin.Slice.sliceAdjust none none (-1) (n : Int) = ((n : Int) - 1, -1) := rfl
  rw [e1]
  show wpAny _ _ (pure ((n : Int) - 1, (-1 : Int), Builtin.Slice.slicePlaces ((n : Int) - 1) (-1) (-1))) _ _ s
  have e2 : Builtin.Slice.slicePlaces ((n : Int) - 1) (-1) (-1) = n := by
    unfold Builtin.Slice.slicePlaces
    have h1 : ¬ ((-1 : Int) > 0) := by decide
    simp only [h1, if_false]
    by_cases c : (n : Int) - 1 > -1
    · rw [if_pos c, show (- -1 : Int) = 1 by decide, Int.ediv_one]
      omega
    · rw [if_neg c]
      omega
  rw [e2]
  exact wpAny_pure h
theorem fm_cg {α β : Type} {f g : α → Option β} : ∀ {xs : List α}, (∀ x ∈ xs, f x = g x) → xs.filterMap f = xs.filterMap g
  | [], _ => rfl
  | x :: xs, h => by
    rw [List.filterMap_cons, List.filterMap_cons, h x List.mem_cons_self, fm_cg fun y hy => h y (List.mem_cons_of_mem _ hy)]
theorem pick_rev (xs : Array Value) : ((List.range xs.size).filterMap fun (k : Nat) => xs[((xs.size : Int) - 1 + (k : Int) * (-1)).toNat]?).toArray = xs.toList.reverse.toArray := by
  have e : (List.range xs.size).filterMap (fun (k : Nat) => xs[((xs.size : Int) - 1 + (k : Int) * (-1)).toNat]?) = ((List.range xs.size).map fun k => xs.size - 1 - k).filterMap (xs[·]?) := by
    rw [List.filterMap_map]
    refine fm_cg fun k hk => ?_
    have := List.mem_range.mp hk
    have e3 : ((xs.size : Int) - 1 + (k : Int) * (-1)).toNat = xs.size - 1 - k := by omega
    show _ = xs[xs.size - 1 - k]?
    rw [e3]
  rw [e, PySem.W.krv_range, List.filterMap_reverse, PySem.W.krv_all]
theorem getItem_tuple_rev {t sl : Addr} {items : Array Value} {vl vu vs : Value} {Q : Value → Shared → Prop} (ht : IsTup s.heap t items) (hs : s.heap.IsSliceOf sl vl vu vs) (pl : IsPart vl none) (pu : IsPart vu none) (ps : IsPart vs (some (-1)))
    (h : Q (.ref s.heap.objs.size) { s with heap := s.heap.push { cls := .type "tuple", data := .seq items.toList.reverse.toArray } })
    (hsz : items.size ≤ sizeLine) : wpAny (model prog w) A (getItem (.ref t) (.ref sl)) Q E s := by
  have htake : sizeOk (.seq items.toList.reverse.toArray) := by
    show items.toList.reverse.toArray.size ≤ sizeLine
    rw [List.size_toArray, List.length_reverse, Array.length_toList]
    omega
  obtain ⟨os, hos, hcs, hds⟩ := id hs
  have hTs : s.TypeIs (.ref sl) "slice" := ⟨os, hos, hcs⟩
  unfold getItem
  try with_reducible refine wpAny_holding ?_
  first | refine wpAny_bind (wpAny_pure ?_) | skip
  refine wpAny_bind (wpAny_sequenceKey ht.typeIs (by decide) ?_)
  refine wpAny_bind (wpAny_callSpecial?_slot (name := Str.ofString "__getitem__") ht.typeIs PyProof.Rows.slot_tuple_getitem
    (wpAny_call_entry PyProof.Rows.slot_tuple_getitem ht.typeIs entry_tuple_getitem ?_ (args_tuple_getitem _ _)))
  show wpAny _ _ (Builtin.Tuple.tupleItemsOf (.ref t) >>= _) _ _ s
  refine wpAny_bind (tupleItemsOf_ ht ?_)
  refine wpAny_bind (wpAny_typeOf hTs ?_)
  rw [if_pos (by decide)]
  refine wpAny_bind (sliceApplied_rev hs pl pu ps ?_)
  have hno : ¬ ((((items.size : Int) - 1) == 0 && (-1 : Int) == 1 && items.size == items.size) = true) := by
    intro q
    rw [Bool.and_eq_true, Bool.and_eq_true] at q
    exact absurd q.1.2 (by decide)
  show wpAny _ _ (if (((items.size : Int) - 1) == 0 && (-1 : Int) == 1 && items.size == items.size) = true then _ else _) _ _ s
  rw [if_neg hno, pick_rev]
  first
    | exact wpAny_bind (m := Builtin.Tuple.tupleExact _) (wpAny_newObj_type (wpAny_pure ⟨_, rfl, wpAny_pure h⟩) htake)
    | exact wpAny_bind (m := Builtin.Tuple.tupleExact _) (wpAny_newObj_type (wpAny_bind (wpAny_pure (wpAny_pure ⟨_, rfl, wpAny_pure h⟩))) htake)
    | exact wpAny_bind (wpAny_bind (m := Builtin.Tuple.tupleExact _) (wpAny_newObj_type (wpAny_pure (wpAny_pure ⟨_, rfl, wpAny_pure h⟩)) htake))
    | exact wpAny_bind (wpAny_bind (m := Builtin.Tuple.tupleExact _) (wpAny_newObj_type (wpAny_pure ⟨_, rfl, wpAny_pure h⟩) htake))
end
end HT
namespace Pu
open PySem PySem.Spec PyProof.Rows L2
section
variable {X : Cx} {E : L2.St → XK}
/-- t[::-1] of a tuple -/
def tRevT (K : PySem.W.Frag) (te : TE) : TE := fun σ H Q => te σ H fun x H1 => ∃ a xs, x = .ref a ∧ SqT K H1 a xs ∧ ∀ p o, H1 p = none → o.dict = none → Q (.ref p) (upd H1 p (.frz o (.tup xs.reverse)))
theorem pe_revT {e : Expr} {te : TE} {k : Nat} {p1 p2 p3 pos : Pos} (he : PE X e te) : PE X (.Subscript e (.Slice none none (some (.UnaryOp .USub (.Constant (.int 1) k p1) p2)) p3) pos) (tRevT X.K te) := by
  refine ⟨fun pins s σ H Q I h => ?_⟩
  refine Subscript_ (thn (he.run pins s σ H _ I h) fun v s1 ⟨x, H1, I1, r1, q1⟩ => ?_)
  obtain ⟨a, xs, ex, hx, q⟩ := q1
  subst ex
  cases r1
  have hst : PO X (some (.UnaryOp .USub (.Constant (.int 1) k p1) p2)) (tPart (tUn (rU fun i => .int (-i)) (tC (.int 1)))) := po_some (pe_un un_neg pe_int)
  refine wpAny_Slice (thn (po_none.run pins s1 σ H1 (fun o H2 => o = none ∧ H2 = H1) I1 ⟨rfl, rfl⟩) fun vl s2 ⟨l, H2, I2, pl, el, e2⟩ => ?_)
  subst el e2
  refine thn (po_none.run pins s2 σ H2 (fun o H3 => o = none ∧ H3 = H2) I2 ⟨rfl, rfl⟩) fun vu s3 ⟨u, H3, I3, pu, eu, e3⟩ => ?_
  subst eu e3
  refine thn (hst.run pins s3 σ H3 (fun o H4 => o = some (-1) ∧ H4 = H3) I3 ⟨1, rfl, -1, rfl, rfl, rfl⟩) fun vs s4 ⟨o, H4, I4, ps, eo, e4⟩ => ?_
  subst eo e4
  have I5 : Inv X pins σ H4 { s4 with heap := s4.heap.push { cls := .type "slice", data := .fields #[vl, vu, vs] } } := I4.kept (t' := s4.toks) fun b ob q => Heap.get?_push_of_some _ q
  obtain ⟨its, r, ht, hz⟩ := I5.tuple hx
  have hlen := r.length
  show wpAny (model X.prog X.w) X.A (subscriptTail e (.Slice none none (some (.UnaryOp .USub (.Constant (.int 1) k p1) p2)) p3) (.ref a) (.ref s4.heap.objs.size)) (EP X pins σ Q) X.xe { s4 with heap := s4.heap.push { cls := .type "slice", data := .fields #[vl, vu, vs] } }
  refine tail_any (ops := [.ref a, .ref s4.heap.objs.size]) ht.typeIs (PyProof.Rows.slot_tuple_getitem.lookup) ?_ (by with_unfolding_all rfl)
  refine HT.getItem_tuple_rev ht (Heap.IsSliceOf.new _ vl vu vs) pl pu ps ?_ (by rw [List.size_toArray]; omega)
  have := layN (tk := s4.toks) (Q := Q) (h := s4.heap.push { cls := .type "slice", data := .fields #[vl, vu, vs] }) I5 (fun _ _ e => e) r.reverse (by rw [List.length_reverse]; exact hz) (Nat.le_refl _) q
  simpa using this
def pRevT (pe : PX) : PX := fun δ P P2 => pe δ (fun d => match d with | .tup ds => P (.tup ds.reverse) | _ => False) P2
theorem lx_revT {e : Expr} {te : TE} {pe : PX} {k : Nat} {p1 p2 p3 pos : Pos} (he : LX X E e te pe) : LX X E (.Subscript e (.Slice none none (some (.UnaryOp .USub (.Constant (.int 1) k p1) p2)) p3) pos) (tRevT X.K te) (pRevT pe) := by
  refine ⟨pe_revT he.py, fun {δ σ G H H0 Q P P2} k s x p q => he.le k s x p fun v d G1 H1 y1 r1 p1 => ?_⟩
  split at p1
  · obtain ⟨a, xs, rfl, h, rr⟩ := RV.tup y1.ok (.inl r1)
    exact ⟨a, xs, rfl, h, fun l ob hl ho => let ⟨x1, x2⟩ := Ext.newT (C := cx X) (o := ob) y1.ok hl ho rr.reverse; q _ (.tup _) _ _ (y1.trans x1) x2 p1⟩
  · exact p1.elim
end
end Pu
set_option Elab.async false
set_option linter.all false
set_option maxRecDepth 100000
set_option maxHeartbeats 2000000
set_option autoImplicit false
namespace Pu
open PySem PySem.Spec PyProof.Rows L2
/-! # Pure readings: ints -/
theorem shaped_int (i : Int) : SeqAt.shaped (.int i) = true := rfl
theorem fEq_int {i j : Int} {P : D → Prop} : fEq (.int i) (.int j) P ↔ P (.bl (decide (i = j))) := by
  unfold fEq
  constructor
  · rintro ⟨a, b, h1, h2, _, _, p⟩
    cases h1; cases h2
    have e : PyData.eqv (.int i) (.int j) = decide (i = j) := by
      show (i == j) = decide (i = j)
      by_cases h : i = j <;> simp [h]
    rw [e] at p
    exact p
  · intro p
    refine ⟨.int i, .int j, rfl, rfl, shaped_int i, shaped_int j, ?_⟩
    have e : PyData.eqv (.int i) (.int j) = decide (i = j) := by
      show (i == j) = decide (i = j)
      by_cases h : i = j <;> simp [h]
    rw [e]
    exact p
theorem fNe_int {i j : Int} {P : D → Prop} : fNe (.int i) (.int j) P ↔ P (.bl (decide (i ≠ j))) := by
  unfold fNe
  have e : (!PyData.eqv (.int i) (.int j)) = decide (i ≠ j) := by
    show (!(i == j)) = decide (i ≠ j)
    by_cases h : i = j <;> simp [h]
  constructor
  · rintro ⟨a, b, h1, h2, _, _, p⟩
    cases h1; cases h2
    rw [e] at p
    exact p
  · intro p
    refine ⟨.int i, .int j, rfl, rfl, shaped_int i, shaped_int j, ?_⟩
    rw [e]
    exact p
theorem mulOk_small {i j : Int} (h : (-(2 ^ 64) < i ∧ i < 2 ^ 64) ∨ (-(2 ^ 64) < j ∧ j < 2 ^ 64)) : mulOk i j := .inl h
theorem log2_lt {n k : Nat} (h : n < 2 ^ k) (hk : 0 < k) : n.log2 < k := by
  by_cases e : n = 0
  · rw [e, show Nat.log2 0 = 0 by decide]
    exact hk
  · exact (Nat.log2_lt e).mpr h
theorem divOk {i j : Int} (h : 0 < j) (h2 : j < 2 ^ 200) : CDivW i j := ⟨h, Nat.lt_of_lt_of_le (log2_lt (k := 200) (by
  have : (j.natAbs : Int) = j := Int.natAbs_of_nonneg (Int.le_of_lt h)
  have h3 : (j.natAbs : Int) < ((2 ^ 200 : Nat) : Int) := by rw [this]; exact_mod_cast h2
  exact_mod_cast h3) (by decide)) (by decide)⟩
end Pu
namespace Pu
open PySem PySem.Spec PyProof.Rows L2
/-! ### one step each -/
section
variable {δ : Dl} {P : PEnds} {i : Nat} {a b : PSx} {pe pa pb pc pk : PX} {f f' : POp} {p : PAx} {pt pt' : PTx} {Q : D → Prop} {QL : List D → Prop} {QT : Bool → Prop} {Q2 : Exn → Prop}
theorem w_seq (h : a { P with nx := b P } δ) : pSeq a b P δ := h
theorem w_asg (h : pe δ (fun d => P.nx (δ.set i (some (.d d)))) (P.ex δ)) : pAsg pe i P δ := h
theorem w_asgO (h : pe δ (fun d => match d with | .lst ds => P.nx (δ.set i (some (.own none ds))) | _ => False) (P.ex δ)) : pAsgO pe i P δ := h
theorem w_ret (h : pe δ (P.rt δ) (P.ex δ)) : pRet pe P δ := h
theorem w_if (h : pt δ (fun k => if k = true then a P δ else b P δ) (P.ex δ)) : pIf pt a b P δ := h
theorem w_next (h : P.nx δ) : pNext P δ := h
theorem w_drop (h : pe δ (fun _ => P.nx δ) (P.ex δ)) : pDrop pe P δ := h
theorem w_ite {c : Bool} {A B : Prop} (h1 : c = true → A) (h2 : c = false → B) : if c = true then A else B := by
  cases c
  · rw [if_neg (by decide)]; exact h2 rfl
  · rw [if_pos rfl]; exact h1 rfl
theorem w_dec {p : Prop} [Decidable p] {A B : Prop} (h1 : p → A) (h2 : ¬ p → B) : if decide p = true then A else B := w_ite (fun e => h1 (of_decide_eq_true e)) fun e => h2 (of_decide_eq_false e)
theorem e_var {d : D} (e : δ[i]? = some (some (.d d))) (h : Q d) : pVar i δ Q Q2 := by unfold pVar; rw [e]; exact h
theorem e_varV {d : D} (e : δ[i]? = some (some (.d d))) (h : Q d) : pVarV i δ Q Q2 := by unfold pVarV; rw [e]; exact h
theorem e_varO {oa : Option Addr} {ds : List D} (e : δ[i]? = some (some (.own oa ds))) (h : Q (.lst ds)) : pVarV i δ Q Q2 := by unfold pVarV; rw [e]; exact h
theorem e_c {d : D} (h : Q d) : pC d δ Q Q2 := h
theorem e_op (h : pa δ (fun x => pb δ (fun y => f x y Q) Q2) Q2) : pOp f pa pb δ Q Q2 := h
theorem e_cb {g : PFn} (h : p δ (fun ds => g ds Q) Q2) : pCB g p δ Q Q2 := h
theorem e_call {g : PSp} (h : p δ (fun ds => g ds Q Q2) Q2) : pCall g p δ Q Q2 := h
theorem a_nil (h : QL []) : pNil δ QL Q2 := h
theorem a_cons (h : pe δ (fun x => p δ (fun xs => QL (x :: xs)) Q2) Q2) : pCons pe p δ QL Q2 := h
theorem t_tst (h : pe δ (fun x => match x with | .bl b => QT b | _ => False) Q2) : pTst pe δ QT Q2 := h
theorem t_tru (h : pe δ (fun x => match truD x with | some b => QT b | none => False) Q2) : pTru pe δ QT Q2 := h
theorem t_and (h : pt δ (fun c => if c = true then pt' δ QT Q2 else QT false) Q2) : pAndT pt pt' δ QT Q2 := h
theorem t_or (h : pt δ (fun c => if c = true then QT true else pt' δ QT Q2) Q2) : pOrT pt pt' δ QT Q2 := h
theorem t_not (h : pt δ (fun c => QT (!c)) Q2) : pNotT pt δ QT Q2 := h
theorem e_tup (h : p δ (fun ds => ds.length ≤ szl ∧ Q (.tup ds)) Q2) : pTup p δ Q Q2 := h
theorem e_lst (h : p δ (fun ds => ds.length ≤ szl ∧ Q (.lst ds)) Q2) : pLst p δ Q Q2 := h
theorem e_ifE (h : pt δ (fun c => if c = true then pa δ Q Q2 else pb δ Q Q2) Q2) : pIfE pt pa pb δ Q Q2 := h
theorem e_chain (h : pa δ (fun x => pb δ (fun y => f x y fun z => match z with | .bl k => if k = true then pc δ (fun w => f' y w Q) Q2 else Q (.bl false) | _ => False) Q2) Q2) : pChain f f' pa pb pc δ Q Q2 := h
/-! operators on ints -/
variable {x y : Int}
theorem o_lt (h : Q (.bl (decide (x < y)))) : fLt (.int x) (.int y) Q := h
theorem o_le (h : Q (.bl (decide (x ≤ y)))) : fLe (.int x) (.int y) Q := h
theorem o_gt (h : Q (.bl (decide (y < x)))) : fGt (.int x) (.int y) Q := h
theorem o_ge (h : Q (.bl (decide (y ≤ x)))) : fGe (.int x) (.int y) Q := h
theorem o_eq (h : Q (.bl (decide (x = y)))) : fEq (.int x) (.int y) Q := fEq_int.mpr h
theorem o_ne (h : Q (.bl (decide (x ≠ y)))) : fNe (.int x) (.int y) Q := fNe_int.mpr h
theorem o_add (h : Q (.int (x + y))) : fAdd (.int x) (.int y) Q := h
theorem o_sub (h : Q (.int (x - y))) : fSub (.int x) (.int y) Q := h
theorem o_mul (c : (-(2 ^ 64) < x ∧ x < 2 ^ 64) ∨ (-(2 ^ 64) < y ∧ y < 2 ^ 64)) (h : Q (.int (x * y))) : fMul (.int x) (.int y) Q := ⟨mulOk_small c, h⟩
theorem o_mod (c : 0 < y) (h : Q (.int (x % y))) : fMod (.int x) (.int y) Q := ⟨c, h⟩
theorem o_div (c : 0 < y) (c2 : y < 2 ^ 200) (h : Q (.int (x / y))) : fDiv (.int x) (.int y) Q := ⟨divOk c c2, h⟩
theorem o_pow (c : 0 ≤ y) (c1 : y ≤ 1000000) (c2 : x.natAbs < 2 ^ 64) (h : Q (.int (x ^ y.toNat))) : fPow (.int x) (.int y) Q := ⟨⟨c, c1, c2⟩, h⟩
theorem o_ixL {ds : List D} {d : D} (e : atI ds x = some d) (h : Q d) : fIx (.lst ds) (.int x) Q := by unfold fIx; simp only [e]; exact h
theorem o_ixT {ds : List D} {d : D} (e : atI ds x = some d) (h : Q d) : fIx (.tup ds) (.int x) Q := by unfold fIx; simp only [e]; exact h
theorem w_setI {oa : Option Addr} {ds : List D} (h : pe δ (fun d => match δ[i]? with
  | some (some (.own oa ds)) => pk δ (fun k => match k with
      | .int j => (match ixN ds.length j with | some n => P.nx (δ.set i (some (.own oa (ds.set n d)))) | none => False)
      | _ => False) (P.ex δ)
  | _ => False) (P.ex δ)) : pSetI i pk pe P δ := h
end
end Pu
namespace Pu
open PySem PySem.Spec PyProof.Rows L2
section
variable {δ : Dl} {P : PEnds} {i : Nat} {pe pk : PX} {Q : D → Prop} {x y : Int} {A B : Prop} {ds : List D} {oa : Option Addr}
theorem w_ff (h : B) : if false = true then A else B := by rw [if_neg (by decide)]; exact h
theorem w_tt (h : A) : if true = true then A else B := by rw [if_pos rfl]; exact h
theorem o_lenL (h : Q (.int ds.length)) : fLen [.lst ds] Q := h
theorem o_lenT (h : Q (.int ds.length)) : fLen [.tup ds] Q := h
theorem o_lenP {l : Addr} {ns : List Int} (h : Q (.int ns.length)) : fLen [.pin l ns] Q := h
theorem o_int (h : Q (.int x)) : fInt [.int x] Q := h
theorem o_intB {b : Bool} (h : Q (.int (if b then 1 else 0))) : fInt [.bl b] Q := h
theorem o_abs (h : Q (.int (if x < 0 then -x else x))) : fAbs [.int x] Q := h
theorem o_min (h : Q (.int (if y < x then y else x))) : fMin2 [.int x, .int y] Q := h
theorem o_max (h : Q (.int (if y > x then y else x))) : fMax2 [.int x, .int y] Q := h
theorem o_ixP {l : Addr} {ns : List Int} (c : 0 ≤ x) (c2 : x < ns.length) (h : ∀ z, z ∈ ns → Q (.int z)) : fIx (.pin l ns) (.int x) Q := by
  unfold fIx
  have hl : x.toNat < ns.length := by omega
  have e : atI (ns.map D.int) x = some (D.int (ns[x.toNat]'hl)) := by
    unfold atI ixN
    rw [if_pos c, if_pos (by rw [List.length_map]; exact c2)]
    show (ns.map D.int)[x.toNat]? = _
    rw [List.getElem?_map, List.getElem?_eq_getElem hl]
    try rfl
  simp only [e]
  exact h _ (List.getElem_mem _)
def ixSet (ds : List D) (d : D) (K : List D → Prop) : D → Prop
  | .int j => (match ixN ds.length j with | some n => K (ds.set n d) | none => False)
  | _ => False
theorem w_setO (e : δ[i]? = some (some (.own oa ds))) (h : pe δ (fun d => pk δ (ixSet ds d fun ds' => P.nx (δ.set i (some (.own oa ds')))) (P.ex δ)) (P.ex δ)) : pSetI i pk pe P δ := by
  unfold pSetI
  rw [e]
  have e2 : (fun d => pk δ (ixSet ds d fun ds' => P.nx (δ.set i (some (.own oa ds')))) (P.ex δ)) = fun d => (match (some (some (S.own oa ds)) : Option (Option S)) with
    | some (some (.own oa ds)) => pk δ (fun k => match k with
      | .int j => (match ixN ds.length j with | some n => P.nx (δ.set i (some (.own oa (ds.set n d)))) | none => False)
      | _ => False) (P.ex δ)
    | _ => False) := by
    funext d
    show pk δ _ _ = pk δ _ _
    congr 1
    try (funext k; cases k <;> rfl)
  rw [e2] at h
  exact h
theorem o_set {d : D} {K : List D → Prop} {n : Nat} (e : ixN ds.length x = some n) (h : K (ds.set n d)) : ixSet ds d K (.int x) := by
  unfold ixSet
  simp only [e]
  exact h
end
end Pu
namespace Pu
open PySem PySem.Spec PyProof.Rows L2
theorem o_powL {Q : D → Prop} {x y n : Int} (c : 0 ≤ y) (c1 : y ≤ 1000000) (c2 : x.natAbs < 2 ^ 64) (e : x ^ y.toNat = n) (h : Q (.int n)) : fPow (.int x) (.int y) Q := ⟨⟨c, c1, c2⟩, by
  show Q (.int (x ^ y.toNat))
  rw [e]
  exact h⟩
theorem o_pow8 {Q : D → Prop} (h : Q (.int 100000000)) : fPow (.int 10) (.int 8) Q := o_powL (by decide) (by decide) (by decide) (by decide) h
theorem o_pow12 {Q : D → Prop} (h : Q (.int 1000000000000)) : fPow (.int 10) (.int 12) Q := o_powL (by decide) (by decide) (by decide) (by decide) h
theorem o_pow18 {Q : D → Prop} (h : Q (.int 1000000000000000000)) : fPow (.int 10) (.int 18) Q := o_powL (by decide) (by decide) (by decide) (by decide) h
theorem o_pow25 {Q : D → Prop} (h : Q (.int 10000000000000000000000000)) : fPow (.int 10) (.int 25) Q := o_powL (by decide) (by decide) (by decide) (by decide) h
theorem o_pow30 {Q : D → Prop} (h : Q (.int 1000000000000000000000000000000)) : fPow (.int 10) (.int 30) Q := o_powL (by decide) (by decide) (by decide) (by decide) h
theorem o_pow31 {Q : D → Prop} (h : Q (.int 10000000000000000000000000000000)) : fPow (.int 10) (.int 31) Q := o_powL (by decide) (by decide) (by decide) (by decide) h
end Pu
namespace Pu
open PySem PySem.Spec PyProof.Rows L2
section
variable {δ : Dl} {P : PEnds} {i : Nat} {pi : PLx} {pg : PG'} {pb : PSx} {pe pf : PX} {QL : List D → Prop} {Q2 : Exn → Prop}
theorem w_for (h : pi δ (fun ds => pForL pg pb P ds δ) (P.ex δ)) : pFor pi pg pb P δ := h
theorem w_for0 (h : P.nx δ) : pForL pg pb P [] δ := h
theorem w_for1 {d : D} {ds : List D} (h : pg d δ fun δ' => pb { P with nx := pForL pg pb P ds, ct := pForL pg pb P ds, bk := P.nx } δ') : pForL pg pb P (d :: ds) δ := h
theorem w_forI (I : List D → Dl → Prop) (h0 : ∀ δ, I [] δ → P.nx δ)
    (h1 : ∀ (d : D) (ds : List D) (δ : Dl) (k : Dl → Prop), I (d :: ds) δ → (∀ δ', I ds δ' → k δ') → pg d δ fun δ' => pb { P with nx := k, ct := k, bk := P.nx } δ') : ∀ (ds : List D) (δ : Dl), I ds δ → pForL pg pb P ds δ
  | [], δ, h => h0 δ h
  | d :: ds, δ, h => h1 d ds δ _ h fun δ' h' => w_forI I h0 h1 ds δ' h'
theorem l_range1 (h : pe δ (fun d => match d with | .int j => b62 j ∧ QL (rangeD 0 j.toNat) | _ => False) Q2) : pRange1 pe δ QL Q2 := h
theorem l_range2 (h : pe δ (fun d => pf δ (fun e => match d, e with | .int i, .int j => b62 i ∧ b62 j ∧ QL (rangeD i (j - i).toNat) | _, _ => False) Q2) Q2) : pRange2 pe pf δ QL Q2 := h
theorem l_items {ds : List D} {d : D} (e : itemsD d = some ds) (h : QL ds) : (match itemsD d with | some ds => QL ds | none => False) := by rw [e]; exact h
theorem l_seq (h : pe δ (fun d => match itemsD d with | some ds => QL ds | none => False) Q2) : pItems pe δ QL Q2 := h
theorem g_name {d : D} {K : Dl → Prop} (h : K (δ.set i (some (.d d)))) : pgName i d δ K := h
end
end Pu
namespace Pu
open PySem PySem.Spec PyProof.Rows L2
theorem o_ixPool {Q : D → Prop} (h : ∀ s : Int, 0 ≤ s → Q (.int s)) : fIx .pool (.int 0) Q := ⟨rfl, h⟩
theorem r_rng4 {pg : PG'} {pb : PSx} {P : PEnds} {δ : Dl} (h : pForL pg pb P [.int 0, .int 1, .int 2, .int 3] δ) : pForL pg pb P (rangeD 0 (Int.toNat 4)) δ := h
end Pu
namespace Pu
open PySem PySem.Spec PyProof.Rows L2
section
variable {δ : Dl} {P : PEnds} {i : Nat} {pe pk : PX} {ps : PSx} {Q : D → Prop} {Q2 : Exn → Prop} {oa : Option Addr} {ds : List D}
theorem w_fzO (e : δ[i]? = some (some (.own oa ds))) (h : ps P (δ.set i (some (.d (.lst ds))))) : pFreeze i ps P δ := by unfold pFreeze; rw [e]; exact h
theorem w_fzD {d : D} (e : δ[i]? = some (some (.d d))) (h : ps P δ) : pFreeze i ps P δ := by unfold pFreeze; rw [e]; exact h
theorem w_ins (e : δ[i]? = some (some (.own oa ds))) (h : pk δ (fun k => pe δ (fun d => match k with
      | .int j => ds.length < szl ∧ 0 ≤ j ∧ j < 2 ^ 63 ∧ P.nx (δ.set i (some (.own oa (ds.take j.toNat ++ [d] ++ ds.drop j.toNat))))
      | _ => False) (P.ex δ)) (P.ex δ)) : pIns i pk pe P δ := by unfold pIns; rw [e]; exact h
theorem w_app (e : δ[i]? = some (some (.own oa ds))) (h : pe δ (fun d => ds.length < szl ∧ P.nx (δ.set i (some (.own oa (ds ++ [d]))))) (P.ex δ)) : pApp i pe P δ := by unfold pApp; rw [e]; exact h
theorem o_rep {x : D} {j : Int} (c : 0 ≤ j) (c2 : j ≤ 1000) (h : Q (.lst (List.replicate j.toNat x))) : fRep (.lst [x]) (.int j) Q := by
  have hz : szl = 16777216 := rfl
  refine ⟨by omega, by omega, by simp only [List.length_cons, List.length_nil]; omega, ?_⟩
  have e : (List.replicate j.toNat [x]).flatten = List.replicate j.toNat x := by
    induction j.toNat with
    | zero => rfl
    | succ n ih => rw [List.replicate_succ, List.flatten_cons, ih]; rfl
  rw [e]
  exact h
end
end Pu
namespace Pu
open PySem PySem.Spec PyProof.Rows L2
section
variable {δ : Dl} {P : PEnds} {i c : Nat} {p : PAx} {pe : PX} {Q : D → Prop} {Q2 : Exn → Prop}
theorem w_raise (h : p δ (fun ds => ds.length = (cfs c).length ∧ ds ≠ [] ∧ P.ex δ ⟨c, ds⟩) (P.ex δ)) : pRaise c p P δ := h
theorem w_retN (h : P.rt δ .non) : pRetN P δ := h
theorem w_brk (h : P.bk δ) : pBreak P δ := h
theorem w_cnt (h : P.ct δ) : pCont P δ := h
end
end Pu
namespace Pu
theorem w_ndec {p : Prop} [Decidable p] {A B : Prop} (h1 : ¬ p → A) (h2 : p → B) : if (!decide p) = true then A else B := by
  by_cases h : p
  · rw [decide_eq_true h]; exact w_ff (h2 h)
  · rw [decide_eq_false h]; exact w_tt (h1 h)
theorem w_nff {A B : Prop} (h : A) : if (!false) = true then A else B := w_tt h
theorem w_ntt {A B : Prop} (h : B) : if (!true) = true then A else B := w_ff h
end Pu
namespace Pu
open PySem PySem.Spec PyProof.Rows L2
section
variable {δ : Dl} {P : PEnds} {i : Nat} {pe pa : PX} {Q : D → Prop} {QL : List D → Prop} {Q2 : Exn → Prop} {d : D} {ds : List D} {K : Dl → Prop} {n : Nat} {u : List D → Dl → (Dl → Prop) → Prop} {t : PG'}
theorem o_lenI (e : itemsD d = some ds) (h : Q (.int ds.length)) : fLen [d] Q := by
  unfold itemsD at e
  split at e
  · cases e; exact h
  · cases e; exact h
  · cases e
theorem l_enum {k0 : Int} (h : pe δ (fun d => match itemsD d with | some ds => QL (enumD k0 ds) | none => False) Q2) : pEnum k0 pe δ QL Q2 := h
theorem g_seq2 {d1 d2 : D} (h : u [d1, d2] δ K) : pgSeq 2 u (.tup [d1, d2]) δ K := ⟨rfl, h⟩
theorem g_cons {d1 : D} {ds : List D} (h : t d1 δ (fun δ' => u ds δ' K)) : pgCons t u (d1 :: ds) δ K := h
theorem g_nil (h : K δ) : pgNil [] δ K := h
theorem o_count {ns : List Int} (e : itemsD d = some (ns.map .int)) (h : pa δ (fun y => match y with | .int k => Q (.int (ns.count k : Nat)) | _ => False) Q2) (hd : ∀ K : D → Prop, K d → pe δ K Q2) : pCount pe pa δ Q Q2 := by
  unfold pCount
  refine hd _ ?_
  simp only [e, intsD_map]
  exact h
end
end Pu
namespace Pu
open PySem PySem.Spec PyProof.Rows L2
section
variable {δ : Dl} {P : PEnds} {i c j : Nat} {pe : PX} {Q : D → Prop} {Q2 : Exn → Prop} {a : Addr} {d : D} {ds : List D}
theorem w_setF (e : δ[i]? = some (some (.slf a c ds))) (hj : ds.length = j) (h : pe δ (fun d => P.nx (δ.set i (some (.slf a c (ds ++ [d]))))) (P.ex δ)) : pSetF i c j pe P δ := by
  unfold pSetF
  rw [e]
  have e2 : (fun d => P.nx (δ.set i (some (.slf a c (ds ++ [d]))))) = fun d => (match (some (some (S.slf a c ds)) : Option (Option S)) with
    | some (some (.slf a c' ds)) => c' = c ∧ ds.length = j ∧ P.nx (δ.set i (some (.slf a c (ds ++ [d]))))
    | _ => False) := by
    funext d
    show _ = (c = c ∧ ds.length = j ∧ _)
    rw [eq_self, true_and, hj, eq_self, true_and]
  rw [e2] at h
  exact h
theorem o_tupI (e : itemsD d = some ds) (h : Q (.tup ds)) : fTuple [d] Q := by
  unfold fTuple
  simp only [e]
  exact h
end
end Pu
namespace Pu
theorem o_sumI {d : D} {ns : List Int} {Q : D → Prop} (e : itemsD d = some (ns.map .int)) (h : Q (.int (List.sum ns))) : fSumA [d] Q := by
  unfold fSumA
  simp only [e, intsD_map]
  exact h
end Pu
namespace Pu
open PySem PySem.Spec PyProof.Rows L2
section
variable {δ : Dl} {P : PEnds} {i c : Nat} {pe : PX} {pa : PAx} {pi : PSpI} {Q : D → Prop} {Q2 : Exn → Prop} {oa : Option Addr} {d : D} {ds : List D}
theorem w_ext (e : δ[i]? = some (some (.own oa ds))) (h : pe δ (fun d => match d with
      | .lst es => ds.length + es.length ≤ szl ∧ P.nx (δ.set i (some (.own oa (ds ++ es))))
      | _ => False) (P.ex δ)) : pExt i pe P δ := by unfold pExt; rw [e]; exact h
theorem e_makeV (e : δ[i]? = some (some (.d (.cls c)))) (h : pMakeW c pi pa δ Q Q2) : pMakeV i c pi pa δ Q Q2 := by unfold pMakeV; rw [e]; exact ⟨rfl, h⟩
theorem e_makeW (h : pa δ (fun ds => pi ds (fun fs => noLL fs = true ∧ Q (.obj c fs)) (fun e => noLL e.ds = true ∧ Q2 e)) Q2) : pMakeW c pi pa δ Q Q2 := h
theorem e_make (h : pa δ (fun ds => pi ds (fun fs => Q (.obj c fs)) Q2) Q2) : pMake c pi pa δ Q Q2 := h
end
theorem noLL_ints : ∀ ns : List Int, noLL (ns.map D.int) = true
  | [] => rfl
  | n :: ns => by rw [List.map_cons]; unfold noLL; rw [noLL_ints ns]; rfl
/-- the first mornings that the places name -/
def pls : Int → List Int → List Int
  | _, [] => []
  | k, n :: ns => List.replicate n.toNat k ++ pls (k + 1) ns
theorem pls_snoc : ∀ (k : Int) (ns : List Int) (y : Int), pls k (ns ++ [y]) = pls k ns ++ List.replicate y.toNat (k + ns.length)
  | k, [], y => by simp [pls]
  | k, n :: ns, y => by
    rw [List.cons_append]
    unfold pls
    rw [pls_snoc (k + 1) ns y, List.append_assoc, List.length_cons]
    congr 3
    omega
theorem pls_length : ∀ (k : Int) (ns : List Int), (∀ y ∈ ns, 0 ≤ y) → ((pls k ns).length : Int) = ns.sum
  | _, [], _ => rfl
  | k, n :: ns, h => by
    unfold pls
    rw [List.length_append, List.length_replicate, List.sum_cons]
    have := pls_length (k + 1) ns fun y hy => h y (List.mem_cons_of_mem _ hy)
    have := h n List.mem_cons_self
    omega
theorem pls_range : ∀ (k : Int) (ns : List Int), ∀ y ∈ pls k ns, k ≤ y ∧ y < k + ns.length
  | k, [], y, h => by cases h
  | k, n :: ns, y, h => by
    unfold pls at h
    rw [List.length_cons]
    rcases List.mem_append.mp h with h | h
    · rw [List.eq_of_mem_replicate h]
      omega
    · have := pls_range (k + 1) ns y h
      omega
end Pu
set_option Elab.async false
set_option linter.all false
set_option maxRecDepth 100000
set_option maxHeartbeats 2000000
set_option autoImplicit false
namespace Pu
open PySem PySem.Spec PyProof.Rows L2
/-! # comprehensions and loops by rows -/
section
variable {pg : PG'} {pt : PTx} {pe : PX} {pi : PLx} {δ δw : Dl} {Q : D → Prop} {Q2 : Exn → Prop} {P : PEnds} {pb : PSx} {vs : List Nat}
theorem w_lc (h : pi δ (fun ds => pLcL pg pt pe (wipeD δ vs) Q ds []) Q2) : pLc pi pg pt pe vs δ Q Q2 := h
theorem w_lcI (I : List D → List D → Prop) (h0 : ∀ es, I [] es → Q (.lst es))
    (h1 : ∀ (d : D) (ds es : List D) (k : List D → Prop), I (d :: ds) es → (∀ es', I ds es' → k es') → pg d δw fun δ' => pt δ' (fun b => if b = true then pe δ' (fun y => es.length < szl ∧ k (es ++ [y])) (fun _ => False) else k es) fun _ => False) :
    ∀ (ds es : List D), I ds es → pLcL pg pt pe δw Q ds es
  | [], es, h => h0 es h
  | d :: ds, es, h => h1 d ds es (pLcL pg pt pe δw Q ds) h fun es' h' => w_lcI I h0 h1 ds es' h'
theorem w_lcG {α : Type} (φ : α → D) (g : α → Option D) : ∀ (xs : List α) (es : List D), xs.length + es.length ≤ szl →
    (∀ x ∈ xs, ∀ K : Option D → Prop, K (g x) → pg (φ x) δw fun δ' => pt δ' (fun b => if b = true then pe δ' (fun y => K (some y)) (fun _ => False) else K none) fun _ => False) →
    Q (.lst (es ++ xs.filterMap g)) → pLcL pg pt pe δw Q (xs.map φ) es
  | [], es, _, _, hP => by
    show Q (.lst es)
    rw [List.filterMap_nil, List.append_nil] at hP
    exact hP
  | x :: xs, es, hl, h, hP => by
    rw [List.length_cons] at hl
    have ih := fun es' (hl' : xs.length + es'.length ≤ szl) => w_lcG φ g xs es' hl' fun y hy => h y (List.mem_cons_of_mem _ hy)
    refine h x List.mem_cons_self (fun o => match o with | some y => es.length < szl ∧ pLcL pg pt pe δw Q (xs.map φ) (es ++ [y]) | none => pLcL pg pt pe δw Q (xs.map φ) es) ?_
    cases e : g x with
    | none =>
      rw [List.filterMap_cons_none e] at hP
      exact ih es (by omega) hP
    | some y =>
      rw [List.filterMap_cons_some e] at hP
      refine ⟨by omega, ih _ (by rw [List.length_append, List.length_singleton]; omega) ?_⟩
      rw [List.append_assoc]
      exact hP
/-- a comprehension with a test -/
theorem w_lcT {α : Type} (φ : α → D) (xs : List α) (g : α → Option D) {ds : List D} (e : ds = xs.map φ) (hl : xs.length ≤ szl)
    (h : ∀ x ∈ xs, ∀ K : Option D → Prop, K (g x) → pg (φ x) δw fun δ' => pt δ' (fun b => if b = true then pe δ' (fun y => K (some y)) (fun _ => False) else K none) fun _ => False)
    (hP : Q (.lst (xs.filterMap g))) : pLcL pg pt pe δw Q ds [] := by
  rw [e]
  exact w_lcG φ g xs [] (by simpa using hl) h (by rw [List.nil_append]; exact hP)
/-- .. without a test -/
theorem w_lcM {α : Type} (φ : α → D) (xs : List α) (g : α → D) {ds : List D} (e : ds = xs.map φ) (hl : xs.length ≤ szl)
    (h : ∀ x ∈ xs, ∀ K : D → Prop, K (g x) → pg (φ x) δw fun δ' => pe δ' K fun _ => False)
    (hP : Q (.lst (xs.map g))) : pLcL pg pYes pe δw Q ds [] := by
  refine w_lcT φ xs (fun x => some (g x)) e hl (fun x hx K hK => ?_) ?_
  · exact h x hx (fun y => K (some y)) hK
  · rw [List.filterMap_eq_map']
    exact hP
/-- a loop by what it has taken -/
theorem w_forP {α : Type} (φ : α → D) (xs : List α) (I : List α → Dl → Prop) {ds : List D} (e : ds = xs.map φ) (h0 : ∀ δ, I xs δ → P.nx δ)
    (h1 : ∀ (pre : List α) (x : α) (post : List α) (δ : Dl) (k : Dl → Prop), xs = pre ++ x :: post → I pre δ → (∀ δ', I (pre ++ [x]) δ' → k δ') → pg (φ x) δ fun δ' => pb { P with nx := k, ct := k, bk := P.nx } δ')
    {δ : Dl} (h : I [] δ) : pForL pg pb P ds δ := by
  rw [e]
  refine w_forI (fun rest δ => ∃ pre post, xs = pre ++ post ∧ rest = post.map φ ∧ I pre δ) ?_ ?_ _ _ ⟨[], xs, rfl, rfl, h⟩
  · rintro δ ⟨pre, post, e1, e2, hI⟩
    have : post = [] := List.map_eq_nil_iff.mp e2.symm
    subst this
    rw [List.append_nil] at e1
    exact h0 δ (e1 ▸ hI)
  · rintro d ds δ k ⟨pre, post, e1, e2, hI⟩ hk
    cases post with
    | nil => cases e2
    | cons x post =>
      rw [List.map_cons] at e2
      injection e2 with e3 e4
      rw [e3]
      refine h1 pre x post δ k e1 hI fun δ' h' => hk δ' ⟨pre ++ [x], post, ?_, e4, h'⟩
      rw [List.append_assoc]
      exact e1
end
theorem rangeD_map (lo : Int) (n : Nat) : rangeD lo n = (List.range n).map fun (i : Nat) => D.int (lo + i) := rfl
theorem enumD_map {α : Type} (φ : α → D) (k0 : Int) : ∀ (xs : List α), enumD k0 (xs.map φ) = (xs.zipIdx).map fun (p : α × Nat) => D.tup [.int (k0 + p.2), φ p.1] := by
  intro xs
  have key : ∀ (xs : List α) (k : Nat), enumD (k0 + k) (xs.map φ) = (xs.zipIdx k).map fun (p : α × Nat) => D.tup [.int (k0 + p.2), φ p.1] := by
    intro xs
    induction xs with
    | nil => intro k; rfl
    | cons x xs ih =>
      intro k
      rw [List.map_cons, List.zipIdx_cons, List.map_cons]
      unfold enumD
      congr 1
      rw [← ih (k + 1)]
      congr 1
      omega
  have := key xs 0
  simpa using this
/-! ### what can be compared by _law_same -/
def okS : Nat → D → Prop
  | 0, _ => False
  | _ + 1, .non => True
  | _ + 1, .bl _ => True
  | _ + 1, .int _ => True
  | _ + 1, .str s => PyData.strOk s = true
  | n + 1, .lst ds => ds.length ≤ szl ∧ ∀ d ∈ ds, okS n d
  | n + 1, .tup ds => ds.length ≤ szl ∧ ∀ d ∈ ds, okS n d
  | _ + 1, _ => False
theorem okS_int {n : Nat} {i : Int} : okS (n + 1) (.int i) := trivial
theorem okS_ints {n : Nat} (ns : List Int) : ∀ d ∈ ns.map D.int, okS (n + 1) d := by
  intro d hd
  obtain ⟨i, _, rfl⟩ := List.mem_map.mp hd
  trivial
/-! ### more steps -/
def truK (F : Bool → D → Prop) (x : D) : Prop := match truD x with | some k => F k x | none => False
def tyK (T : String) (F : Bool → Prop) (x : D) : Prop := match isTy T x with | some b => F b | none => False
def clK (c : Nat) (cs : List Nat) (F : Bool → Prop) (x : D) : Prop := match isCl c cs x with | some b => F b | none => False
def fldK (tbl : List (Nat × Nat)) (Q : D → Prop) (x : D) : Prop := match x with
  | .obj c ds => (match tbl.lookup c with | some j => (match ds[j]? with | some d => Q d | none => False) | none => False)
  | _ => False
def objK (c : Nat) (F : Nat → List D → Prop) (x : D) : Prop := match x with | .obj c' ds => c' = c ∧ F c' ds | _ => False
section
variable {F : Bool → D → Prop} {F1 : Bool → Prop} {Q : D → Prop} {c : Nat} {cs : List Nat} {ds : List D} {x : D} {b : Bool}
theorem k_truB (h : F b (.bl b)) : truK F (.bl b) := h
theorem k_truN (h : F false .non) : truK F .non := h
theorem k_truI {i : Int} (h : F (i != 0) (.int i)) : truK F (.int i) := h
theorem k_truL (h : F (!ds.isEmpty) (.lst ds)) : truK F (.lst ds) := h
theorem k_truT (h : F (!ds.isEmpty) (.tup ds)) : truK F (.tup ds) := h
theorem k_ty_bool_non (h : F1 false) : tyK "bool" F1 .non := h
theorem k_ty_bool_bl (h : F1 true) : tyK "bool" F1 (.bl b) := h
theorem k_ty_bool_int {i : Int} (h : F1 false) : tyK "bool" F1 (.int i) := h
theorem k_ty_bool_str {s : Str} (h : F1 false) : tyK "bool" F1 (.str s) := h
theorem k_ty_bool_lst (h : F1 false) : tyK "bool" F1 (.lst ds) := h
theorem k_ty_bool_tup (h : F1 false) : tyK "bool" F1 (.tup ds) := h
theorem k_ty_int_non (h : F1 false) : tyK "int" F1 .non := h
theorem k_ty_int_bl (h : F1 true) : tyK "int" F1 (.bl b) := h
theorem k_ty_int_int {i : Int} (h : F1 true) : tyK "int" F1 (.int i) := h
theorem k_ty_int_str {s : Str} (h : F1 false) : tyK "int" F1 (.str s) := h
theorem k_ty_int_lst (h : F1 false) : tyK "int" F1 (.lst ds) := h
theorem k_ty_int_tup (h : F1 false) : tyK "int" F1 (.tup ds) := h
theorem k_ty_str_non (h : F1 false) : tyK "str" F1 .non := h
theorem k_ty_str_bl (h : F1 false) : tyK "str" F1 (.bl b) := h
theorem k_ty_str_int {i : Int} (h : F1 false) : tyK "str" F1 (.int i) := h
theorem k_ty_str_str {s : Str} (h : F1 true) : tyK "str" F1 (.str s) := h
theorem k_ty_str_lst (h : F1 false) : tyK "str" F1 (.lst ds) := h
theorem k_ty_str_tup (h : F1 false) : tyK "str" F1 (.tup ds) := h
theorem k_ty_list_non (h : F1 false) : tyK "list" F1 .non := h
theorem k_ty_list_bl (h : F1 false) : tyK "list" F1 (.bl b) := h
theorem k_ty_list_int {i : Int} (h : F1 false) : tyK "list" F1 (.int i) := h
theorem k_ty_list_str {s : Str} (h : F1 false) : tyK "list" F1 (.str s) := h
theorem k_ty_list_lst (h : F1 true) : tyK "list" F1 (.lst ds) := h
theorem k_ty_list_tup (h : F1 false) : tyK "list" F1 (.tup ds) := h
theorem k_ty_tuple_non (h : F1 false) : tyK "tuple" F1 .non := h
theorem k_ty_tuple_bl (h : F1 false) : tyK "tuple" F1 (.bl b) := h
theorem k_ty_tuple_int {i : Int} (h : F1 false) : tyK "tuple" F1 (.int i) := h
theorem k_ty_tuple_str {s : Str} (h : F1 false) : tyK "tuple" F1 (.str s) := h
theorem k_ty_tuple_lst (h : F1 false) : tyK "tuple" F1 (.lst ds) := h
theorem k_ty_tuple_tup (h : F1 true) : tyK "tuple" F1 (.tup ds) := h
theorem k_tyt {T : String} (e : isTy T x = some true) (h : F1 true) : tyK T F1 x := by
  unfold tyK
  simp only [e]
  exact h
theorem k_tyf {T : String} (e : isTy T x = some false) (h : F1 false) : tyK T F1 x := by
  unfold tyK
  simp only [e]
  exact h
theorem k_clOt {c' : Nat} (e1 : cs.contains c' = true) (e2 : (c' == c) = true) (h : F1 true) : clK c cs F1 (.obj c' ds) := by
  unfold clK isCl
  simp only [e1, if_true, e2]
  exact h
theorem k_clOf {c' : Nat} (e1 : cs.contains c' = true) (e2 : (c' == c) = false) (h : F1 false) : clK c cs F1 (.obj c' ds) := by
  unfold clK isCl
  simp only [e1, if_true, e2]
  exact h
theorem k_clO {c' : Nat} {b : Bool} (e1 : cs.contains c' = true) (e2 : (c' == c) = b) (h : F1 b) : clK c cs F1 (.obj c' ds) := by
  unfold clK isCl
  simp only [e1, if_true, e2]
  exact h
theorem k_clN {t : String} (e : tyD x = some t) (h : F1 false) : clK c cs F1 x := by
  unfold clK isCl
  cases x <;> first | (simp only [e]; exact h) | cases e
theorem k_fld {tbl : List (Nat × Nat)} {j : Nat} (h1 : tbl.lookup c = some j) (h2 : ds[j]? = some x) (q : Q x) : fldK tbl Q (.obj c ds) := by
  unfold fldK
  simp only [h1, h2]
  exact q
theorem k_obj {F : Nat → List D → Prop} (h : F c ds) : objK c F (.obj c ds) := ⟨rfl, h⟩
end
section
variable {δ : Dl} {P : PEnds} {i : Nat} {pe pa pb : PX} {p : PAx} {Q : D → Prop} {QT : Bool → Prop} {Q2 : Exn → Prop} {pt : PTx}
theorem t_truK (h : pe δ (truK fun k _ => QT k) Q2) : pTru pe δ QT Q2 := h
theorem e_and (h : pa δ (truK fun k x => if k = true then pb δ Q Q2 else Q x) Q2) : pAndV pa pb δ Q Q2 := h
theorem e_or (h : pa δ (truK fun k x => if k = true then Q x else pb δ Q Q2) Q2) : pOrV pa pb δ Q Q2 := h
theorem e_not (h : pa δ (truK fun k _ => Q (.bl (!k))) Q2) : pNotV pa δ Q Q2 := h
theorem e_isT {T : String} (h : pe δ (tyK T fun b => Q (.bl b)) Q2) : pIsT T pe δ Q Q2 := h
theorem e_isC {c : Nat} {cs : List Nat} (h : pe δ (clK c cs fun b => Q (.bl b)) Q2) : pIsC c cs pe δ Q Q2 := h
theorem e_callW {g : PSp} (h : p δ (fun ds => g ds (fun d => noL d = true ∧ Q d) (fun e => noLL e.ds = true ∧ Q2 e)) Q2) : pCallW g p δ Q Q2 := h
theorem e_cm {g : PSp} {c : Nat} (h : p δ (fun ds => g (.cls c :: ds) (fun d => noL d = true ∧ Q d) (fun e => noLL e.ds = true ∧ Q2 e)) Q2) : pCm c g p δ Q Q2 := h
theorem e_fld {tbl : List (Nat × Nat)} (h : pe δ (fldK tbl Q) Q2) : pFld tbl pe δ Q Q2 := h
theorem e_prop {c : Nat} {g : PSp} (h : pe δ (objK c fun c' ds => g [.obj c' ds] Q (fun _ => False)) Q2) : pProp c g pe δ Q Q2 := h
theorem e_meth {c : Nat} {g : PSp} (h : pe δ (objK c fun c' ds0 => p δ (fun ds => g (.obj c' ds0 :: ds) Q Q2) Q2) Q2) : pMeth c g pe p δ Q Q2 := h
theorem w_try {f : Nat → Option Bool} {ps : Addr → Value → Option Addr → PSx} {pb : PSx} (h : pb { P with ex := pTryEx i f ps P } δ) : pTryAs i f pb ps P δ := h
theorem w_tryEx {f : Nat → Option Bool} {ps : Addr → Value → Option Addr → PSx} {e : Exn} (c : f e.c = some true)
    (h : ∀ a cls d, ps a cls d { nx := fun δ2 => P.nx (δ2.set i none), rt := P.rt, bk := fun δ2 => P.bk (δ2.set i none), ct := fun δ2 => P.ct (δ2.set i none), ex := fun _ _ => False } (δ.set i (some (.exc a cls d e)))) : pTryEx i f ps P δ e := by
  unfold pTryEx
  simp only [c]
  exact h
theorem e_xm {a : Addr} {cls : Value} {d : Option Addr} {tbl : List (Nat × Nat)} {e : Exn} {j : Nat} {x : D} (h : δ[i]? = some (some (.exc a cls d e))) (h1 : tbl.lookup e.c = some j) (h2 : e.ds[j]? = some x) (q : Q x) : pXm a cls d i tbl δ Q Q2 := by
  unfold pXm
  rw [h]
  refine ⟨rfl, rfl, rfl, ?_⟩
  simp only [h1, h2]
  exact q
theorem e_isX {a : Addr} {cls : Value} {d : Option Addr} {f : Nat → Option Bool} {e : Exn} {b : Bool} (h : δ[i]? = some (some (.exc a cls d e))) (h1 : f e.c = some b) (q : Q (.bl b)) : pIsX a cls d i f δ Q Q2 := by
  unfold pIsX
  rw [h]
  refine ⟨rfl, rfl, rfl, ?_⟩
  simp only [h1]
  exact q
theorem o_isNf {x : D} (e : isNon x = false) (q : Q (.bl false)) : fIsN x .non Q := by
  show Q (.bl (isNon x))
  rw [e]; exact q
theorem o_isNt {x : D} (e : isNon x = true) (q : Q (.bl true)) : fIsN x .non Q := by
  show Q (.bl (isNon x))
  rw [e]; exact q
theorem o_notNf {x : D} (e : isNon x = false) (q : Q (.bl true)) : fNotN x .non Q := by
  show Q (.bl (!isNon x))
  rw [e]; exact q
theorem o_notNt {x : D} (e : isNon x = true) (q : Q (.bl false)) : fNotN x .non Q := by
  show Q (.bl (!isNon x))
  rw [e]; exact q
/-! built-in calls -/
theorem o_listI {d : D} {ds : List D} (e : itemsD d = some ds) (q : Q (.lst ds)) : fList [d] Q := by
  unfold itemsD at e
  split at e <;> first | (cases e; exact q) | cases e
theorem o_isN_bl {b : Bool} (q : Q (.bl false)) : fIsN (.bl b) .non Q := q
theorem o_notN_bl {b : Bool} (q : Q (.bl true)) : fNotN (.bl b) .non Q := q
theorem o_isN_int {i : Int} (q : Q (.bl false)) : fIsN (.int i) .non Q := q
theorem o_notN_int {i : Int} (q : Q (.bl true)) : fNotN (.int i) .non Q := q
theorem o_isN_str {s : Str} (q : Q (.bl false)) : fIsN (.str s) .non Q := q
theorem o_notN_str {s : Str} (q : Q (.bl true)) : fNotN (.str s) .non Q := q
theorem o_isN_lst {ds : List D} (q : Q (.bl false)) : fIsN (.lst ds) .non Q := q
theorem o_notN_lst {ds : List D} (q : Q (.bl true)) : fNotN (.lst ds) .non Q := q
theorem o_isN_tup {ds : List D} (q : Q (.bl false)) : fIsN (.tup ds) .non Q := q
theorem o_notN_tup {ds : List D} (q : Q (.bl true)) : fNotN (.tup ds) .non Q := q
theorem o_isN_obj {c : Nat} {ds : List D} (q : Q (.bl false)) : fIsN (.obj c ds) .non Q := q
theorem o_notN_obj {c : Nat} {ds : List D} (q : Q (.bl true)) : fNotN (.obj c ds) .non Q := q
theorem o_isN_non (q : Q (.bl true)) : fIsN .non .non Q := q
theorem o_notN_non (q : Q (.bl false)) : fNotN .non .non Q := q
end
end Pu

/-! ### == of data with a Lean type -/
namespace Pu
open PySem PySem.Spec PyProof.Rows L2
class DTy (α : Type) [DecidableEq α] where
  d : α → D
  py : α → PyData
  h1 : ∀ a, toPy (d a) = some (py a)
  h2 : ∀ a b, PyData.eqv (py a) (py b) = decide (a = b)
  k : Nat
  h3 : ∀ a, (py a).canLay0 = true
  h4 : ∀ a, (py a).depth ≤ k
theorem beq_dec {α : Type} [BEq α] [LawfulBEq α] [DecidableEq α] (a b : α) : (a == b) = decide (a = b) := by
  rw [Bool.eq_iff_iff, beq_iff_eq, decide_eq_true_eq]
instance : DTy Int where
  d := .int
  py := .int
  h1 _ := rfl
  h2 a b := by simp only [PyData.eqv]; exact beq_dec a b
  k := 0
  h3 _ := rfl
  h4 _ := Nat.le_refl _
instance : DTy Bool where
  d := .bl
  py := .bool
  h1 _ := rfl
  h2 a b := by simp only [PyData.eqv]; exact beq_dec a b
  k := 0
  h3 _ := rfl
  h4 _ := Nat.le_refl _
section
variable {α β : Type} [DecidableEq α] [DTy α] [DecidableEq β] [DTy β]
theorem dty_all : ∀ xs : List α, toPyAll (xs.map DTy.d) = some (xs.map DTy.py)
  | [] => by unfold toPyAll; rfl
  | x :: xs => by
    rw [List.map_cons, List.map_cons]
    unfold toPyAll
    rw [DTy.h1 x, dty_all xs]
theorem dty_can : ∀ xs : List α, PyData.canLayAll0 (xs.map DTy.py) = true
  | [] => by rw [List.map_nil, PyData.canLayAll0]
  | x :: xs => by
    rw [List.map_cons, PyData.canLayAll0, DTy.h3 x, dty_can xs]
    rfl
theorem dty_dep : ∀ xs : List α, PyData.depthAll (xs.map DTy.py) ≤ DTy.k α
  | [] => Nat.zero_le _
  | x :: xs => by
    rw [List.map_cons, PyData.depthAll]
    exact Nat.max_le.mpr ⟨DTy.h4 x, dty_dep xs⟩
theorem dty_eqv : ∀ xs ys : List α, PyData.eqvAll (xs.map DTy.py) (ys.map DTy.py) = decide (xs = ys)
  | [], [] => by simp only [List.map_nil, PyData.eqvAll, decide_true]
  | [], _ :: _ => by simp [PyData.eqvAll]
  | _ :: _, [] => by simp [PyData.eqvAll]
  | x :: xs, y :: ys => by
    rw [List.map_cons, List.map_cons, PyData.eqvAll, DTy.h2 x y, dty_eqv xs ys, ← Bool.decide_and]
    exact decide_eq_decide.mpr (by rw [List.cons.injEq])
instance : DTy (List α) where
  d xs := .lst (xs.map DTy.d)
  py xs := .list (xs.map DTy.py)
  h1 xs := by unfold toPy; rw [dty_all]; rfl
  h2 xs ys := by simp only [PyData.eqv]; exact dty_eqv xs ys
  k := DTy.k α + 1
  h3 xs := by simp only [PyData.canLay0]; exact dty_can xs
  h4 xs := by simp only [PyData.depth]; exact Nat.succ_le_succ (dty_dep xs)
/-- a tuple of any length of items of one type -/
structure Tp (α : Type) where
  its : List α
deriving DecidableEq
instance : DTy (Tp α) where
  d t := .tup (t.its.map DTy.d)
  py t := .tuple (t.its.map DTy.py)
  h1 t := by unfold toPy; rw [dty_all]; rfl
  h2 t u := by
    simp only [PyData.eqv]
    rw [dty_eqv]
    exact decide_eq_decide.mpr ⟨fun e => by cases t; cases u; exact congrArg Tp.mk e, fun e => by rw [e]⟩
  k := DTy.k α + 1
  h3 t := by simp only [PyData.canLay0]; exact dty_can t.its
  h4 t := by simp only [PyData.depth]; exact Nat.succ_le_succ (dty_dep t.its)
instance : DTy (α × β) where
  d p := .tup [DTy.d p.1, DTy.d p.2]
  py p := .tuple [DTy.py p.1, DTy.py p.2]
  h1 p := by unfold toPy toPyAll toPyAll toPyAll; simp only [DTy.h1]; rfl
  h2 p q := by
    simp only [PyData.eqv, PyData.eqvAll]
    rw [DTy.h2, DTy.h2, Bool.and_true, ← Bool.decide_and]
    exact decide_eq_decide.mpr ⟨fun e => Prod.ext e.1 e.2, fun e => by rw [e]; exact ⟨rfl, rfl⟩⟩
  k := max (DTy.k α) (DTy.k β) + 1
  h3 p := by simp only [PyData.canLay0, PyData.canLayAll0, DTy.h3, Bool.and_self]
  h4 p := by
    simp only [PyData.depth, PyData.depthAll]
    exact Nat.succ_le_succ (Nat.max_le.mpr ⟨Nat.le_trans (DTy.h4 p.1) (Nat.le_max_left _ _), Nat.max_le.mpr ⟨Nat.le_trans (DTy.h4 p.2) (Nat.le_max_right _ _), Nat.zero_le _⟩⟩)
theorem dty_shaped (a : α) (hk : DTy.k α ≤ 64) : SeqAt.shaped (DTy.py a) = true := by
  unfold SeqAt.shaped
  rw [DTy.h3 a, decide_eq_true (Nat.le_trans (DTy.h4 a) hk)]
  rfl
theorem o_eqT {Q : D → Prop} {a b : α} (hk : DTy.k α ≤ 64) (q : Q (.bl (decide (a = b)))) : fEq (DTy.d a) (DTy.d b) Q :=
  ⟨_, _, DTy.h1 a, DTy.h1 b, dty_shaped a hk, dty_shaped b hk, by rw [DTy.h2]; exact q⟩
theorem o_neT {Q : D → Prop} {a b : α} (hk : DTy.k α ≤ 64) (q : Q (.bl (!decide (a = b)))) : fNe (DTy.d a) (DTy.d b) Q :=
  ⟨_, _, DTy.h1 a, DTy.h1 b, dty_shaped a hk, dty_shaped b hk, by rw [DTy.h2]; exact q⟩
end
theorem o_eqTI {Q : D → Prop} {a b : List Int} (q : Q (.bl (decide (a = b)))) : fEq (.tup (a.map .int)) (.tup (b.map .int)) Q := by
  have h : decide ((⟨a⟩ : Tp Int) = ⟨b⟩) = decide (a = b) := decide_eq_decide.mpr ⟨fun e => congrArg Tp.its e, fun e => by rw [e]⟩
  exact o_eqT (α := Tp Int) (a := ⟨a⟩) (b := ⟨b⟩) (by decide) (by rw [h]; exact q)
theorem o_neLI {Q : D → Prop} {a b : List Int} (q : Q (.bl (!decide (a = b)))) : fNe (.lst (a.map .int)) (.lst (b.map .int)) Q := o_neT (α := List Int) (by decide) q
theorem o_eqLI {Q : D → Prop} {a b : List Int} (q : Q (.bl (decide (a = b)))) : fEq (.lst (a.map .int)) (.lst (b.map .int)) Q := o_eqT (α := List Int) (by decide) q
theorem o_eqB {Q : D → Prop} {a b : Bool} (q : Q (.bl (decide (a = b)))) : fEq (.bl a) (.bl b) Q := o_eqT (α := Bool) (by decide) q
theorem o_eqS {Q : D → Prop} {a b : Str} (ha : PyData.strOk a = true) (hb : PyData.strOk b = true) (q : Q (.bl (decide (a = b)))) : fEq (.str a) (.str b) Q := by
  refine ⟨.str a, .str b, rfl, rfl, ?_, ?_, ?_⟩
  · unfold SeqAt.shaped; rw [PyData.canLay0, ha]; rfl
  · unfold SeqAt.shaped; rw [PyData.canLay0, hb]; rfl
  · have e : PyData.eqv (.str a) (.str b) = decide (a = b) := by simp only [PyData.eqv]; exact beq_dec a b
    rw [e]; exact q
theorem o_neNilC {Q : D → Prop} {x : Int} {a : List Int} (q : Q (.bl true)) : fNe (.lst ((x :: a).map .int)) (.lst []) Q :=
  o_neLI (b := []) (by rw [decide_eq_false (by simp)]; exact q)
theorem o_neNil0 {Q : D → Prop} (q : Q (.bl false)) : fNe (.lst []) (.lst []) Q := o_neLI (a := []) (b := []) (by rw [decide_eq_true rfl]; exact q)
theorem o_neNilT0 {Q : D → Prop} (q : Q (.bl false)) : fNe (.tup []) (.tup []) Q := o_neT (α := Tp Int) (a := ⟨[]⟩) (b := ⟨[]⟩) (by decide) (by rw [decide_eq_true rfl]; exact q)
theorem o_neNilT {Q : D → Prop} {i : Int} {s : Str} (hs : PyData.strOk s = true) (q : Q (.bl true)) : fNe (.tup [.int i, .str s]) (.tup []) Q := by
  refine ⟨.tuple [.int i, .str s], .tuple [], rfl, rfl, ?_, rfl, ?_⟩
  · unfold SeqAt.shaped
    rw [PyData.canLay0, PyData.canLayAll0, PyData.canLayAll0, PyData.canLay0, PyData.canLay0, hs]
    rfl
  · rw [PyData.eqv, PyData.eqvAll]
    · exact q
end Pu
set_option Elab.async false
set_option linter.all false
set_option maxRecDepth 100000
set_option maxHeartbeats 2000000
set_option autoImplicit false
namespace Pu
open PySem PySem.Spec PyProof.Rows L2
theorem atI_zero {d : D} {ds : List D} : atI (d :: ds) 0 = some d := by
  unfold atI ixN
  rw [if_pos (by omega), if_pos (by simp only [List.length_cons]; omega)]
  rfl
theorem o_ixL0 {Q : D → Prop} {d : D} {ds : List D} (q : Q d) : fIx (.lst (d :: ds)) (.int 0) Q := o_ixL atI_zero q
theorem o_ixL0I {Q : D → Prop} {d : Int} {ds : List Int} (q : Q (.int d)) : fIx (.lst ((d :: ds).map .int)) (.int 0) Q := o_ixL (by rw [List.map_cons]; exact atI_zero) q
end Pu
namespace Pu
theorem e_un {δ : Dl} {f : PUn} {pa : PX} {Q : D → Prop} {Q2 : Exn → Prop} (h : pa δ (fun x => f x Q) Q2) : pUn f pa δ Q Q2 := h
theorem o_neg {Q : D → Prop} {i : Int} (q : Q (.int (-i))) : fNeg (.int i) Q := q
theorem l_itR {QL : List D → Prop} {d : D} {ds : List D} (e : itemsD d = some ds) (h : QL ds) : (match itemsD d with | some ds => QL ds | none => False) := by rw [e]; exact h
end Pu
namespace Pu
open PySem PySem.Spec PyProof.Rows L2
/-! ### own lists of one kind of items -/
def intK (F : Int → Prop) : D → Prop
  | .int j => F j
  | _ => False
theorem k_int {F : Int → Prop} {j : Int} (h : F j) : intK F (.int j) := h
def exK {α : Type} (φ : α → D) (d : D) (F : α → Prop) : Prop := ∃ x, d = φ x ∧ F x
theorem k_exI {F : Int → Prop} {j : Int} (h : F j) : exK D.int (.int j) F := ⟨j, rfl, h⟩
section
variable {α : Type} {φ : α → D} {xs : List α} {δ : Dl} {P : PEnds} {i : Nat} {pe pk : PX} {Q : D → Prop} {Q2 : Exn → Prop} {oa : Option Addr}
theorem intK_le {F : Int → Prop} {k : D} (h : intK F k) : ∃ j, k = .int j ∧ F j := by
  unfold intK at h
  split at h
  · exact ⟨_, rfl, h⟩
  · exact h.elim
theorem ixN_nat {n : Nat} {j : Int} (h1 : 0 ≤ j) (h2 : j < n) : ixN n j = some j.toNat := by
  unfold ixN
  rw [if_pos h1, if_pos h2]
theorem atI_map {j : Int} (h1 : 0 ≤ j) (h2 : j < xs.length) : ∃ x, xs[j.toNat]? = some x ∧ atI (xs.map φ) j = some (φ x) := by
  have hl : j.toNat < xs.length := by omega
  refine ⟨xs[j.toNat], List.getElem?_eq_getElem hl, ?_⟩
  unfold atI
  rw [ixN_nat h1 (by rw [List.length_map]; exact h2)]
  show (xs.map φ)[j.toNat]? = _
  rw [List.getElem?_map, List.getElem?_eq_getElem hl]
  rfl
theorem o_ixM {j : Int} (h1 : 0 ≤ j) (h2 : j < xs.length) (h : ∀ x, xs[j.toNat]? = some x → Q (φ x)) : fIx (.lst (xs.map φ)) (.int j) Q := by
  obtain ⟨x, e1, e2⟩ := atI_map (φ := φ) h1 h2
  exact o_ixL e2 (h x e1)
theorem o_ixMT {j : Int} (h1 : 0 ≤ j) (h2 : j < xs.length) (h : ∀ x, xs[j.toNat]? = some x → Q (φ x)) : fIx (.tup (xs.map φ)) (.int j) Q := by
  obtain ⟨x, e1, e2⟩ := atI_map (φ := φ) h1 h2
  exact o_ixT e2 (h x e1)
end
theorem map_erase {α β : Type} {f : α → β} : ∀ (xs : List α) (j : Nat), (xs.eraseIdx j).map f = (xs.map f).eraseIdx j
  | [], _ => rfl
  | _ :: _, 0 => rfl
  | x :: xs, j + 1 => by
    show f x :: (xs.eraseIdx j).map f = f x :: (xs.map f).eraseIdx j
    rw [map_erase xs j]
def appK (ds : List D) (F : List D → Prop) : D → Prop := fun d => ds.length < szl ∧ F (ds ++ [d])
def insK (ds : List D) (F : List D → Prop) : D → D → Prop := fun k d => match k with
  | .int j => ds.length < szl ∧ 0 ≤ j ∧ j < 2 ^ 63 ∧ F (ds.take j.toNat ++ [d] ++ ds.drop j.toNat)
  | _ => False
def popK (ds : List D) (F : List D → Prop) : D → Prop := fun d => match d with
  | .int k => -(2 ^ 63) ≤ k ∧ k < 2 ^ 63 ∧ (match ixN ds.length k with | some j => F (ds.eraseIdx j) | none => False)
  | _ => False
section
variable {α : Type} {φ : α → D} {xs : List α} {ds : List D} {d : D} {F : List D → Prop} {j : Int} {ns : List Int} {x : Int} {y : α}
theorem k_appI (h1 : ns.length < szl) (h : F ((ns ++ [x]).map .int)) : appK (ns.map .int) F (.int x) := ⟨by rw [List.length_map]; exact h1, by rw [List.map_append] at h; exact h⟩
theorem k_app (h1 : ds.length < szl) (h : F (ds ++ [d])) : appK ds F d := ⟨h1, h⟩
theorem k_appM (h1 : xs.length < szl) (h : F ((xs ++ [y]).map φ)) : appK (xs.map φ) F (φ y) := ⟨by rw [List.length_map]; exact h1, by rw [List.map_append] at h; exact h⟩
theorem k_insM (h1 : xs.length < szl) (h2 : 0 ≤ j) (h3 : j < 2 ^ 63) (h : F ((xs.take j.toNat ++ [y] ++ xs.drop j.toNat).map φ)) : insK (xs.map φ) F (.int j) (φ y) := by
  refine ⟨by rw [List.length_map]; exact h1, h2, h3, ?_⟩
  rw [List.map_append, List.map_append, List.map_take, List.map_drop] at h
  exact h
theorem k_insI (h1 : ns.length < szl) (h2 : 0 ≤ j) (h3 : j < 2 ^ 63) (h : F ((ns.take j.toNat ++ [x] ++ ns.drop j.toNat).map .int)) : insK (ns.map .int) F (.int j) (.int x) := k_insM h1 h2 h3 h
theorem k_setM {K : List D → Prop} (h1 : 0 ≤ j) (h2 : j < xs.length) (h : K ((xs.set j.toNat y).map φ)) : ixSet (xs.map φ) (φ y) K (.int j) := by
  refine o_set (n := j.toNat) (ixN_nat h1 (by rw [List.length_map]; exact h2)) ?_
  rw [List.map_set] at h
  exact h
theorem k_setI {K : List D → Prop} (h1 : 0 ≤ j) (h2 : j < ns.length) (h : K ((ns.set j.toNat x).map .int)) : ixSet (ns.map .int) (.int x) K (.int j) := k_setM h1 h2 h
theorem k_popM (h1 : 0 ≤ j) (h2 : j < xs.length) (h3 : xs.length < 2 ^ 62) (h : F ((xs.eraseIdx j.toNat).map φ)) : popK (xs.map φ) F (.int j) := by
  refine ⟨by omega, by omega, ?_⟩
  rw [ixN_nat h1 (by rw [List.length_map]; exact h2)]
  rw [map_erase] at h
  exact h
end
section
variable {δ : Dl} {P : PEnds} {i : Nat} {pe pk : PX} {oa : Option Addr} {ds : List D}
theorem w_appK (e : δ[i]? = some (some (.own oa ds))) (h : pe δ (appK ds fun es => P.nx (δ.set i (some (.own oa es)))) (P.ex δ)) : pApp i pe P δ := w_app e h
theorem w_insK (e : δ[i]? = some (some (.own oa ds))) (h : pk δ (fun k => pe δ (insK ds (fun es => P.nx (δ.set i (some (.own oa es)))) k) (P.ex δ)) (P.ex δ)) : pIns i pk pe P δ := w_ins e h
theorem w_popK (e : δ[i]? = some (some (.own oa ds))) (h : pe δ (popK ds fun es => P.nx (δ.set i (some (.own oa es)))) (P.ex δ)) : pPopAt i pe P δ := by
  unfold pPopAt
  rw [e]
  exact h
end
end Pu
namespace Pu
theorem o_neNilI {ns : List Int} {Q : D → Prop} (h1 : ns = [] → Q (.bl false)) (h2 : ns ≠ [] → Q (.bl true)) : fNe (.lst (ns.map .int)) (.lst []) Q := by
  cases ns with
  | nil => exact o_neNil0 (h1 rfl)
  | cons x ns => exact o_neNilC (h2 (by simp))
end Pu
namespace Pu
theorem t_yes {δ : Dl} {QT : Bool → Prop} {Q2 : Exn → Prop} (h : QT true) : pYes δ QT Q2 := h
end Pu
namespace Pu
theorem w_cut {a b : PSx} {P : PEnds} {δ : Dl} (I : Dl → Prop) (hb : ∀ δ', I δ' → b P δ') (ha : ∀ k : Dl → Prop, (∀ δ', I δ' → k δ') → a { P with nx := k } δ) : pSeq a b P δ := ha (b P) hb
theorem fnew {ns : List Int} {P : D → Prop} {P2 : Exn → Prop} (h : ns.length ≤ 63) (q : P .pool) : wpNewPool [.script ns] P P2 := ⟨ns, rfl, h, q⟩
end Pu
namespace Pu
theorem o_neLIr {a : List Int} {Q : D → Prop} (q : Q (.bl false)) : fNe (.lst (a.map .int)) (.lst (a.map .int)) Q := o_neLI (by rw [decide_eq_true rfl]; exact q)
theorem o_sortI {ns : List Int} {Q : D → Prop} (h : ∀ ns' : List Int, ns'.Perm ns → ns'.Pairwise (· ≤ ·) → Q (.lst (ns'.map .int))) : fSortI [.lst (ns.map .int)] Q := by
  unfold fSortI
  simp only [intsD_map]
  exact h
theorem sorted_eq {a b : List Int} (p : a.Perm b) (h1 : a.Pairwise (· ≤ ·)) (h2 : b.Pairwise (· ≤ ·)) : a = b := p.eq_of_pairwise (fun _ _ _ _ x y => Int.le_antisymm x y) h1 h2
end Pu
namespace Pu
open PySem PySem.Spec PyProof.Rows L2
theorem e_fldS {i c j : Nat} {δ : Dl} {Q : D → Prop} {Q2 : Exn → Prop} {a : Addr} {ds : List D} {x : D} (e : δ[i]? = some (some (.slf a c ds))) (h2 : ds[j]? = some x) (q : Q x) : pFldS i c j δ Q Q2 := by
  unfold pFldS
  rw [e]
  refine ⟨rfl, ?_⟩
  simp only [h2]
  exact q
theorem k_truLn {F : Bool → D → Prop} (h : F false (.lst [])) : truK F (.lst []) := h
theorem k_truLc {F : Bool → D → Prop} {ds : List D} (hn : ds ≠ []) (h : F true (.lst ds)) : truK F (.lst ds) := by
  cases ds with
  | nil => exact absurd rfl hn
  | cons x xs => exact h
theorem snoc_ind {α : Type} {p : List α → Prop} (h0 : p []) (h1 : ∀ xs x, p xs → p (xs ++ [x])) (xs : List α) : p xs := by
  have key : ∀ (n : Nat) (xs : List α), xs.length = n → p xs := by
    intro n
    induction n with
    | zero => intro xs hl; rw [List.eq_nil_of_length_eq_zero hl]; exact h0
    | succ n ih =>
      intro xs hl
      have hne : xs ≠ [] := fun e => by rw [e] at hl; cases hl
      have e := List.dropLast_concat_getLast hne
      rw [← e]
      exact h1 _ _ (ih _ (by rw [List.length_dropLast]; omega))
  exact key _ xs rfl
end Pu
set_option Elab.async false
set_option linter.all false
set_option maxRecDepth 100000
set_option maxHeartbeats 2000000
set_option autoImplicit false
namespace Pu
open PySem PySem.Spec PyProof.Rows L2
def intO (F : Option Int → Prop) : D → Prop
  | .int i => F (some i)
  | _ => False
section
variable {α : Type} {φ : α → D} {xs ys : List α} {δ : Dl} {pe : PX} {pl ph : POx} {Q : D → Prop} {QO : Option Int → Prop} {Q2 : Exn → Prop} {a b : Int}
theorem e_sl (h : pe δ (fun x => pl δ (fun lo => ph δ (fun hi => fSl x lo hi Q) Q2) Q2) Q2) : pSl pe pl ph δ Q Q2 := h
theorem e_part (h : pe δ (intO QO) Q2) : pPart pe δ QO Q2 := h
theorem e_no (h : QO none) : pNo δ QO Q2 := h
theorem k_intO (h : QO (some a)) : intO QO (.int a) := h
theorem sIxS (n d : Nat) {a : Int} (h1 : 0 ≤ a) : HT.sIx n d (some a) = min a.toNat n := by
  show (if a < 0 then _ else _) = _
  rw [if_neg (by omega)]
theorem cut_some {ds : List D} (h1 : 0 ≤ a) (h2 : a ≤ ds.length) (h3 : 0 ≤ b) (h4 : b ≤ ds.length) : cutD ds (some a) (some b) = (ds.drop a.toNat).take (b.toNat - a.toNat) := by
  unfold cutD
  rw [sIxS _ _ h1, sIxS _ _ h3, Nat.min_eq_left (by omega), Nat.min_eq_left (by omega)]
theorem cut_from {ds : List D} (h1 : 0 ≤ a) : cutD ds (some a) none = ds.drop a.toNat := by
  unfold cutD
  rw [show HT.sIx ds.length ds.length none = ds.length from rfl]
  rw [sIxS _ _ h1]
  by_cases c : a.toNat ≤ ds.length
  · rw [Nat.min_eq_left c, List.take_of_length_le (by rw [List.length_drop]; omega)]
  · rw [Nat.min_eq_right (by omega), List.drop_eq_nil_of_le (Nat.le_refl _), List.drop_eq_nil_of_le (by omega), List.take_nil]
theorem cut_to {ds : List D} (h3 : 0 ≤ b) : cutD ds none (some b) = ds.take b.toNat := by
  unfold cutD
  rw [show HT.sIx ds.length 0 none = 0 from rfl]
  rw [sIxS _ _ h3, List.drop_zero, Nat.sub_zero]
  by_cases c : b.toNat ≤ ds.length
  · rw [Nat.min_eq_left c]
  · rw [Nat.min_eq_right (by omega), List.take_of_length_le (by omega), List.take_of_length_le (by omega)]
theorem o_slM (h1 : 0 ≤ a) (h2 : a ≤ xs.length) (h3 : 0 ≤ b) (h4 : b ≤ xs.length) (q : Q (.lst (((xs.drop a.toNat).take (b.toNat - a.toNat)).map φ))) : fSl (.lst (xs.map φ)) (some a) (some b) Q := by
  show Q (.lst (cutD _ _ _))
  rw [cut_some h1 (by rw [List.length_map]; exact h2) h3 (by rw [List.length_map]; exact h4), ← List.map_drop, ← List.map_take]
  exact q
theorem o_slF (h1 : 0 ≤ a) (q : Q (.lst ((xs.drop a.toNat).map φ))) : fSl (.lst (xs.map φ)) (some a) none Q := by
  show Q (.lst (cutD _ _ _))
  rw [cut_from h1, ← List.map_drop]
  exact q
theorem o_slT (h3 : 0 ≤ b) (q : Q (.lst ((xs.take b.toNat).map φ))) : fSl (.lst (xs.map φ)) none (some b) Q := by
  show Q (.lst (cutD _ _ _))
  rw [cut_to h3, ← List.map_take]
  exact q
theorem o_cat (h : xs.length + ys.length ≤ szl) (q : Q (.lst ((xs ++ ys).map φ))) : fCat (.lst (xs.map φ)) (.lst (ys.map φ)) Q := by
  refine ⟨by rw [List.length_map, List.length_map]; exact h, ?_⟩
  rw [← List.map_append]
  exact q
theorem o_catI {ns : List Int} {i : Int} (h : ns.length + 1 ≤ szl) (q : Q (.lst ((ns ++ [i]).map .int))) : fCat (.lst (ns.map .int)) (.lst [.int i]) Q := o_cat (ys := [i]) h q
theorem o_addL (h : xs.length + ys.length ≤ szl) (q : Q (.lst ((xs ++ ys).map φ))) : fAdd (.lst (xs.map φ)) (.lst (ys.map φ)) Q := by
  refine ⟨by rw [List.length_map, List.length_map]; exact h, ?_⟩
  rw [← List.map_append]
  exact q
theorem o_addT (h : xs.length + ys.length ≤ szl) (q : Q (.tup ((xs ++ ys).map φ))) : fAdd (.tup (xs.map φ)) (.tup (ys.map φ)) Q := by
  refine ⟨by rw [List.length_map, List.length_map]; exact h, ?_⟩
  rw [← List.map_append]
  exact q
theorem o_neTI {Q : D → Prop} {a b : List Int} (q : Q (.bl (!decide (a = b)))) : fNe (.tup (a.map .int)) (.tup (b.map .int)) Q := by
  have h : decide ((⟨a⟩ : Tp Int) = ⟨b⟩) = decide (a = b) := decide_eq_decide.mpr ⟨fun e => congrArg Tp.its e, fun e => by rw [e]⟩
  exact o_neT (α := Tp Int) (a := ⟨a⟩) (b := ⟨b⟩) (by decide) (by rw [h]; exact q)
theorem w_nite {p : Prop} [Decidable p] {A B : Prop} (h1 : ¬ p → A) (h2 : p → B) : if (!decide p) = true then A else B := w_ndec h1 h2
end
end Pu
namespace Pu
open PySem PySem.Spec PyProof.Rows L2
/-- texts that can be laid -/
structure OkStr where
  s : Str
  ok : PyData.strOk s = true
instance : DecidableEq OkStr := fun a b => decidable_of_iff (a.s = b.s) ⟨fun h => by cases a; cases b; cases h; rfl, fun h => by rw [h]⟩
instance : DTy OkStr where
  d x := .str x.s
  py x := .str x.s
  h1 _ := rfl
  h2 a b := by
    simp only [PyData.eqv]
    rw [beq_dec]
    exact decide_eq_decide.mpr ⟨fun h => by cases a; cases b; cases h; rfl, fun h => by rw [h]⟩
  k := 0
  h3 a := by simp only [PyData.canLay0]; exact a.ok
  h4 _ := Nat.le_refl _
theorem o_neF1 {Q : D → Prop} {i : Int} {s : Str} (hs : PyData.strOk s = true) (q : Q (.bl true)) : fNe (.lst [.tup [.int i, .str s]]) (.lst []) Q :=
  o_neT (α := List (Int × OkStr)) (a := [(i, ⟨s, hs⟩)]) (b := []) (by decide) (by rw [decide_eq_false (by simp)]; exact q)
theorem o_neF2 {Q : D → Prop} {i j : Int} {s t : Str} (hs : PyData.strOk s = true) (ht : PyData.strOk t = true) (q : Q (.bl true)) : fNe (.lst [.tup [.int i, .str s], .tup [.int j, .str t]]) (.lst []) Q :=
  o_neT (α := List (Int × OkStr)) (a := [(i, ⟨s, hs⟩), (j, ⟨t, ht⟩)]) (b := []) (by decide) (by rw [decide_eq_false (by simp)]; exact q)
end Pu
namespace Pu
open PySem PySem.Spec PyProof.Rows L2
def addK (c : Nat) (psp : PSp) (Q : D → Prop) (Q2 : Exn → Prop) (x y : D) : Prop := match x, y with
  | .obj c1 d1, .obj c2 d2 => c1 = c ∧ c2 = c ∧ psp [.obj c1 d1, .obj c2 d2] Q Q2
  | _, _ => False
theorem e_addO {c : Nat} {psp : PSp} {pa pb : PX} {δ : Dl} {Q : D → Prop} {Q2 : Exn → Prop} (h : pa δ (fun x => pb δ (fun y => addK c psp Q Q2 x y) Q2) Q2) : pAddO c psp pa pb δ Q Q2 := h
theorem k_add {c : Nat} {psp : PSp} {Q : D → Prop} {Q2 : Exn → Prop} {d1 d2 : List D} (h : psp [.obj c d1, .obj c d2] Q Q2) : addK c psp Q Q2 (.obj c d1) (.obj c d2) := ⟨rfl, rfl, h⟩
end Pu
namespace Pu
open PySem PySem.Spec PyProof.Rows L2
theorem insAll {ns : List Int} {Q : Int → Prop} (h : ∀ x ∈ ns, Q x) {x : Int} (hx : Q x) (j : Nat) : ∀ y ∈ ns.take j ++ [x] ++ ns.drop j, Q y := by
  intro y hy
  simp only [List.mem_append, List.mem_singleton] at hy
  rcases hy with (hy | rfl) | hy
  · exact h y (List.mem_of_mem_take hy)
  · exact hx
  · exact h y (List.mem_of_mem_drop hy)
theorem insCount {ns : List Int} {x : Int} (j : Nat) : ns.count 1 ≤ (ns.take j ++ [x] ++ ns.drop j).count 1 := by
  rw [List.count_append, List.count_append]
  have e : ns.count 1 = (ns.take j).count 1 + (ns.drop j).count 1 := by rw [← List.count_append, List.take_append_drop]
  omega
theorem insLen {ns : List Int} {x : Int} (j : Nat) : (ns.take j ++ [x] ++ ns.drop j).length = ns.length + 1 := by
  simp only [List.length_append, List.length_take, List.length_drop, List.length_cons, List.length_nil]
  omega
end Pu
namespace Pu
open PySem PySem.Spec PyProof.Rows L2
/-! ### taking an item out, as a value -/
theorem w_appMK {i : Nat} {pe : PM} {P : PEnds} {δ : Dl} {oa : Option Addr} {ds : List D} (e : δ[i]? = some (some (.own oa ds))) (h : pe δ (fun d δ' => match δ'[i]? with
      | some (some (.own oa ds)) => ds.length < szl ∧ P.nx (δ'.set i (some (.own oa (ds ++ [d]))))
      | _ => False) (P.ex δ)) : pAppM i pe P δ := by
  unfold pAppM
  rw [e]
  exact h
theorem m_popK {i : Nat} {pe : PX} {δ : Dl} {Q : D → Dl → Prop} {Q2 : Exn → Prop} {oa : Option Addr} {ds : List D} (e : δ[i]? = some (some (.own oa ds))) (h : pe δ (popMK ds fun x es => Q x (δ.set i (some (.own oa es)))) Q2) : pmPop i pe δ Q Q2 := by
  unfold pmPop
  rw [e]
  exact h
theorem k_popMK {α : Type} {φ : α → D} {xs : List α} {F : D → List D → Prop} {j : Int} (h1 : 0 ≤ j) (h2 : j < xs.length) (h3 : xs.length < 2 ^ 62) (h : ∀ y, xs[j.toNat]? = some y → F (φ y) ((xs.eraseIdx j.toNat).map φ)) : popMK (xs.map φ) F (.int j) := by
  have hj : j.toNat < xs.length := by omega
  refine ⟨by omega, by omega, ?_⟩
  rw [ixN_nat h1 (by rw [List.length_map]; exact h2)]
  simp only
  rw [List.getElem?_map, List.getElem?_eq_getElem hj]
  have := h _ (List.getElem?_eq_getElem hj)
  rw [map_erase] at this
  exact this
theorem w_asgM {i : Nat} {pe : PM} {P : PEnds} {δ : Dl} (h : pe δ (fun d δ' => P.nx (δ'.set i (some (.d d)))) (P.ex δ)) : pAsgM pe i P δ := h
end Pu
namespace Pu
theorem w_lentI (ns : List Int) : noLL (ns.map D.int) = true := noLL_ints ns
end Pu
set_option Elab.async false
set_option linter.all false
set_option maxRecDepth 100000
set_option maxHeartbeats 8000000
set_option autoImplicit false
namespace Pu
open PySem PySem.Spec PyProof.Rows L2
def top (i : Nat) : Stmt := PySem.Challenge.pw_outagain_k04_head_and_tail.main.body.getD i (.Pass ⟨0, 0, 0, 0⟩)
abbrev s__law_pool : Stmt := (top 28)
abbrev s__law_take : Stmt := (top 29)
abbrev s__law_code : Stmt := (top 33)
abbrev s__law_great : Stmt := (top 30)
abbrev s__law_span : Stmt := (top 31)
abbrev s__law_group : Stmt := (top 32)
abbrev s__law_stretches : Stmt := (top 34)
abbrev s_ascending : Stmt := (top 8)
abbrev s_check_stretches : Stmt := (top 22)
abbrev s_join_neighbours : Stmt := (top 15)
abbrev s_BookU_initU : Stmt := (inClass (top 21) 0)
abbrev s__law_part : Stmt := (top 36)
abbrev s__law_upto : Stmt := (top 38)
abbrev s__law_cut : Stmt := (top 39)
abbrev s__law_joined : Stmt := (top 35)
abbrev s__law_number : Stmt := (top 26)
abbrev s__law_same : Stmt := (top 27)
abbrev s__law_is_book : Stmt := (top 40)
abbrev s_BookU_eqU : Stmt := (inClass (top 21) 1)
abbrev s_check_part : Stmt := (top 24)
abbrev s_rear_pairs : Stmt := (top 17)
abbrev s_Book_tail : Stmt := (inClass (top 21) 6)
abbrev s_front_pairs : Stmt := (top 16)
abbrev s_Book_head : Stmt := (inClass (top 21) 5)
abbrev s__law_asked : Stmt := (top 41)
abbrev s_BookU_addU : Stmt := (inClass (top 21) 3)
abbrev s__law_summed : Stmt := (top 42)
abbrev s_check_morning : Stmt := (top 23)
abbrev s_Book_runners_on : Stmt := (inClass (top 21) 4)
abbrev s__law_on : Stmt := (top 37)
abbrev s__law_halves : Stmt := (top 43)
abbrev s_Book_flipped : Stmt := (inClass (top 21) 7)
abbrev s__law_turned : Stmt := (top 45)
abbrev s__law_refused : Stmt := (top 44)
abbrev s_law : Stmt := (top 46)
abbrev s_BadBookU_initU : Stmt := (inClass (top 5) 0)
abbrev s_OutOfRangeU_initU : Stmt := (inClass (top 3) 0)
theorem sc__law_pool : FnScope ["script"] ["script"] (defScope s__law_pool) := ⟨rfl, rfl, rfl, by decide +kernel, rfl, by decide +kernel, by decide +kernel⟩
theorem sc__law_take : FnScope ["pool", "limit", "cell", "got", "k", "mixed"] ["pool", "limit"] (defScope s__law_take) := ⟨rfl, rfl, rfl, by decide +kernel, rfl, by decide +kernel, by decide +kernel⟩
theorem sc__law_code : FnScope ["pool", "way"] ["pool"] (defScope s__law_code) := ⟨rfl, rfl, rfl, by decide +kernel, rfl, by decide +kernel, by decide +kernel⟩
theorem sc__law_great : FnScope ["pool", "most", "way", "got", "k"] ["pool", "most"] (defScope s__law_great) := ⟨rfl, rfl, rfl, by decide +kernel, rfl, by decide +kernel, by decide +kernel⟩
theorem sc__law_span : FnScope ["pool", "great", "way"] ["pool", "great"] (defScope s__law_span) := ⟨rfl, rfl, rfl, by decide +kernel, rfl, by decide +kernel, by decide +kernel⟩
theorem sc__law_group : FnScope ["code", "group", "i"] ["code"] (defScope s__law_group) := ⟨rfl, rfl, rfl, by decide +kernel, rfl, by decide +kernel, by decide +kernel⟩
theorem sc__law_stretches : FnScope ["pool", "many", "most", "menu", "rows", "total", "k", "way", "code", "room", "span"] ["pool", "many", "most"] (defScope s__law_stretches) := ⟨rfl, rfl, rfl, by decide +kernel, rfl, by decide +kernel, by decide +kernel⟩
theorem sc_ascending : FnScope ["drivers", "size", "least", "driver"] ["drivers", "size"] (defScope s_ascending) := ⟨rfl, rfl, rfl, by decide +kernel, rfl, by decide +kernel, by decide +kernel⟩
theorem sc_check_stretches : FnScope ["stretches", "total", "at", "days", "runners"] ["stretches"] (defScope s_check_stretches) := ⟨rfl, rfl, rfl, by decide +kernel, rfl, by decide +kernel, by decide +kernel⟩
theorem sc_join_neighbours : FnScope ["pairs", "rows", "many", "what"] ["pairs"] (defScope s_join_neighbours) := ⟨rfl, rfl, rfl, by decide +kernel, rfl, by decide +kernel, by decide +kernel⟩
theorem sc_BookU_initU : FnScope ["self", "stretches", "days", "runners", "_"] ["self", "stretches"] (defScope s_BookU_initU) := ⟨rfl, rfl, rfl, by decide +kernel, rfl, by decide +kernel, by decide +kernel⟩
theorem sc__law_part : FnScope ["rows", "low", "high", "got", "start", "row", "many"] ["rows", "low", "high"] (defScope s__law_part) := ⟨rfl, rfl, rfl, by decide +kernel, rfl, by decide +kernel, by decide +kernel⟩
theorem sc__law_upto : FnScope ["pool", "most"] ["pool", "most"] (defScope s__law_upto) := ⟨rfl, rfl, rfl, by decide +kernel, rfl, by decide +kernel, by decide +kernel⟩
theorem sc__law_cut : FnScope ["pool", "rows", "span", "way", "row"] ["pool", "rows", "span"] (defScope s__law_cut) := ⟨rfl, rfl, rfl, by decide +kernel, rfl, by decide +kernel, by decide +kernel⟩
theorem sc__law_joined : FnScope ["rows", "starts", "k", "ends", "got", "part", "row"] ["rows"] (defScope s__law_joined) := ⟨rfl, rfl, rfl, by decide +kernel, rfl, by decide +kernel, by decide +kernel⟩
theorem sc__law_number : FnScope ["got"] ["got"] (defScope s__law_number) := ⟨rfl, rfl, rfl, by decide +kernel, rfl, by decide +kernel, by decide +kernel⟩
theorem sc__law_same : FnScope ["got", "due", "k"] ["got", "due"] (defScope s__law_same) := ⟨rfl, rfl, rfl, by decide +kernel, rfl, by decide +kernel, by decide +kernel⟩
theorem sc__law_is_book : FnScope ["book", "rows", "due", "row"] ["book", "rows"] (defScope s__law_is_book) := ⟨rfl, rfl, rfl, by decide +kernel, rfl, by decide +kernel, by decide +kernel⟩
theorem sc_BookU_eqU : FnScope ["self", "other"] ["self", "other"] (defScope s_BookU_eqU) := ⟨rfl, rfl, rfl, by decide +kernel, rfl, by decide +kernel, by decide +kernel⟩
theorem sc_check_part : FnScope ["book", "days"] ["book", "days"] (defScope s_check_part) := ⟨rfl, rfl, rfl, by decide +kernel, rfl, by decide +kernel, by decide +kernel⟩
theorem sc_rear_pairs : FnScope ["pairs", "many", "kept", "left", "times", "what"] ["pairs", "many"] (defScope s_rear_pairs) := ⟨rfl, rfl, rfl, by decide +kernel, rfl, by decide +kernel, by decide +kernel⟩
theorem sc_Book_tail : FnScope ["self", "days"] ["self", "days"] (defScope s_Book_tail) := ⟨rfl, rfl, rfl, by decide +kernel, rfl, by decide +kernel, by decide +kernel⟩
theorem sc_front_pairs : FnScope ["pairs", "many", "kept", "left", "times", "what"] ["pairs", "many"] (defScope s_front_pairs) := ⟨rfl, rfl, rfl, by decide +kernel, rfl, by decide +kernel, by decide +kernel⟩
theorem sc_Book_head : FnScope ["self", "days"] ["self", "days"] (defScope s_Book_head) := ⟨rfl, rfl, rfl, by decide +kernel, rfl, by decide +kernel, by decide +kernel⟩
theorem sc__law_asked : FnScope ["book", "way", "split", "e"] ["book", "way", "split"] (defScope s__law_asked) := ⟨rfl, rfl, rfl, by decide +kernel, rfl, by decide +kernel, by decide +kernel⟩
theorem sc_BookU_addU : FnScope ["self", "other"] ["self", "other"] (defScope s_BookU_addU) := ⟨rfl, rfl, rfl, by decide +kernel, rfl, by decide +kernel, by decide +kernel⟩
theorem sc__law_summed : FnScope ["front", "back", "e"] ["front", "back"] (defScope s__law_summed) := ⟨rfl, rfl, rfl, by decide +kernel, rfl, by decide +kernel, by decide +kernel⟩
theorem sc_check_morning : FnScope ["book", "morning"] ["book", "morning"] (defScope s_check_morning) := ⟨rfl, rfl, rfl, by decide +kernel, rfl, by decide +kernel, by decide +kernel⟩
theorem sc_Book_runners_on : FnScope ["self", "morning", "_", "runners"] ["self", "morning"] (defScope s_Book_runners_on) := ⟨rfl, rfl, rfl, by decide +kernel, rfl, by decide +kernel, by decide +kernel⟩
theorem sc__law_on : FnScope ["rows", "start", "left", "row"] ["rows", "start"] (defScope s__law_on) := ⟨rfl, rfl, rfl, by decide +kernel, rfl, by decide +kernel, by decide +kernel⟩
theorem sc__law_halves : FnScope ["pool", "book", "rows", "span", "split", "head", "tail", "start"] ["pool", "book", "rows", "span", "split"] (defScope s__law_halves) := ⟨rfl, rfl, rfl, by decide +kernel, rfl, by decide +kernel, by decide +kernel⟩
theorem sc_Book_flipped : FnScope ["self"] ["self"] (defScope s_Book_flipped) := ⟨rfl, rfl, rfl, by decide +kernel, rfl, by decide +kernel, by decide +kernel⟩
theorem sc__law_turned : FnScope ["book", "rows", "back", "k", "flipped"] ["book", "rows"] (defScope s__law_turned) := ⟨rfl, rfl, rfl, by decide +kernel, rfl, by decide +kernel, by decide +kernel⟩
theorem sc__law_refused : FnScope ["pool", "book", "span", "low", "high", "way"] ["pool", "book", "span"] (defScope s__law_refused) := ⟨rfl, rfl, rfl, by decide +kernel, rfl, by decide +kernel, by decide +kernel⟩
theorem sc_law : FnScope ["script", "pool", "many", "rows", "span", "row", "book", "more", "others", "second", "splits", "split", "low", "high", "between", "total"] ["script"] (defScope s_law) := ⟨rfl, rfl, rfl, by decide +kernel, rfl, by decide +kernel, by decide +kernel⟩
theorem sc_BadBookU_initU : FnScope ["self", "at", "code"] ["self", "at", "code"] (defScope s_BadBookU_initU) := ⟨rfl, rfl, rfl, by decide +kernel, rfl, by decide +kernel, by decide +kernel⟩
theorem sc_OutOfRangeU_initU : FnScope ["self", "at", "code"] ["self", "at", "code"] (defScope s_OutOfRangeU_initU) := ⟨rfl, rfl, rfl, by decide +kernel, rfl, by decide +kernel, by decide +kernel⟩
theorem bb_abs : bootBuiltins "abs" = some (.builtin "abs") := by decide +kernel
theorem bb_bool : bootBuiltins "bool" = some (.type "bool") := by decide +kernel
theorem bb_int : bootBuiltins "int" = some (.type "int") := by decide +kernel
theorem bb_isinstance : bootBuiltins "isinstance" = some (.builtin "isinstance") := by decide +kernel
theorem bb_len : bootBuiltins "len" = some (.builtin "len") := by decide +kernel
theorem bb_list : bootBuiltins "list" = some (.type "list") := by decide +kernel
theorem bb_max : bootBuiltins "max" = some (.builtin "max") := by decide +kernel
theorem bb_min : bootBuiltins "min" = some (.builtin "min") := by decide +kernel
theorem bb_str : bootBuiltins "str" = some (.type "str") := by decide +kernel
theorem bb_sum : bootBuiltins "sum" = some (.builtin "sum") := by decide +kernel
theorem bb_tuple : bootBuiltins "tuple" = some (.type "tuple") := by decide +kernel
def c_BadBook : Nat → Option Bool
  | 21 => some false | 22 => some false | 23 => some true
  | _ => none
def c_OutOfRange : Nat → Option Bool
  | 21 => some true | 22 => some false | 23 => some false
  | _ => none
def w__law_pool : PSp := wpNewPool
def b__law_take : PSx :=
 (pSeq (pIf (pAndT (pTst (pOp fEq (pOp fIx (pVarV 0) (pC (.int 0))) (pC (.int 0)))) (pTst (pOp fLt (pOp fIx (pVarV 0) (pC (.int 3))) (pCB fLen (pCons (pOp fIx (pVarV 0) (pC (.int 4))) pNil))))) (pSeq (pAsg (pCB fAbs (pCons (pOp fIx (pOp fIx (pVarV 0) (pC (.int 4))) (pOp fIx (pVarV 0) (pC (.int 3)))) pNil)) 2)
 (pSeq (pSetI 0 (pC (.int 3)) (pOp fAdd (pOp fIx (pVarV 0) (pC (.int 3))) (pC (.int 1))))
 (pIf (pTst (pOp fGe (pVar 2) (pOp fPow (pC (.int 10)) (pC (.int 18))))) (pSetI 0 (pC (.int 0)) (pVar 2)) (pSetI 0 (pC (.int 1)) (pOp fMod (pCB fInt (pCons (pOp fAdd (pOp fAdd (pOp fMul (pOp fIx (pVarV 0) (pC (.int 1))) (pC (.int 48271))) (pVar 2)) (pC (.int 1))) pNil)) (pC (.int 2147483399))))))) pNext)
 (pSeq (pIf (pTst (pOp fGt (pOp fIx (pVarV 0) (pC (.int 0))) (pC (.int 0)))) (pSeq (pAsg (pOp fMod (pCB fInt (pCons (pOp fIx (pVarV 0) (pC (.int 0))) pNil)) (pVar 1)) 3)
 (pSeq (pSetI 0 (pC (.int 0)) (pOp fDiv (pOp fIx (pVarV 0) (pC (.int 0))) (pVar 1)))
 (pRet (pVar 3)))) pNext)
 (pSeq (pAsg (pOp fAdd (pOp fIx (pVarV 0) (pC (.int 2))) (pC (.int 1))) 4)
 (pSeq (pSetI 0 (pC (.int 2)) (pVar 4))
 (pSeq (pAsg (pOp fIx (pVarV 0) (pC (.int 1))) 5)
 (pSeq (pAsg (pOp fMod (pCB fInt (pCons (pOp fAdd (pOp fAdd (pOp fMul (pVar 5) (pVar 5)) (pOp fMul (pVar 4) (pC (.int 3571)))) (pC (.int 40692))) pNil)) (pC (.int 2147483399))) 5)
 (pSeq (pAsg (pOp fMod (pCB fInt (pCons (pOp fAdd (pOp fMul (pVar 5) (pVar 5)) (pOp fDiv (pVar 5) (pC (.int 97)))) pNil)) (pC (.int 2147483629))) 5)
 (pSeq (pSetI 0 (pC (.int 1)) (pVar 5))
 (pRet (pOp fMod (pCB fInt (pCons (pOp fDiv (pVar 5) (pC (.int 8))) pNil)) (pVar 1)))))))))))
def w__law_take : PSp := wpPl 6 b__law_take
def b__law_code : PSx :=
 (pSeq (pAsg (pCall w__law_take (pCons (pVar 0) (pCons (pC (.int 6)) pNil))) 1)
 (pSeq (pIf (pTst (pOp fEq (pVar 1) (pC (.int 0)))) (pRet (pC (.int 0))) pNext)
 (pSeq (pIf (pTst (pOp fEq (pVar 1) (pC (.int 1)))) (pRet (pC (.int 4095))) pNext)
 (pRet (pCall w__law_take (pCons (pVar 0) (pCons (pC (.int 4096)) pNil)))))))
def w__law_code : PSp := wpB 2 b__law_code
def b__law_great : PSx :=
 (pSeq (pAsg (pCall w__law_take (pCons (pVar 0) (pCons (pC (.int 4)) pNil))) 2)
 (pSeq (pIf (pTst (pOp fLt (pVar 2) (pC (.int 2)))) (pRet (pCB fMin2 (pCons (pVar 1) (pCons (pCall w__law_take (pCons (pVar 0) (pCons (pC (.int 40)) pNil))) pNil)))) pNext)
 (pSeq (pIf (pTst (pOp fEq (pVar 2) (pC (.int 2)))) (pRet (pCB fMin2 (pCons (pVar 1) (pCons (pCall w__law_take (pCons (pVar 0) (pCons (pC (.int 4000)) pNil))) pNil)))) pNext)
 (pSeq (pIf (pTst (pOp fGt (pOp fIx (pVar 0) (pC (.int 0))) (pVar 1))) (pRet (pCall w__law_take (pCons (pVar 0) (pCons (pOp fAdd (pVar 1) (pC (.int 1))) pNil)))) pNext)
 (pSeq (pAsg (pC (.int 0)) 3)
 (pSeq (pFor (pRange1 (pC (.int 4))) (pgName 4) (pAsg (pOp fAdd (pOp fMul (pVar 3) (pOp fPow (pC (.int 10)) (pC (.int 8)))) (pCall w__law_take (pCons (pVar 0) (pCons (pOp fPow (pC (.int 10)) (pC (.int 8))) pNil)))) 3))
 (pRet (pOp fMod (pCB fInt (pCons (pVar 3) pNil)) (pOp fAdd (pVar 1) (pC (.int 1)))))))))))
def w__law_great : PSp := wpB 5 b__law_great
def b__law_span : PSx :=
 (pSeq (pAsg (pCall w__law_take (pCons (pVar 0) (pCons (pC (.int 8)) pNil))) 2)
 (pSeq (pIf (pAndT (pTst (pOp fEq (pVar 2) (pC (.int 0)))) (pTst (pOp fGt (pVar 1) (pC (.int 0))))) (pRet (pOp fAdd (pC (.int 1)) (pCall w__law_great (pCons (pVar 0) (pCons (pVar 1) pNil))))) pNext)
 (pSeq (pIf (pTst (pOp fEq (pVar 2) (pC (.int 1)))) (pRet (pOp fAdd (pC (.int 1)) (pCall w__law_take (pCons (pVar 0) (pCons (pC (.int 20)) pNil))))) pNext)
 (pRet (pC (.int 1))))))
def w__law_span : PSp := wpB 3 b__law_span
def b__law_group : PSx :=
 (pSeq (pAsgO (pLst pNil) 1)
 (pSeq (pFor (pRange1 (pC (.int 12))) (pgName 2) (pSeq (pIf (pTst (pOp fEq (pOp fMod (pCB fInt (pCons (pVar 0) pNil)) (pC (.int 2))) (pC (.int 1)))) (pApp 1 (pVar 2)) pNext)
 (pAsg (pOp fDiv (pVar 0) (pC (.int 2))) 0)))
 (pRet (pCB fTuple (pCons (pVarV 1) pNil)))))
def w__law_group : PSp := wpB 3 b__law_group
def b__law_stretches : PSx :=
 (pSeq (pAsg (pLst (pCons (pCall w__law_code (pCons (pVar 0) pNil)) (pCons (pCall w__law_code (pCons (pVar 0) pNil)) (pCons (pCall w__law_code (pCons (pVar 0) pNil)) pNil)))) 3)
 (pSeq (pAsgO (pLst pNil) 4)
 (pSeq (pAsg (pC (.int 0)) 5)
 (pSeq (pFor (pRange1 (pVar 1)) (pgName 6) (pSeq (pAsg (pCall w__law_take (pCons (pVar 0) (pCons (pC (.int 4)) pNil))) 7)
 (pSeq (pIf (pTst (pOp fEq (pVar 7) (pC (.int 3)))) (pAsg (pCall w__law_take (pCons (pVar 0) (pCons (pC (.int 4096)) pNil))) 8) (pAsg (pOp fIx (pVar 3) (pVar 7)) 8))
 (pSeq (pAsg (pOp fSub (pOp fSub (pVar 2) (pVar 5)) (pOp fSub (pVar 1) (pVar 6))) 9)
 (pSeq (pAsg (pCB fMin2 (pCons (pOp fAdd (pVar 9) (pC (.int 1))) (pCons (pCall w__law_span (pCons (pVar 0) (pCons (pVar 9) pNil))) pNil))) 10)
 (pSeq (pApp 4 (pTup (pCons (pVar 10) (pCons (pCall w__law_group (pCons (pVar 8) pNil)) pNil))))
 (pAsg (pOp fAdd (pVar 5) (pVar 10)) 5)))))))
 (pFreeze 4 (pRet (pVar 4)))))))
def w__law_stretches : PSp := wpB 11 b__law_stretches
def b_ascending : PSx :=
 (pSeq (pAsg (pC (.int 0)) 2)
 (pSeq (pFor (pItems (pVar 0)) (pgName 3) (pSeq (pIf (pNotT (pTst (pChain fLe fLt (pVar 2) (pVar 3) (pVar 1)))) (pRet (pC (.bl false))) pNext)
 (pAsg (pOp fAdd (pVar 3) (pC (.int 1))) 2)))
 (pRet (pC (.bl true)))))
def w_ascending : PSp := wpB 4 b_ascending
def b_check_stretches : PSx :=
 (pSeq (pIf (pTst (pOp fGt (pCB fLen (pCons (pVar 0) pNil)) (pC (.int 400)))) (pRaise 23 (pCons (pC (.int 400)) (pCons (pC (.str "stretches")) pNil))) pNext)
 (pSeq (pAsg (pC (.int 0)) 1)
 (pFor (pEnum 0 (pVar 0)) (pgSeq 2 (pgCons (pgName 2) (pgCons (pgSeq 2 (pgCons (pgName 3) (pgCons (pgName 4) pgNil))) pgNil))) (pSeq (pIf (pNotT (pTst (pChain fLe fLe (pC (.int 1)) (pVar 3) (pC (.int 1000000000000000000000000000000))))) (pRaise 23 (pCons (pVar 2) (pCons (pC (.str "days")) pNil))) pNext)
 (pSeq (pIf (pNotT (pTru (pCall w_ascending (pCons (pVar 4) (pCons (pC (.int 12)) pNil))))) (pRaise 23 (pCons (pVar 2) (pCons (pC (.str "runners")) pNil))) pNext)
 (pSeq (pAsg (pOp fAdd (pVar 1) (pVar 3)) 1)
 (pIf (pTst (pOp fGt (pVar 1) (pC (.int 1000000000000000000000000000000)))) (pRaise 23 (pCons (pVar 2) (pCons (pC (.str "total")) pNil))) pNext)))))))
def w_check_stretches : PSp := wpB 5 b_check_stretches
def b_join_neighbours : PSx :=
 (pSeq (pAsgO (pLst pNil) 1)
 (pSeq (pFor (pItems (pVar 0)) (pgSeq 2 (pgCons (pgName 2) (pgCons (pgName 3) pgNil))) (pIf (pAndT (pTru (pVarV 1)) (pTst (pOp fEq (pOp fIx (pOp fIx (pVarV 1) (pUn fNeg (pC (.int 1)))) (pC (.int 1))) (pVar 3)))) (pSetI 1 (pUn fNeg (pC (.int 1))) (pTup (pCons (pOp fAdd (pOp fIx (pOp fIx (pVarV 1) (pUn fNeg (pC (.int 1)))) (pC (.int 0))) (pVar 2)) (pCons (pVar 3) pNil)))) (pApp 1 (pTup (pCons (pVar 2) (pCons (pVar 3) pNil))))))
 (pFreeze 1 (pRet (pVar 1)))))
def w_join_neighbours : PSp := wpB 4 b_join_neighbours
def b_BookU_initU : PSx :=
 (pSeq (pDrop (pCall w_check_stretches (pCons (pVar 1) pNil)))
 (pSeq (pSetF 0 1 0 (pCB fTuple (pCons (pCall w_join_neighbours (pCons (pLc (pItems (pVar 1)) (pgSeq 2 (pgCons (pgName 2) (pgCons (pgName 3) pgNil))) pYes (pTup (pCons (pVar 2) (pCons (pCB fTuple (pCons (pVar 3) pNil)) pNil))) [2, 3]) pNil)) pNil)))
 (pSetF 0 1 1 (pCB fSumA (pCons (pLc (pItems (pFldS 0 1 0)) (pgSeq 2 (pgCons (pgName 2) (pgCons (pgName 4) pgNil))) pYes (pVar 2) [2, 4]) pNil)))))
def i_BookU_initU : PSpI := wpI 1 5 b_BookU_initU
def b__law_part : PSx :=
 (pSeq (pAsgO (pLst pNil) 3)
 (pSeq (pAsg (pC (.int 0)) 4)
 (pSeq (pFor (pItems (pVar 0)) (pgName 5) (pSeq (pAsg (pOp fSub (pCB fMin2 (pCons (pVar 2) (pCons (pOp fAdd (pVar 4) (pOp fIx (pVar 5) (pC (.int 0)))) pNil))) (pCB fMax2 (pCons (pVar 1) (pCons (pVar 4) pNil)))) 6)
 (pSeq (pIf (pTst (pOp fGt (pVar 6) (pC (.int 0)))) (pApp 3 (pTup (pCons (pVar 6) (pCons (pOp fIx (pVar 5) (pC (.int 1))) pNil)))) pNext)
 (pAsg (pOp fAdd (pVar 4) (pOp fIx (pVar 5) (pC (.int 0)))) 4))))
 (pFreeze 3 (pRet (pVar 3))))))
def w__law_part : PSp := wpB 7 b__law_part
def b__law_upto : PSx :=
 (pSeq (pIf (pTst (pOp fEq (pCall w__law_take (pCons (pVar 0) (pCons (pC (.int 2)) pNil))) (pC (.int 0)))) (pRet (pCall w__law_take (pCons (pVar 0) (pCons (pOp fAdd (pCB fMin2 (pCons (pVar 1) (pCons (pC (.int 60)) pNil))) (pC (.int 1))) pNil)))) pNext)
 (pRet (pCall w__law_great (pCons (pVar 0) (pCons (pVar 1) pNil)))))
def w__law_upto : PSp := wpB 2 b__law_upto
def b__law_cut : PSx :=
 (pSeq (pAsg (pCall w__law_take (pCons (pVar 0) (pCons (pC (.int 5)) pNil))) 3)
 (pSeq (pIf (pTst (pOp fEq (pVar 3) (pC (.int 0)))) (pRet (pC (.int 0))) pNext)
 (pSeq (pIf (pTst (pOp fEq (pVar 3) (pC (.int 1)))) (pRet (pVar 2)) pNext)
 (pSeq (pIf (pTst (pOp fEq (pVar 3) (pC (.int 2)))) (pRet (pCB fSumA (pCons (pLc (pItems (pSl (pVar 1) pNo (pPart (pCall w__law_take (pCons (pVar 0) (pCons (pOp fAdd (pCB fLen (pCons (pVar 1) pNil)) (pC (.int 1))) pNil)))))) (pgName 4) pYes (pOp fIx (pVar 4) (pC (.int 0))) [4]) pNil))) pNext)
 (pRet (pCall w__law_upto (pCons (pVar 0) (pCons (pVar 2) pNil))))))))
def w__law_cut : PSp := wpB 5 b__law_cut
def b__law_joined : PSx :=
 (pSeq (pAsg (pLc (pRange1 (pCB fLen (pCons (pVar 0) pNil))) (pgName 2) (pOrT (pTst (pOp fEq (pVar 2) (pC (.int 0)))) (pTst (pOp fNe (pOp fIx (pOp fIx (pVar 0) (pOp fSub (pVar 2) (pC (.int 1)))) (pC (.int 1))) (pOp fIx (pOp fIx (pVar 0) (pVar 2)) (pC (.int 1)))))) (pVar 2) [2]) 1)
 (pSeq (pAsg (pOp fCat (pSl (pVar 1) (pPart (pC (.int 1))) pNo) (pLst (pCons (pCB fLen (pCons (pVar 0) pNil)) pNil))) 3)
 (pSeq (pAsgO (pLst pNil) 4)
 (pSeq (pFor (pRange1 (pCB fLen (pCons (pVar 1) pNil))) (pgName 2) (pSeq (pAsg (pSl (pVar 0) (pPart (pOp fIx (pVar 1) (pVar 2))) (pPart (pOp fIx (pVar 3) (pVar 2)))) 5)
 (pApp 4 (pTup (pCons (pCB fSumA (pCons (pLc (pItems (pVar 5)) (pgName 6) pYes (pOp fIx (pVar 6) (pC (.int 0))) [6]) pNil)) (pCons (pOp fIx (pOp fIx (pVar 5) (pC (.int 0))) (pC (.int 1))) pNil))))))
 (pFreeze 4 (pRet (pVar 4)))))))
def w__law_joined : PSp := wpB 7 b__law_joined
def b__law_number : PSx :=
 (pRet (pAndV (pIsT "int" (pVar 0)) (pNotV (pIsT "bool" (pVar 0)))))
def w__law_number : PSp := wpB 1 b__law_number
def b__law_same (W : PSp) : PSx :=
 (pSeq (pIf (pTst (pOp fIsN (pVar 1) (pC .non))) (pRet (pOp fIsN (pVar 0) (pC .non))) pNext)
 (pSeq (pIf (pTru (pIsT "bool" (pVar 1))) (pRet (pAndV (pIsT "bool" (pVar 0)) (pOp fEq (pVar 0) (pVar 1)))) pNext)
 (pSeq (pIf (pTru (pIsT "int" (pVar 1))) (pRet (pAndV (pCall w__law_number (pCons (pVar 0) pNil)) (pOp fEq (pVar 0) (pVar 1)))) pNext)
 (pSeq (pIf (pTru (pIsT "str" (pVar 1))) (pRet (pAndV (pIsT "str" (pVar 0)) (pOp fEq (pVar 0) (pVar 1)))) pNext)
 (pSeq (pIf (pAndT (pTru (pIsT "list" (pVar 1))) (pNotT (pTru (pIsT "list" (pVar 0))))) (pRet (pC (.bl false))) pNext)
 (pSeq (pIf (pAndT (pTru (pIsT "tuple" (pVar 1))) (pNotT (pTru (pIsT "tuple" (pVar 0))))) (pRet (pC (.bl false))) pNext)
 (pSeq (pIf (pTst (pOp fNe (pCB fLen (pCons (pVar 0) pNil)) (pCB fLen (pCons (pVar 1) pNil)))) (pRet (pC (.bl false))) pNext)
 (pSeq (pFor (pRange1 (pCB fLen (pCons (pVar 1) pNil))) (pgName 2) (pIf (pNotT (pTru (pCall W (pCons (pOp fIx (pVar 0) (pVar 2)) (pCons (pOp fIx (pVar 1) (pVar 2)) pNil))))) (pRet (pC (.bl false))) pNext))
 (pRet (pC (.bl true)))))))))))
def w__law_same : Nat → PSp
  | 0 => fun _ _ _ => False
  | n + 1 => wpB 3 (b__law_same (w__law_same n))
def b__law_is_book : PSx :=
 (pSeq (pIf (pNotT (pTru (pIsC 1 [0, 1] (pVar 0)))) (pRet (pC (.bl false))) pNext)
 (pSeq (pAsg (pCall w__law_joined (pCons (pVar 1) pNil)) 2)
 (pRet (pAndV (pCall (w__law_same 6) (pCons (pFld [(1, 0)] (pVar 0)) (pCons (pCB fTuple (pCons (pVar 2) pNil)) pNil))) (pCall (w__law_same 6) (pCons (pFld [(1, 1)] (pVar 0)) (pCons (pCB fSumA (pCons (pLc (pItems (pVar 1)) (pgName 3) pYes (pOp fIx (pVar 3) (pC (.int 0))) [3]) pNil)) pNil)))))))
def w__law_is_book : PSp := wpB 4 b__law_is_book
def b_BookU_eqU : PSx :=
 (pRet (pAndV (pIsC 1 [0, 1] (pVar 1)) (pOp fEq (pFld [(1, 0)] (pVar 0)) (pFld [(1, 0)] (pVar 1)))))
def w_BookU_eqU : PSp := wpB 2 b_BookU_eqU
def b_check_part : PSx :=
 (pIf (pNotT (pTst (pChain fLe fLe (pC (.int 0)) (pVar 1) (pFld [(1, 1)] (pVar 0))))) (pRaise 21 (pCons (pVar 1) (pCons (pC (.str "days")) pNil))) pNext)
def w_check_part : PSp := wpB 2 b_check_part
def b_rear_pairs : PSx :=
 (pSeq (pAsgO (pLst pNil) 2)
 (pSeq (pAsg (pVar 1) 3)
 (pSeq (pFor (pItems (pVar 0)) (pgSeq 2 (pgCons (pgName 4) (pgCons (pgName 5) pgNil))) (pSeq (pIf (pTst (pOp fGt (pVar 4) (pVar 3))) (pApp 2 (pTup (pCons (pOp fSub (pVar 4) (pCB fMax2 (pCons (pC (.int 0)) (pCons (pVar 3) pNil)))) (pCons (pVar 5) pNil)))) pNext)
 (pAsg (pOp fSub (pVar 3) (pVar 4)) 3)))
 (pFreeze 2 (pRet (pVar 2))))))
def w_rear_pairs : PSp := wpB 6 b_rear_pairs
def b_Book_tail : PSx :=
 (pSeq (pDrop (pCall w_check_part (pCons (pVar 0) (pCons (pVar 1) pNil))))
 (pRet (pMake 1 i_BookU_initU (pCons (pCall w_rear_pairs (pCons (pFld [(1, 0)] (pVar 0)) (pCons (pVar 1) pNil))) pNil))))
def w_Book_tail : PSp := wpB 2 b_Book_tail
def b_front_pairs : PSx :=
 (pSeq (pAsgO (pLst pNil) 2)
 (pSeq (pAsg (pVar 1) 3)
 (pSeq (pFor (pItems (pVar 0)) (pgSeq 2 (pgCons (pgName 4) (pgCons (pgName 5) pgNil))) (pSeq (pIf (pTst (pOp fGt (pVar 3) (pC (.int 0)))) (pApp 2 (pTup (pCons (pCB fMin2 (pCons (pVar 4) (pCons (pVar 3) pNil))) (pCons (pVar 5) pNil)))) pNext)
 (pAsg (pOp fSub (pVar 3) (pVar 4)) 3)))
 (pFreeze 2 (pRet (pVar 2))))))
def w_front_pairs : PSp := wpB 6 b_front_pairs
def b_Book_head : PSx :=
 (pSeq (pDrop (pCall w_check_part (pCons (pVar 0) (pCons (pVar 1) pNil))))
 (pRet (pMake 1 i_BookU_initU (pCons (pCall w_front_pairs (pCons (pFld [(1, 0)] (pVar 0)) (pCons (pVar 1) pNil))) pNil))))
def w_Book_head : PSp := wpB 2 b_Book_head
def b__law_asked : PSx :=
 (pTryAs 3 c_OutOfRange (pSeq (pIf (pTst (pOp fEq (pVar 1) (pC (.int 0)))) (pRet (pMeth 1 w_Book_head (pVar 0) (pCons (pVar 2) pNil))) pNext)
 (pRet (pMeth 1 w_Book_tail (pVar 0) (pCons (pVar 2) pNil)))) (fun a cls dx => (pRet (pTup (pCons (pXm a cls dx 3 [(21, 0), (22, 0), (23, 0)]) (pCons (pXm a cls dx 3 [(21, 1), (22, 1), (23, 1)]) pNil))))))
def w__law_asked : PSp := wpB 4 b__law_asked
def b_BookU_addU : PSx :=
 (pSeq (pIf (pTst (pOp fGt (pOp fAdd (pCB fLen (pCons (pFld [(1, 0)] (pVar 0)) pNil)) (pCB fLen (pCons (pFld [(1, 0)] (pVar 1)) pNil))) (pC (.int 400)))) (pRaise 23 (pCons (pC (.int 400)) (pCons (pC (.str "stretches")) pNil))) pNext)
 (pSeq (pIf (pTst (pOp fGt (pOp fAdd (pFld [(1, 1)] (pVar 0)) (pFld [(1, 1)] (pVar 1))) (pC (.int 1000000000000000000000000000000)))) (pRaise 23 (pCons (pC (.int 0)) (pCons (pC (.str "total")) pNil))) pNext)
 (pRet (pMake 1 i_BookU_initU (pCons (pOp fAdd (pFld [(1, 0)] (pVar 0)) (pFld [(1, 0)] (pVar 1))) pNil)))))
def w_BookU_addU : PSp := wpB 2 b_BookU_addU
def b__law_summed : PSx :=
 (pTryAs 2 c_BadBook (pRet (pAddO 1 w_BookU_addU (pVar 0) (pVar 1))) (fun a cls dx => (pRet (pTup (pCons (pXm a cls dx 2 [(21, 0), (22, 0), (23, 0)]) (pCons (pXm a cls dx 2 [(21, 1), (22, 1), (23, 1)]) pNil))))))
def w__law_summed : PSp := wpB 3 b__law_summed
def b_check_morning : PSx :=
 (pIf (pNotT (pTst (pChain fLe fLe (pC (.int 1)) (pVar 1) (pFld [(1, 1)] (pVar 0))))) (pRaise 21 (pCons (pVar 1) (pCons (pC (.str "morning")) pNil))) pNext)
def w_check_morning : PSp := wpB 2 b_check_morning
def b_Book_runners_on : PSx :=
 (pSeq (pDrop (pCall w_check_morning (pCons (pVar 0) (pCons (pVar 1) pNil))))
 (pSeq (pAsgG (pOp fIx (pFld [(1, 0)] (pMeth 1 w_Book_tail (pVar 0) (pCons (pOp fSub (pVar 1) (pC (.int 1))) pNil))) (pC (.int 0))) (pgSeq 2 (pgCons (pgName 2) (pgCons (pgName 3) pgNil))))
 (pRet (pVar 3))))
def w_Book_runners_on : PSp := wpB 4 b_Book_runners_on
def b__law_on : PSx :=
 (pSeq (pAsg (pVar 1) 2)
 (pSeq (pFor (pItems (pVar 0)) (pgName 3) (pSeq (pIf (pTst (pOp fLe (pVar 2) (pOp fIx (pVar 3) (pC (.int 0))))) (pRet (pOp fIx (pVar 3) (pC (.int 1)))) pNext)
 (pAsg (pOp fSub (pVar 2) (pOp fIx (pVar 3) (pC (.int 0)))) 2)))
 (pRet (pTup pNil))))
def w__law_on : PSp := wpB 4 b__law_on
def b__law_halves : PSx :=
 (pSeq (pAsg (pCall w__law_asked (pCons (pVar 1) (pCons (pC (.int 0)) (pCons (pVar 4) pNil)))) 5)
 (pSeq (pAsg (pCall w__law_asked (pCons (pVar 1) (pCons (pC (.int 1)) (pCons (pVar 4) pNil)))) 6)
 (pSeq (pIf (pOrT (pNotT (pTru (pCall w__law_is_book (pCons (pVar 5) (pCons (pCall w__law_part (pCons (pVar 2) (pCons (pC (.int 0)) (pCons (pVar 4) pNil)))) pNil))))) (pNotT (pTru (pCall w__law_is_book (pCons (pVar 6) (pCons (pCall w__law_part (pCons (pVar 2) (pCons (pVar 4) (pCons (pVar 3) pNil)))) pNil)))))) (pRet (pC (.bl false))) pNext)
 (pSeq (pIf (pTst (pOp fGt (pOp fAdd (pCB fLen (pCons (pFld [(1, 0)] (pVar 5)) pNil)) (pCB fLen (pCons (pFld [(1, 0)] (pVar 6)) pNil))) (pC (.int 400)))) (pIf (pNotT (pTru (pCall (w__law_same 6) (pCons (pCall w__law_summed (pCons (pVar 5) (pCons (pVar 6) pNil))) (pCons (pTup (pCons (pC (.int 400)) (pCons (pC (.str "stretches")) pNil))) pNil))))) (pRet (pC (.bl false))) pNext) (pIf (pOrT (pNotT (pTst (pOp (fEqO 1 [0, 1] w_BookU_eqU) (pAddO 1 w_BookU_addU (pVar 5) (pVar 6)) (pVar 1)))) (pNotT (pTru (pCall w__law_is_book (pCons (pAddO 1 w_BookU_addU (pVar 5) (pVar 6)) (pCons (pVar 2) pNil)))))) (pRet (pC (.bl false))) pNext))
 (pSeq (pIf (pTst (pOp fGt (pVar 4) (pC (.int 0)))) (pSeq (pAsg (pOp fAdd (pC (.int 1)) (pCall w__law_upto (pCons (pVar 0) (pCons (pOp fSub (pVar 4) (pC (.int 1))) pNil)))) 7)
 (pIf (pNotT (pTru (pCall (w__law_same 6) (pCons (pMeth 1 w_Book_runners_on (pVar 5) (pCons (pVar 7) pNil)) (pCons (pCall w__law_on (pCons (pVar 2) (pCons (pVar 7) pNil))) pNil))))) (pRet (pC (.bl false))) pNext)) pNext)
 (pSeq (pIf (pTst (pOp fLt (pVar 4) (pVar 3))) (pSeq (pAsg (pOp fAdd (pC (.int 1)) (pCall w__law_upto (pCons (pVar 0) (pCons (pOp fSub (pOp fSub (pVar 3) (pVar 4)) (pC (.int 1))) pNil)))) 7)
 (pIf (pNotT (pTru (pCall (w__law_same 6) (pCons (pMeth 1 w_Book_runners_on (pVar 6) (pCons (pVar 7) pNil)) (pCons (pCall w__law_on (pCons (pVar 2) (pCons (pOp fAdd (pVar 4) (pVar 7)) pNil))) pNil))))) (pRet (pC (.bl false))) pNext)) pNext)
 (pRet (pC (.bl true)))))))))
def w__law_halves : PSp := wpB 8 b__law_halves
def b_Book_flipped : PSx :=
 (pRet (pMake 1 i_BookU_initU (pCons (pRevT (pFld [(1, 0)] (pVar 0))) pNil)))
def w_Book_flipped : PSp := wpB 1 b_Book_flipped
def b__law_turned : PSx :=
 (pSeq (pAsg (pLc (pRange1 (pCB fLen (pCons (pVar 1) pNil))) (pgName 3) pYes (pOp fIx (pVar 1) (pOp fSub (pOp fSub (pCB fLen (pCons (pVar 1) pNil)) (pC (.int 1))) (pVar 3))) [3]) 2)
 (pSeq (pAsg (pMeth 1 w_Book_flipped (pVar 0) pNil) 4)
 (pSeq (pIf (pOrT (pNotT (pTru (pCall w__law_is_book (pCons (pVar 4) (pCons (pVar 2) pNil))))) (pNotT (pTru (pCall w__law_is_book (pCons (pMeth 1 w_Book_flipped (pVar 4) pNil) (pCons (pVar 1) pNil)))))) (pRet (pC (.bl false))) pNext)
 (pRet (pOp fEq (pCB fBool (pCons (pOp (fEqO 1 [0, 1] w_BookU_eqU) (pVar 4) (pVar 0)) pNil)) (pOp fEq (pCall w__law_joined (pCons (pVar 2) pNil)) (pCall w__law_joined (pCons (pVar 1) pNil))))))))
def w__law_turned : PSp := wpB 5 b__law_turned
def b__law_refused : PSx :=
 (pSeq (pAsg (pOp fSub (pUn fNeg (pC (.int 1))) (pCall w__law_great (pCons (pVar 0) (pCons (pOp fPow (pC (.int 10)) (pC (.int 30))) pNil)))) 3)
 (pSeq (pAsg (pOp fAdd (pOp fAdd (pVar 2) (pC (.int 1))) (pCall w__law_great (pCons (pVar 0) (pCons (pOp fPow (pC (.int 10)) (pC (.int 30))) pNil)))) 4)
 (pSeq (pFor (pRange1 (pC (.int 2))) (pgName 5) (pSeq (pIf (pNotT (pTru (pCall (w__law_same 6) (pCons (pCall w__law_asked (pCons (pVar 1) (pCons (pVar 5) (pCons (pVar 3) pNil)))) (pCons (pTup (pCons (pVar 3) (pCons (pC (.str "days")) pNil))) pNil))))) (pRet (pC (.bl false))) pNext)
 (pIf (pNotT (pTru (pCall (w__law_same 6) (pCons (pCall w__law_asked (pCons (pVar 1) (pCons (pVar 5) (pCons (pVar 4) pNil)))) (pCons (pTup (pCons (pVar 4) (pCons (pC (.str "days")) pNil))) pNil))))) (pRet (pC (.bl false))) pNext)))
 (pRet (pC (.bl true))))))
def w__law_refused : PSp := wpB 6 b__law_refused
def b_law : PSx :=
 (pSeq (pAsg (pCall w__law_pool (pCons (pVar 0) pNil)) 1)
 (pSeq (pAsg (pCall w__law_take (pCons (pVar 1) (pCons (pC (.int 13)) pNil))) 2)
 (pSeq (pIf (pTst (pOp fEq (pCall w__law_take (pCons (pVar 1) (pCons (pC (.int 16)) pNil))) (pC (.int 0)))) (pAsg (pCall w__law_take (pCons (pVar 1) (pCons (pC (.int 401)) pNil))) 2) pNext)
 (pSeq (pAsg (pCall w__law_stretches (pCons (pVar 1) (pCons (pVar 2) (pCons (pOp fPow (pC (.int 10)) (pC (.int 30))) pNil)))) 3)
 (pSeq (pAsg (pCB fSumA (pCons (pLc (pItems (pVar 3)) (pgName 5) pYes (pOp fIx (pVar 5) (pC (.int 0))) [5]) pNil)) 4)
 (pSeq (pAsg (pMake 1 i_BookU_initU (pCons (pCB fList (pCons (pVar 3) pNil)) pNil)) 6)
 (pSeq (pAsg (pCB fMin2 (pCons (pCall w__law_take (pCons (pVar 1) (pCons (pC (.int 13)) pNil))) (pCons (pCB fMin2 (pCons (pOp fSub (pC (.int 400)) (pVar 2)) (pCons (pOp fSub (pOp fPow (pC (.int 10)) (pC (.int 30))) (pVar 4)) pNil))) pNil))) 7)
 (pSeq (pAsgF (pCallF w__law_stretches (pCons (pVar 1) (pCons (pVar 7) (pCons (pOp fSub (pOp fPow (pC (.int 10)) (pC (.int 30))) (pVar 4)) pNil)))) 8)
 (pSeq (pIf (pAndT (pTst (pOp fNe (pVar 3) (pLst pNil))) (pAndT (pTst (pOp fNe (pVarV 8) (pLst pNil))) (pTst (pOp fEq (pCall w__law_take (pCons (pVar 1) (pCons (pC (.int 2)) pNil))) (pC (.int 0)))))) (pSetI 8 (pC (.int 0)) (pTup (pCons (pOp fIx (pOp fIx (pVarV 8) (pC (.int 0))) (pC (.int 0))) (pCons (pOp fIx (pOp fIx (pVar 3) (pUn fNeg (pC (.int 1)))) (pC (.int 1))) pNil)))) pNext)
 (pSeq (pAsg (pMake 1 i_BookU_initU (pCons (pCB fList (pCons (pVarV 8) pNil)) pNil)) 9)
 (pSeq (pAsg (pLst (pCons (pCall w__law_cut (pCons (pVar 1) (pCons (pVar 3) (pCons (pVar 4) pNil)))) (pCons (pCall w__law_cut (pCons (pVar 1) (pCons (pVar 3) (pCons (pVar 4) pNil)))) pNil))) 10)
 (pSeq (pFor (pItems (pVar 10)) (pgName 11) (pIf (pNotT (pTru (pCall w__law_halves (pCons (pVar 1) (pCons (pVar 6) (pCons (pVar 3) (pCons (pVar 4) (pCons (pVar 11) pNil)))))))) (pRet (pC (.bl false))) pNext))
 (pSeq (pAsg (pCB fMinL (pCons (pVar 10) pNil)) 12)
 (pSeq (pAsg (pCB fMaxL (pCons (pVar 10) pNil)) 13)
 (pSeq (pAsg (pCall w__law_part (pCons (pVar 3) (pCons (pVar 12) (pCons (pVar 13) pNil)))) 14)
 (pSeq (pIf (pNotT (pTru (pCall w__law_is_book (pCons (pMeth 1 w_Book_tail (pMeth 1 w_Book_head (pVar 6) (pCons (pVar 13) pNil)) (pCons (pVar 12) pNil)) (pCons (pVar 14) pNil))))) (pRet (pC (.bl false))) pNext)
 (pSeq (pIf (pNotT (pTru (pCall w__law_is_book (pCons (pMeth 1 w_Book_head (pMeth 1 w_Book_tail (pVar 6) (pCons (pVar 12) pNil)) (pCons (pOp fSub (pVar 13) (pVar 12)) pNil)) (pCons (pVar 14) pNil))))) (pRet (pC (.bl false))) pNext)
 (pSeq (pFreeze 8 (pIf (pOrT (pNotT (pTru (pCall w__law_turned (pCons (pVar 6) (pCons (pVar 3) pNil))))) (pNotT (pTru (pCall w__law_turned (pCons (pVar 9) (pCons (pVar 8) pNil)))))) (pRet (pC (.bl false))) pNext))
 (pSeq (pIf (pOrT (pNotT (pTru (pCall w__law_is_book (pCons (pAddO 1 w_BookU_addU (pVar 6) (pVar 9)) (pCons (pOp fAdd (pVar 3) (pVarV 8)) pNil))))) (pNotT (pTru (pCall w__law_is_book (pCons (pAddO 1 w_BookU_addU (pVar 9) (pVar 6)) (pCons (pOp fAdd (pVarV 8) (pVar 3)) pNil)))))) (pRet (pC (.bl false))) pNext)
 (pSeq (pIf (pNotT (pTst (pOp (fEqO 1 [0, 1] w_BookU_eqU) (pMeth 1 w_Book_flipped (pAddO 1 w_BookU_addU (pVar 6) (pVar 9)) pNil) (pAddO 1 w_BookU_addU (pMeth 1 w_Book_flipped (pVar 9) pNil) (pMeth 1 w_Book_flipped (pVar 6) pNil))))) (pRet (pC (.bl false))) pNext)
 (pSeq (pFreeze 8 (pAsg (pCB fSumA (pCons (pLc (pItems (pVar 8)) (pgName 5) pYes (pOp fIx (pVar 5) (pC (.int 0))) [5]) pNil)) 15))
 (pSeq (pFreeze 8 (pIf (pNotT (pTru (pCall w__law_halves (pCons (pVar 1) (pCons (pVar 9) (pCons (pVar 8) (pCons (pVar 15) (pCons (pCall w__law_cut (pCons (pVar 1) (pCons (pVar 8) (pCons (pVar 15) pNil)))) pNil)))))))) (pRet (pC (.bl false))) pNext))
 (pSeq (pIf (pOrT (pNotT (pTru (pCall w__law_refused (pCons (pVar 1) (pCons (pVar 9) (pCons (pVar 15) pNil)))))) (pNotT (pTru (pCall w__law_refused (pCons (pVar 1) (pCons (pVar 6) (pCons (pVar 4) pNil))))))) (pRet (pC (.bl false))) pNext)
 (pRet (pAndV (pCall w__law_halves (pCons (pVar 1) (pCons (pVar 6) (pCons (pVar 3) (pCons (pVar 4) (pCons (pOp fIx (pVar 10) (pC (.int 0))) pNil)))))) (pCall w__law_is_book (pCons (pVar 6) (pCons (pVar 3) pNil))))))))))))))))))))))))))))
def w_law : PSp := wpB 16 b_law
structure Tx (K : PySem.W.Frag) (mg : Str → Option Value) (a__law_pool a__law_take a__law_code a__law_great a__law_span a__law_group a__law_stretches a_ascending a_check_stretches a_join_neighbours a_BookU_initU a__law_part a__law_upto a__law_cut a__law_joined a__law_number a__law_same a__law_is_book a_BookU_eqU a_check_part a_rear_pairs a_Book_tail a_front_pairs a_Book_head a__law_asked a_BookU_addU a__law_summed a_check_morning a_Book_runners_on a__law_on a__law_halves a_Book_flipped a__law_turned a__law_refused a_law a_BadBookU_initU a_OutOfRangeU_initU A_Depot A_Book A_OutagainError A_OutOfRange A_BadDepot A_BadBook  : Addr) (d__law_pool d__law_take d__law_code d__law_great d__law_span d__law_group d__law_stretches d_ascending d_check_stretches d_join_neighbours d_BookU_initU d__law_part d__law_upto d__law_cut d__law_joined d__law_number d__law_same d__law_is_book d_BookU_eqU d_check_part d_rear_pairs d_Book_tail d_front_pairs d_Book_head d__law_asked d_BookU_addU d__law_summed d_check_morning d_Book_runners_on d__law_on d__law_halves d_Book_flipped d__law_turned d__law_refused d_law d_BadBookU_initU d_OutOfRangeU_initU : FuncData) : Prop where
  F__law_pool : Fun K "_law_pool" "_law_pool" s__law_pool a__law_pool d__law_pool
  B__law_pool : L2.Binds K d__law_pool ["script"] []
  G__law_pool : mg "_law_pool" = some (.ref a__law_pool)
  K__law_pool : PySem.W.keepIn K (.ref a__law_pool) = true
  F__law_take : Fun K "_law_take" "_law_take" s__law_take a__law_take d__law_take
  B__law_take : L2.Binds K d__law_take ["pool", "limit"] []
  G__law_take : mg "_law_take" = some (.ref a__law_take)
  K__law_take : PySem.W.keepIn K (.ref a__law_take) = true
  F__law_code : Fun K "_law_code" "_law_code" s__law_code a__law_code d__law_code
  B__law_code : L2.Binds K d__law_code ["pool"] []
  G__law_code : mg "_law_code" = some (.ref a__law_code)
  K__law_code : PySem.W.keepIn K (.ref a__law_code) = true
  F__law_great : Fun K "_law_great" "_law_great" s__law_great a__law_great d__law_great
  B__law_great : L2.Binds K d__law_great ["pool", "most"] []
  G__law_great : mg "_law_great" = some (.ref a__law_great)
  K__law_great : PySem.W.keepIn K (.ref a__law_great) = true
  F__law_span : Fun K "_law_span" "_law_span" s__law_span a__law_span d__law_span
  B__law_span : L2.Binds K d__law_span ["pool", "great"] []
  G__law_span : mg "_law_span" = some (.ref a__law_span)
  K__law_span : PySem.W.keepIn K (.ref a__law_span) = true
  F__law_group : Fun K "_law_group" "_law_group" s__law_group a__law_group d__law_group
  B__law_group : L2.Binds K d__law_group ["code"] []
  G__law_group : mg "_law_group" = some (.ref a__law_group)
  K__law_group : PySem.W.keepIn K (.ref a__law_group) = true
  F__law_stretches : Fun K "_law_stretches" "_law_stretches" s__law_stretches a__law_stretches d__law_stretches
  B__law_stretches : L2.Binds K d__law_stretches ["pool", "many", "most"] []
  G__law_stretches : mg "_law_stretches" = some (.ref a__law_stretches)
  K__law_stretches : PySem.W.keepIn K (.ref a__law_stretches) = true
  F_ascending : Fun K "ascending" "ascending" s_ascending a_ascending d_ascending
  B_ascending : L2.Binds K d_ascending ["drivers", "size"] []
  G_ascending : mg "ascending" = some (.ref a_ascending)
  K_ascending : PySem.W.keepIn K (.ref a_ascending) = true
  F_check_stretches : Fun K "check_stretches" "check_stretches" s_check_stretches a_check_stretches d_check_stretches
  B_check_stretches : L2.Binds K d_check_stretches ["stretches"] []
  G_check_stretches : mg "check_stretches" = some (.ref a_check_stretches)
  K_check_stretches : PySem.W.keepIn K (.ref a_check_stretches) = true
  F_join_neighbours : Fun K "join_neighbours" "join_neighbours" s_join_neighbours a_join_neighbours d_join_neighbours
  B_join_neighbours : L2.Binds K d_join_neighbours ["pairs"] []
  G_join_neighbours : mg "join_neighbours" = some (.ref a_join_neighbours)
  K_join_neighbours : PySem.W.keepIn K (.ref a_join_neighbours) = true
  F_BookU_initU : Fun K "__init__" "Book.__init__" s_BookU_initU a_BookU_initU d_BookU_initU
  B_BookU_initU : L2.Binds K d_BookU_initU ["self", "stretches"] []
  mk_Book : Mk K A_Book a_BookU_initU
  F__law_part : Fun K "_law_part" "_law_part" s__law_part a__law_part d__law_part
  B__law_part : L2.Binds K d__law_part ["rows", "low", "high"] []
  G__law_part : mg "_law_part" = some (.ref a__law_part)
  K__law_part : PySem.W.keepIn K (.ref a__law_part) = true
  F__law_upto : Fun K "_law_upto" "_law_upto" s__law_upto a__law_upto d__law_upto
  B__law_upto : L2.Binds K d__law_upto ["pool", "most"] []
  G__law_upto : mg "_law_upto" = some (.ref a__law_upto)
  K__law_upto : PySem.W.keepIn K (.ref a__law_upto) = true
  F__law_cut : Fun K "_law_cut" "_law_cut" s__law_cut a__law_cut d__law_cut
  B__law_cut : L2.Binds K d__law_cut ["pool", "rows", "span"] []
  G__law_cut : mg "_law_cut" = some (.ref a__law_cut)
  K__law_cut : PySem.W.keepIn K (.ref a__law_cut) = true
  F__law_joined : Fun K "_law_joined" "_law_joined" s__law_joined a__law_joined d__law_joined
  B__law_joined : L2.Binds K d__law_joined ["rows"] []
  G__law_joined : mg "_law_joined" = some (.ref a__law_joined)
  K__law_joined : PySem.W.keepIn K (.ref a__law_joined) = true
  F__law_number : Fun K "_law_number" "_law_number" s__law_number a__law_number d__law_number
  B__law_number : L2.Binds K d__law_number ["got"] []
  G__law_number : mg "_law_number" = some (.ref a__law_number)
  K__law_number : PySem.W.keepIn K (.ref a__law_number) = true
  F__law_same : Fun K "_law_same" "_law_same" s__law_same a__law_same d__law_same
  B__law_same : L2.Binds K d__law_same ["got", "due"] []
  G__law_same : mg "_law_same" = some (.ref a__law_same)
  K__law_same : PySem.W.keepIn K (.ref a__law_same) = true
  F__law_is_book : Fun K "_law_is_book" "_law_is_book" s__law_is_book a__law_is_book d__law_is_book
  B__law_is_book : L2.Binds K d__law_is_book ["book", "rows"] []
  G__law_is_book : mg "_law_is_book" = some (.ref a__law_is_book)
  K__law_is_book : PySem.W.keepIn K (.ref a__law_is_book) = true
  F_BookU_eqU : Fun K "__eq__" "Book.__eq__" s_BookU_eqU a_BookU_eqU d_BookU_eqU
  B_BookU_eqU : L2.Binds K d_BookU_eqU ["self", "other"] []
  eq_Book : EqT K mg 1 A_Book a_BookU_eqU [0, 1]
  F_check_part : Fun K "check_part" "check_part" s_check_part a_check_part d_check_part
  B_check_part : L2.Binds K d_check_part ["book", "days"] []
  G_check_part : mg "check_part" = some (.ref a_check_part)
  K_check_part : PySem.W.keepIn K (.ref a_check_part) = true
  F_rear_pairs : Fun K "rear_pairs" "rear_pairs" s_rear_pairs a_rear_pairs d_rear_pairs
  B_rear_pairs : L2.Binds K d_rear_pairs ["pairs", "many"] []
  G_rear_pairs : mg "rear_pairs" = some (.ref a_rear_pairs)
  K_rear_pairs : PySem.W.keepIn K (.ref a_rear_pairs) = true
  F_Book_tail : Fun K "tail" "Book.tail" s_Book_tail a_Book_tail d_Book_tail
  B_Book_tail : L2.Binds K d_Book_tail ["self", "days"] []
  me_Book_tail : MetT K mg 1 A_Book "tail" a_Book_tail
  F_front_pairs : Fun K "front_pairs" "front_pairs" s_front_pairs a_front_pairs d_front_pairs
  B_front_pairs : L2.Binds K d_front_pairs ["pairs", "many"] []
  G_front_pairs : mg "front_pairs" = some (.ref a_front_pairs)
  K_front_pairs : PySem.W.keepIn K (.ref a_front_pairs) = true
  F_Book_head : Fun K "head" "Book.head" s_Book_head a_Book_head d_Book_head
  B_Book_head : L2.Binds K d_Book_head ["self", "days"] []
  me_Book_head : MetT K mg 1 A_Book "head" a_Book_head
  F__law_asked : Fun K "_law_asked" "_law_asked" s__law_asked a__law_asked d__law_asked
  B__law_asked : L2.Binds K d__law_asked ["book", "way", "split"] []
  G__law_asked : mg "_law_asked" = some (.ref a__law_asked)
  K__law_asked : PySem.W.keepIn K (.ref a__law_asked) = true
  F_BookU_addU : Fun K "__add__" "Book.__add__" s_BookU_addU a_BookU_addU d_BookU_addU
  B_BookU_addU : L2.Binds K d_BookU_addU ["self", "other"] []
  ad_Book : AddT K mg 1 A_Book a_BookU_addU
  F__law_summed : Fun K "_law_summed" "_law_summed" s__law_summed a__law_summed d__law_summed
  B__law_summed : L2.Binds K d__law_summed ["front", "back"] []
  G__law_summed : mg "_law_summed" = some (.ref a__law_summed)
  K__law_summed : PySem.W.keepIn K (.ref a__law_summed) = true
  F_check_morning : Fun K "check_morning" "check_morning" s_check_morning a_check_morning d_check_morning
  B_check_morning : L2.Binds K d_check_morning ["book", "morning"] []
  G_check_morning : mg "check_morning" = some (.ref a_check_morning)
  K_check_morning : PySem.W.keepIn K (.ref a_check_morning) = true
  F_Book_runners_on : Fun K "runners_on" "Book.runners_on" s_Book_runners_on a_Book_runners_on d_Book_runners_on
  B_Book_runners_on : L2.Binds K d_Book_runners_on ["self", "morning"] []
  me_Book_runners_on : MetT K mg 1 A_Book "runners_on" a_Book_runners_on
  F__law_on : Fun K "_law_on" "_law_on" s__law_on a__law_on d__law_on
  B__law_on : L2.Binds K d__law_on ["rows", "start"] []
  G__law_on : mg "_law_on" = some (.ref a__law_on)
  K__law_on : PySem.W.keepIn K (.ref a__law_on) = true
  F__law_halves : Fun K "_law_halves" "_law_halves" s__law_halves a__law_halves d__law_halves
  B__law_halves : L2.Binds K d__law_halves ["pool", "book", "rows", "span", "split"] []
  G__law_halves : mg "_law_halves" = some (.ref a__law_halves)
  K__law_halves : PySem.W.keepIn K (.ref a__law_halves) = true
  F_Book_flipped : Fun K "flipped" "Book.flipped" s_Book_flipped a_Book_flipped d_Book_flipped
  B_Book_flipped : L2.Binds K d_Book_flipped ["self"] []
  me_Book_flipped : MetT K mg 1 A_Book "flipped" a_Book_flipped
  F__law_turned : Fun K "_law_turned" "_law_turned" s__law_turned a__law_turned d__law_turned
  B__law_turned : L2.Binds K d__law_turned ["book", "rows"] []
  G__law_turned : mg "_law_turned" = some (.ref a__law_turned)
  K__law_turned : PySem.W.keepIn K (.ref a__law_turned) = true
  F__law_refused : Fun K "_law_refused" "_law_refused" s__law_refused a__law_refused d__law_refused
  B__law_refused : L2.Binds K d__law_refused ["pool", "book", "span"] []
  G__law_refused : mg "_law_refused" = some (.ref a__law_refused)
  K__law_refused : PySem.W.keepIn K (.ref a__law_refused) = true
  F_law : Fun K "law" "law" s_law a_law d_law
  B_law : L2.Binds K d_law ["script"] []
  G_law : mg "law" = some (.ref a_law)
  K_law : PySem.W.keepIn K (.ref a_law) = true
  F_BadBookU_initU : Fun K "__init__" "BadBook.__init__" s_BadBookU_initU a_BadBookU_initU d_BadBookU_initU
  B_BadBookU_initU : L2.Binds K d_BadBookU_initU ["self", "at", "code"] []
  F_OutOfRangeU_initU : Fun K "__init__" "OutOfRange.__init__" s_OutOfRangeU_initU a_OutOfRangeU_initU d_OutOfRangeU_initU
  B_OutOfRangeU_initU : L2.Binds K d_OutOfRangeU_initU ["self", "at", "code"] []
  m_Depot : mg "Depot" = some (.ref A_Depot)
  fa_Depot_period : ∀ A, mg (cname 0) = some (.ref A) → Cls K A ∧ NoAttr K A "period"
  fa_Depot_quota : ∀ A, mg (cname 0) = some (.ref A) → Cls K A ∧ NoAttr K A "quota"
  fa_Depot_firsts : ∀ A, mg (cname 0) = some (.ref A) → Cls K A ∧ NoAttr K A "firsts"
  is_Depot : IsC K mg 0 A_Depot [0, 1]
  m_Book : mg "Book" = some (.ref A_Book)
  fa_Book_stretches : ∀ A, mg (cname 1) = some (.ref A) → Cls K A ∧ NoAttr K A "stretches"
  fa_Book_days : ∀ A, mg (cname 1) = some (.ref A) → Cls K A ∧ NoAttr K A "days"
  is_Book : IsC K mg 1 A_Book [0, 1]
  m_OutagainError : mg "OutagainError" = some (.ref A_OutagainError)
  m_OutOfRange : mg "OutOfRange" = some (.ref A_OutOfRange)
  m_BadDepot : mg "BadDepot" = some (.ref A_BadDepot)
  m_BadBook : mg "BadBook" = some (.ref A_BadBook)
  ex_BadBook : ExT K mg 23 A_BadBook a_BadBookU_initU
  ex_OutOfRange : ExT K mg 21 A_OutOfRange a_OutOfRangeU_initU
  fld_stretches : FldT K mg "stretches" [(1, 0)]
  fld_days : FldT K mg "days" [(1, 1)]
  cv_Depot_MOST_DRIVERS : CvT K mg 0 A_Depot "MOST_DRIVERS" 12
  g_MOST_STRETCHES : ∃ t, mg "MOST_STRETCHES" = some (.int 400 t)
  g_MOST_DAYS : ∃ t, mg "MOST_DAYS" = some (.int 1000000000000000000000000000000 t)
  n_abs : mg "abs" = none
  n_bool : mg "bool" = none
  n_enumerate : mg "enumerate" = none
  n_int : mg "int" = none
  n_isinstance : mg "isinstance" = none
  n_len : mg "len" = none
  n_list : mg "list" = none
  n_max : mg "max" = none
  n_min : mg "min" = none
  n_range : mg "range" = none
  n_str : mg "str" = none
  n_sum : mg "sum" = none
  n_tuple : mg "tuple" = none
  ca_BadBook : CatT K mg (.ref A_BadBook) c_BadBook
  ca_OutOfRange : CatT K mg (.ref A_OutOfRange) c_OutOfRange
  xf_code : XfT K mg "code" [(21, 1), (22, 1), (23, 1)]
  xf_at : XfT K mg "at" [(21, 0), (22, 0), (23, 0)]
section
variable {P : Program} {w : World} {K : PySem.W.Frag} {mg : Str → Option Value} {base : Heap}
variable {a__law_pool a__law_take a__law_code a__law_great a__law_span a__law_group a__law_stretches a_ascending a_check_stretches a_join_neighbours a_BookU_initU a__law_part a__law_upto a__law_cut a__law_joined a__law_number a__law_same a__law_is_book a_BookU_eqU a_check_part a_rear_pairs a_Book_tail a_front_pairs a_Book_head a__law_asked a_BookU_addU a__law_summed a_check_morning a_Book_runners_on a__law_on a__law_halves a_Book_flipped a__law_turned a__law_refused a_law a_BadBookU_initU a_OutOfRangeU_initU A_Depot A_Book A_OutagainError A_OutOfRange A_BadDepot A_BadBook  : Addr} {d__law_pool d__law_take d__law_code d__law_great d__law_span d__law_group d__law_stretches d_ascending d_check_stretches d_join_neighbours d_BookU_initU d__law_part d__law_upto d__law_cut d__law_joined d__law_number d__law_same d__law_is_book d_BookU_eqU d_check_part d_rear_pairs d_Book_tail d_front_pairs d_Book_head d__law_asked d_BookU_addU d__law_summed d_check_morning d_Book_runners_on d__law_on d__law_halves d_Book_flipped d__law_turned d__law_refused d_law d_BadBookU_initU d_OutOfRangeU_initU : FuncData}
theorem okx_BadBook (T : Tx K mg a__law_pool a__law_take a__law_code a__law_great a__law_span a__law_group a__law_stretches a_ascending a_check_stretches a_join_neighbours a_BookU_initU a__law_part a__law_upto a__law_cut a__law_joined a__law_number a__law_same a__law_is_book a_BookU_eqU a_check_part a_rear_pairs a_Book_tail a_front_pairs a_Book_head a__law_asked a_BookU_addU a__law_summed a_check_morning a_Book_runners_on a__law_on a__law_halves a_Book_flipped a__law_turned a__law_refused a_law a_BadBookU_initU a_OutOfRangeU_initU A_Depot A_Book A_OutagainError A_OutOfRange A_BadDepot A_BadBook  d__law_pool d__law_take d__law_code d__law_great d__law_span d__law_group d__law_stretches d_ascending d_check_stretches d_join_neighbours d_BookU_initU d__law_part d__law_upto d__law_cut d__law_joined d__law_number d__law_same d__law_is_book d_BookU_eqU d_check_part d_rear_pairs d_Book_tail d_front_pairs d_Book_head d__law_asked d_BookU_addU d__law_summed d_check_morning d_Book_runners_on d__law_on d__law_halves d_Book_flipped d__law_turned d__law_refused d_law d_BadBookU_initU d_OutOfRangeU_initU) : FnOk P w K mg base (L2.CX P w) 1 a_BadBookU_initU d_BadBookU_initU ["self", "at", "code"] (spX ⟨K, mg⟩ 23 3) :=
  xinit2 (N := ["self", "at", "code"]) T.F_BadBookU_initU sc_BadBookU_initU rfl T.ex_BadBook rfl rfl (fun cdv A outer s H E => pss_cons (ps_ost (pv 0) (pv 1)) (pss_one (ps_ost (pv 0) (pv 2))))
theorem okx_OutOfRange (T : Tx K mg a__law_pool a__law_take a__law_code a__law_great a__law_span a__law_group a__law_stretches a_ascending a_check_stretches a_join_neighbours a_BookU_initU a__law_part a__law_upto a__law_cut a__law_joined a__law_number a__law_same a__law_is_book a_BookU_eqU a_check_part a_rear_pairs a_Book_tail a_front_pairs a_Book_head a__law_asked a_BookU_addU a__law_summed a_check_morning a_Book_runners_on a__law_on a__law_halves a_Book_flipped a__law_turned a__law_refused a_law a_BadBookU_initU a_OutOfRangeU_initU A_Depot A_Book A_OutagainError A_OutOfRange A_BadDepot A_BadBook  d__law_pool d__law_take d__law_code d__law_great d__law_span d__law_group d__law_stretches d_ascending d_check_stretches d_join_neighbours d_BookU_initU d__law_part d__law_upto d__law_cut d__law_joined d__law_number d__law_same d__law_is_book d_BookU_eqU d_check_part d_rear_pairs d_Book_tail d_front_pairs d_Book_head d__law_asked d_BookU_addU d__law_summed d_check_morning d_Book_runners_on d__law_on d__law_halves d_Book_flipped d__law_turned d__law_refused d_law d_BadBookU_initU d_OutOfRangeU_initU) : FnOk P w K mg base (L2.CX P w) 1 a_OutOfRangeU_initU d_OutOfRangeU_initU ["self", "at", "code"] (spX ⟨K, mg⟩ 21 3) :=
  xinit2 (N := ["self", "at", "code"]) T.F_OutOfRangeU_initU sc_OutOfRangeU_initU rfl T.ex_OutOfRange rfl rfl (fun cdv A outer s H E => pss_cons (ps_ost (pv 0) (pv 1)) (pss_one (ps_ost (pv 0) (pv 2))))
theorem ok__law_pool (T : Tx K mg a__law_pool a__law_take a__law_code a__law_great a__law_span a__law_group a__law_stretches a_ascending a_check_stretches a_join_neighbours a_BookU_initU a__law_part a__law_upto a__law_cut a__law_joined a__law_number a__law_same a__law_is_book a_BookU_eqU a_check_part a_rear_pairs a_Book_tail a_front_pairs a_Book_head a__law_asked a_BookU_addU a__law_summed a_check_morning a_Book_runners_on a__law_on a__law_halves a_Book_flipped a__law_turned a__law_refused a_law a_BadBookU_initU a_OutOfRangeU_initU A_Depot A_Book A_OutagainError A_OutOfRange A_BadDepot A_BadBook  d__law_pool d__law_take d__law_code d__law_great d__law_span d__law_group d__law_stretches d_ascending d_check_stretches d_join_neighbours d_BookU_initU d__law_part d__law_upto d__law_cut d__law_joined d__law_number d__law_same d__law_is_book d_BookU_eqU d_check_part d_rear_pairs d_Book_tail d_front_pairs d_Book_head d__law_asked d_BookU_addU d__law_summed d_check_morning d_Book_runners_on d__law_on d__law_halves d_Book_flipped d__law_turned d__law_refused d_law d_BadBookU_initU d_OutOfRangeU_initU) : FnOk P w K mg base (L2.CX P w) 1 a__law_pool d__law_pool ["script"] (liftSp ⟨K, mg⟩ w__law_pool 1) :=
  fn_newPool (N := ["script"]) (ps := ["script"]) (k := 0) (pe := (pLst (pCons (pC (.int 0)) (pCons (pC (.int 1)) (pCons (pC (.int 0)) (pCons (pC (.int 0)) (pCons (pCB fList (pCons (pVar 0) pNil)) pNil))))))) T.F__law_pool sc__law_pool rfl rfl (fun cdv A outer s H E hr => ⟨_, lo_lst (la_cons lx_int (la_cons lx_int (la_cons lx_int (la_cons lx_int (la_cons (LO.x (lo_callT call_list_of cl_list rfl T.n_list bb_list (lw_cons (LX.v (lx_var 0)) lw_nil))) la_nil)))))⟩) (fun ns P h => by simpa [pLst, pCons, pNil, pC, pCB, fList, pVarV, pVar, startD, szl] using h)
theorem ok__law_take (T : Tx K mg a__law_pool a__law_take a__law_code a__law_great a__law_span a__law_group a__law_stretches a_ascending a_check_stretches a_join_neighbours a_BookU_initU a__law_part a__law_upto a__law_cut a__law_joined a__law_number a__law_same a__law_is_book a_BookU_eqU a_check_part a_rear_pairs a_Book_tail a_front_pairs a_Book_head a__law_asked a_BookU_addU a__law_summed a_check_morning a_Book_runners_on a__law_on a__law_halves a_Book_flipped a__law_turned a__law_refused a_law a_BadBookU_initU a_OutOfRangeU_initU A_Depot A_Book A_OutagainError A_OutOfRange A_BadDepot A_BadBook  d__law_pool d__law_take d__law_code d__law_great d__law_span d__law_group d__law_stretches d_ascending d_check_stretches d_join_neighbours d_BookU_initU d__law_part d__law_upto d__law_cut d__law_joined d__law_number d__law_same d__law_is_book d_BookU_eqU d_check_part d_rear_pairs d_Book_tail d_front_pairs d_Book_head d__law_asked d_BookU_addU d__law_summed d_check_morning d_Book_runners_on d__law_on d__law_halves d_Book_flipped d__law_turned d__law_refused d_law d_BadBookU_initU d_OutOfRangeU_initU) : FnOk P w K mg base (L2.CX P w) 1 a__law_take d__law_take ["pool", "limit"] (liftSp ⟨K, mg⟩ w__law_take 2) :=
  fn_mkPl (N := ["pool", "limit", "cell", "got", "k", "mixed"]) (ps := ["pool", "limit"]) (k := 0) (pb := b__law_take) T.F__law_take sc__law_take (by decide) fun cdv A outer s H E hr => ⟨_, (lss_cons (ls_if (LWt.t (lw_and (lt_cmp (op_eqD hr.units) ol_eq (LX.v (lx_ix (lv_var 0) (LX.v lx_int) (fun _ _ => rfl))) (LX.v lx_int) (nomark _)) (lw_and1 (lt_cmp L2.op_lt ol_lt (LX.v (lx_ix (lv_var 0) (LX.v lx_int) (fun _ _ => rfl))) (LX.v (lx_callB call_len cl_len rfl T.n_len bb_len (lw_cons (LX.v (lx_ix (lv_var 0) (LX.v lx_int) (fun _ _ => rfl))) lw_nil))) (nomark _))))) (lss_cons (ls_set 2 sc__law_take.nd (lx_callB call_abs cl_abs rfl T.n_abs bb_abs (lw_cons (LX.v (lx_ix (LX.v (lx_ix (lv_var 0) (LX.v lx_int) (fun _ _ => rfl))) (LX.v (lx_ix (lv_var 0) (LX.v lx_int) (fun _ _ => rfl))) (fun _ _ => rfl))) lw_nil)))
 (lss_cons (ls_setI 0 (lx_bin op_addAll ol_add (LX.v (lx_ix (lv_var 0) (LX.v lx_int) (fun _ _ => rfl))) (LX.v lx_int)) lx_int)
 (lss_one (ls_if (lt_cmp L2.op_ge ol_ge (LX.v (lx_var 2)) (LX.v (lx_bin op_pow ol_pow (LX.v lx_int) (LX.v lx_int))) (nomark _)) (lss_one (ls_setI 0 (lx_var 2) lx_int)) (lss_one (ls_setI 0 (lx_bin op_mod ol_mod (LX.v (lx_callT call_int1 cl_int rfl T.n_int bb_int (lw_cons (LX.v (lx_bin op_addAll ol_add (LX.v (lx_bin op_addAll ol_add (LX.v (lx_bin op_mulAll ol_mul (LX.v (lx_ix (lv_var 0) (LX.v lx_int) (fun _ _ => rfl))) (LX.v lx_int))) (LX.v (lx_var 2)))) (LX.v lx_int))) lw_nil))) (LX.v lx_int)) lx_int)))))) lss_nil)
 (lss_cons (ls_if (lt_cmp L2.op_gt ol_gt (LX.v (lx_ix (lv_var 0) (LX.v lx_int) (fun _ _ => rfl))) (LX.v lx_int) (nomark _)) (lss_cons (ls_set 3 sc__law_take.nd (lx_bin op_mod ol_mod (LX.v (lx_callT call_int1 cl_int rfl T.n_int bb_int (lw_cons (LX.v (lx_ix (lv_var 0) (LX.v lx_int) (fun _ _ => rfl))) lw_nil))) (LX.v (lx_var 1))))
 (lss_cons (ls_setI 0 (lx_bin op_fdivW ol_div (LX.v (lx_ix (lv_var 0) (LX.v lx_int) (fun _ _ => rfl))) (LX.v (lx_var 1))) lx_int)
 (lss_one (ls_ret (lx_var 3))))) lss_nil)
 (lss_cons (ls_set 4 sc__law_take.nd (lx_bin op_addAll ol_add (LX.v (lx_ix (lv_var 0) (LX.v lx_int) (fun _ _ => rfl))) (LX.v lx_int)))
 (lss_cons (ls_setI 0 (lx_var 4) lx_int)
 (lss_cons (ls_set 5 sc__law_take.nd (lx_ix (lv_var 0) (LX.v lx_int) (fun _ _ => rfl)))
 (lss_cons (ls_set 5 sc__law_take.nd (lx_bin op_mod ol_mod (LX.v (lx_callT call_int1 cl_int rfl T.n_int bb_int (lw_cons (LX.v (lx_bin op_addAll ol_add (LX.v (lx_bin op_addAll ol_add (LX.v (lx_bin op_mulAll ol_mul (LX.v (lx_var 5)) (LX.v (lx_var 5)))) (LX.v (lx_bin op_mulAll ol_mul (LX.v (lx_var 4)) (LX.v lx_int))))) (LX.v lx_int))) lw_nil))) (LX.v lx_int)))
 (lss_cons (ls_set 5 sc__law_take.nd (lx_bin op_mod ol_mod (LX.v (lx_callT call_int1 cl_int rfl T.n_int bb_int (lw_cons (LX.v (lx_bin op_addAll ol_add (LX.v (lx_bin op_mulAll ol_mul (LX.v (lx_var 5)) (LX.v (lx_var 5)))) (LX.v (lx_bin op_fdivW ol_div (LX.v (lx_var 5)) (LX.v lx_int))))) lw_nil))) (LX.v lx_int)))
 (lss_cons (ls_setI 0 (lx_var 5) lx_int)
 (lss_one (ls_ret (lx_bin op_mod ol_mod (LX.v (lx_callT call_int1 cl_int rfl T.n_int bb_int (lw_cons (LX.v (lx_bin op_fdivW ol_div (LX.v (lx_var 5)) (LX.v lx_int))) lw_nil))) (LX.v (lx_var 1)))))))))))))⟩
theorem ok__law_code (T : Tx K mg a__law_pool a__law_take a__law_code a__law_great a__law_span a__law_group a__law_stretches a_ascending a_check_stretches a_join_neighbours a_BookU_initU a__law_part a__law_upto a__law_cut a__law_joined a__law_number a__law_same a__law_is_book a_BookU_eqU a_check_part a_rear_pairs a_Book_tail a_front_pairs a_Book_head a__law_asked a_BookU_addU a__law_summed a_check_morning a_Book_runners_on a__law_on a__law_halves a_Book_flipped a__law_turned a__law_refused a_law a_BadBookU_initU a_OutOfRangeU_initU A_Depot A_Book A_OutagainError A_OutOfRange A_BadDepot A_BadBook  d__law_pool d__law_take d__law_code d__law_great d__law_span d__law_group d__law_stretches d_ascending d_check_stretches d_join_neighbours d_BookU_initU d__law_part d__law_upto d__law_cut d__law_joined d__law_number d__law_same d__law_is_book d_BookU_eqU d_check_part d_rear_pairs d_Book_tail d_front_pairs d_Book_head d__law_asked d_BookU_addU d__law_summed d_check_morning d_Book_runners_on d__law_on d__law_halves d_Book_flipped d__law_turned d__law_refused d_law d_BadBookU_initU d_OutOfRangeU_initU) : FnOk P w K mg base (L2.CX P w) 2 a__law_code d__law_code ["pool"] (liftSp ⟨K, mg⟩ w__law_code 1) :=
  fn_mk (N := ["pool", "way"]) (ps := ["pool"]) (k := 1) (pb := b__law_code) T.F__law_code sc__law_code fun cdv A outer s H E hr => ⟨_, (lss_cons (ls_set 1 sc__law_code.nd (lx_call (takes_of rfl rfl rfl rfl) (ok__law_take T) (hr.mono (by first | decide | omega)) rfl T.G__law_take T.K__law_take T.B__law_take (lan_cons (lx_var 0) (lan_cons lx_int lan_nil))))
 (lss_cons (ls_if (lt_cmp (op_eqD hr.units) ol_eq (LX.v (lx_var 1)) (LX.v lx_int) (nomark _)) (lss_one (ls_ret lx_int)) lss_nil)
 (lss_cons (ls_if (lt_cmp (op_eqD hr.units) ol_eq (LX.v (lx_var 1)) (LX.v lx_int) (nomark _)) (lss_one (ls_ret lx_int)) lss_nil)
 (lss_one (ls_ret (lx_call (takes_of rfl rfl rfl rfl) (ok__law_take T) (hr.mono (by first | decide | omega)) rfl T.G__law_take T.K__law_take T.B__law_take (lan_cons (lx_var 0) (lan_cons lx_int lan_nil))))))))⟩
theorem ok__law_great (T : Tx K mg a__law_pool a__law_take a__law_code a__law_great a__law_span a__law_group a__law_stretches a_ascending a_check_stretches a_join_neighbours a_BookU_initU a__law_part a__law_upto a__law_cut a__law_joined a__law_number a__law_same a__law_is_book a_BookU_eqU a_check_part a_rear_pairs a_Book_tail a_front_pairs a_Book_head a__law_asked a_BookU_addU a__law_summed a_check_morning a_Book_runners_on a__law_on a__law_halves a_Book_flipped a__law_turned a__law_refused a_law a_BadBookU_initU a_OutOfRangeU_initU A_Depot A_Book A_OutagainError A_OutOfRange A_BadDepot A_BadBook  d__law_pool d__law_take d__law_code d__law_great d__law_span d__law_group d__law_stretches d_ascending d_check_stretches d_join_neighbours d_BookU_initU d__law_part d__law_upto d__law_cut d__law_joined d__law_number d__law_same d__law_is_book d_BookU_eqU d_check_part d_rear_pairs d_Book_tail d_front_pairs d_Book_head d__law_asked d_BookU_addU d__law_summed d_check_morning d_Book_runners_on d__law_on d__law_halves d_Book_flipped d__law_turned d__law_refused d_law d_BadBookU_initU d_OutOfRangeU_initU) : FnOk P w K mg base (L2.CX P w) 2 a__law_great d__law_great ["pool", "most"] (liftSp ⟨K, mg⟩ w__law_great 2) :=
  fn_mk (N := ["pool", "most", "way", "got", "k"]) (ps := ["pool", "most"]) (k := 1) (pb := b__law_great) T.F__law_great sc__law_great fun cdv A outer s H E hr => ⟨_, (lss_cons (ls_set 2 sc__law_great.nd (lx_call (takes_of rfl rfl rfl rfl) (ok__law_take T) (hr.mono (by first | decide | omega)) rfl T.G__law_take T.K__law_take T.B__law_take (lan_cons (lx_var 0) (lan_cons lx_int lan_nil))))
 (lss_cons (ls_if (lt_cmp L2.op_lt ol_lt (LX.v (lx_var 2)) (LX.v lx_int) (nomark _)) (lss_one (ls_ret (lx_callB (call_min2 rfl) cl_min2 rfl T.n_min bb_min (lw_cons (LX.v (lx_var 1)) (lw_cons (LX.v (lx_call (takes_of rfl rfl rfl rfl) (ok__law_take T) (hr.mono (by first | decide | omega)) rfl T.G__law_take T.K__law_take T.B__law_take (lan_cons (lx_var 0) (lan_cons lx_int lan_nil)))) lw_nil))))) lss_nil)
 (lss_cons (ls_if (lt_cmp (op_eqD hr.units) ol_eq (LX.v (lx_var 2)) (LX.v lx_int) (nomark _)) (lss_one (ls_ret (lx_callB (call_min2 rfl) cl_min2 rfl T.n_min bb_min (lw_cons (LX.v (lx_var 1)) (lw_cons (LX.v (lx_call (takes_of rfl rfl rfl rfl) (ok__law_take T) (hr.mono (by first | decide | omega)) rfl T.G__law_take T.K__law_take T.B__law_take (lan_cons (lx_var 0) (lan_cons lx_int lan_nil)))) lw_nil))))) lss_nil)
 (lss_cons (ls_if (lt_cmp L2.op_gt ol_gt (LX.v (lx_ix (LX.v (lx_var 0)) (LX.v lx_int) (fun _ _ => rfl))) (LX.v (lx_var 1)) (nomark _)) (lss_one (ls_ret (lx_call (takes_of rfl rfl rfl rfl) (ok__law_take T) (hr.mono (by first | decide | omega)) rfl T.G__law_take T.K__law_take T.B__law_take (lan_cons (lx_var 0) (lan_cons (lx_bin op_addAll ol_add (LX.v (lx_var 1)) (LX.v lx_int)) lan_nil))))) lss_nil)
 (lss_cons (ls_set 3 sc__law_great.nd lx_int)
 (lss_cons (ls_for (passes_of rfl) rfl (li_range1 rfl T.n_range lx_int) (lg_name 4 sc__law_great.nd) (lss_one (ls_set 3 sc__law_great.nd (lx_bin op_addAll ol_add (LX.v (lx_bin op_mulAll ol_mul (LX.v (lx_var 3)) (LX.v (lx_bin op_pow ol_pow (LX.v lx_int) (LX.v lx_int))))) (LX.v (lx_call (takes_of rfl rfl rfl rfl) (ok__law_take T) (hr.mono (by first | decide | omega)) rfl T.G__law_take T.K__law_take T.B__law_take (lan_cons (lx_var 0) (lan_cons (lx_bin op_pow ol_pow (LX.v lx_int) (LX.v lx_int)) lan_nil))))))))
 (lss_one (ls_ret (lx_bin op_mod ol_mod (LX.v (lx_callT call_int1 cl_int rfl T.n_int bb_int (lw_cons (LX.v (lx_var 3)) lw_nil))) (LX.v (lx_bin op_addAll ol_add (LX.v (lx_var 1)) (LX.v lx_int))))))))))))⟩
theorem ok__law_span (T : Tx K mg a__law_pool a__law_take a__law_code a__law_great a__law_span a__law_group a__law_stretches a_ascending a_check_stretches a_join_neighbours a_BookU_initU a__law_part a__law_upto a__law_cut a__law_joined a__law_number a__law_same a__law_is_book a_BookU_eqU a_check_part a_rear_pairs a_Book_tail a_front_pairs a_Book_head a__law_asked a_BookU_addU a__law_summed a_check_morning a_Book_runners_on a__law_on a__law_halves a_Book_flipped a__law_turned a__law_refused a_law a_BadBookU_initU a_OutOfRangeU_initU A_Depot A_Book A_OutagainError A_OutOfRange A_BadDepot A_BadBook  d__law_pool d__law_take d__law_code d__law_great d__law_span d__law_group d__law_stretches d_ascending d_check_stretches d_join_neighbours d_BookU_initU d__law_part d__law_upto d__law_cut d__law_joined d__law_number d__law_same d__law_is_book d_BookU_eqU d_check_part d_rear_pairs d_Book_tail d_front_pairs d_Book_head d__law_asked d_BookU_addU d__law_summed d_check_morning d_Book_runners_on d__law_on d__law_halves d_Book_flipped d__law_turned d__law_refused d_law d_BadBookU_initU d_OutOfRangeU_initU) : FnOk P w K mg base (L2.CX P w) 3 a__law_span d__law_span ["pool", "great"] (liftSp ⟨K, mg⟩ w__law_span 2) :=
  fn_mk (N := ["pool", "great", "way"]) (ps := ["pool", "great"]) (k := 2) (pb := b__law_span) T.F__law_span sc__law_span fun cdv A outer s H E hr => ⟨_, (lss_cons (ls_set 2 sc__law_span.nd (lx_call (takes_of rfl rfl rfl rfl) (ok__law_take T) (hr.mono (by first | decide | omega)) rfl T.G__law_take T.K__law_take T.B__law_take (lan_cons (lx_var 0) (lan_cons lx_int lan_nil))))
 (lss_cons (ls_if (LWt.t (lw_and (lt_cmp (op_eqD hr.units) ol_eq (LX.v (lx_var 2)) (LX.v lx_int) (nomark _)) (lw_and1 (lt_cmp L2.op_gt ol_gt (LX.v (lx_var 1)) (LX.v lx_int) (nomark _))))) (lss_one (ls_ret (lx_bin op_addAll ol_add (LX.v lx_int) (LX.v (lx_call (takes_of rfl rfl rfl rfl) (ok__law_great T) (hr.mono (by first | decide | omega)) rfl T.G__law_great T.K__law_great T.B__law_great (lan_cons (lx_var 0) (lan_cons (lx_var 1) lan_nil))))))) lss_nil)
 (lss_cons (ls_if (lt_cmp (op_eqD hr.units) ol_eq (LX.v (lx_var 2)) (LX.v lx_int) (nomark _)) (lss_one (ls_ret (lx_bin op_addAll ol_add (LX.v lx_int) (LX.v (lx_call (takes_of rfl rfl rfl rfl) (ok__law_take T) (hr.mono (by first | decide | omega)) rfl T.G__law_take T.K__law_take T.B__law_take (lan_cons (lx_var 0) (lan_cons lx_int lan_nil))))))) lss_nil)
 (lss_one (ls_ret lx_int)))))⟩
theorem ok__law_group (T : Tx K mg a__law_pool a__law_take a__law_code a__law_great a__law_span a__law_group a__law_stretches a_ascending a_check_stretches a_join_neighbours a_BookU_initU a__law_part a__law_upto a__law_cut a__law_joined a__law_number a__law_same a__law_is_book a_BookU_eqU a_check_part a_rear_pairs a_Book_tail a_front_pairs a_Book_head a__law_asked a_BookU_addU a__law_summed a_check_morning a_Book_runners_on a__law_on a__law_halves a_Book_flipped a__law_turned a__law_refused a_law a_BadBookU_initU a_OutOfRangeU_initU A_Depot A_Book A_OutagainError A_OutOfRange A_BadDepot A_BadBook  d__law_pool d__law_take d__law_code d__law_great d__law_span d__law_group d__law_stretches d_ascending d_check_stretches d_join_neighbours d_BookU_initU d__law_part d__law_upto d__law_cut d__law_joined d__law_number d__law_same d__law_is_book d_BookU_eqU d_check_part d_rear_pairs d_Book_tail d_front_pairs d_Book_head d__law_asked d_BookU_addU d__law_summed d_check_morning d_Book_runners_on d__law_on d__law_halves d_Book_flipped d__law_turned d__law_refused d_law d_BadBookU_initU d_OutOfRangeU_initU) : FnOk P w K mg base (L2.CX P w) 1 a__law_group d__law_group ["code"] (liftSp ⟨K, mg⟩ w__law_group 1) :=
  fn_mk (N := ["code", "group", "i"]) (ps := ["code"]) (k := 0) (pb := b__law_group) T.F__law_group sc__law_group fun cdv A outer s H E hr => ⟨_, (lss_cons (ls_setO 1 sc__law_group.nd (lo_lst la_nil))
 (lss_cons (ls_for (passes_of rfl) rfl (li_range1 rfl T.n_range lx_int) (lg_name 2 sc__law_group.nd) (lss_cons (ls_if (lt_cmp (op_eqD hr.units) ol_eq (LX.v (lx_bin op_mod ol_mod (LX.v (lx_callT call_int1 cl_int rfl T.n_int bb_int (lw_cons (LX.v (lx_var 0)) lw_nil))) (LX.v lx_int))) (LX.v lx_int) (nomark _)) (lss_one (ls_app 1 (lx_var 2))) lss_nil)
 (lss_one (ls_set 0 sc__law_group.nd (lx_bin op_fdivW ol_div (LX.v (lx_var 0)) (LX.v lx_int))))))
 (lss_one (ls_ret (lx_callT call_tupN cl_tuple rfl T.n_tuple bb_tuple (lw_cons (lv_var 1) lw_nil))))))⟩
theorem ok__law_stretches (T : Tx K mg a__law_pool a__law_take a__law_code a__law_great a__law_span a__law_group a__law_stretches a_ascending a_check_stretches a_join_neighbours a_BookU_initU a__law_part a__law_upto a__law_cut a__law_joined a__law_number a__law_same a__law_is_book a_BookU_eqU a_check_part a_rear_pairs a_Book_tail a_front_pairs a_Book_head a__law_asked a_BookU_addU a__law_summed a_check_morning a_Book_runners_on a__law_on a__law_halves a_Book_flipped a__law_turned a__law_refused a_law a_BadBookU_initU a_OutOfRangeU_initU A_Depot A_Book A_OutagainError A_OutOfRange A_BadDepot A_BadBook  d__law_pool d__law_take d__law_code d__law_great d__law_span d__law_group d__law_stretches d_ascending d_check_stretches d_join_neighbours d_BookU_initU d__law_part d__law_upto d__law_cut d__law_joined d__law_number d__law_same d__law_is_book d_BookU_eqU d_check_part d_rear_pairs d_Book_tail d_front_pairs d_Book_head d__law_asked d_BookU_addU d__law_summed d_check_morning d_Book_runners_on d__law_on d__law_halves d_Book_flipped d__law_turned d__law_refused d_law d_BadBookU_initU d_OutOfRangeU_initU) : FnOk P w K mg base (L2.CX P w) 4 a__law_stretches d__law_stretches ["pool", "many", "most"] (liftSp ⟨K, mg⟩ w__law_stretches 3) :=
  fn_mk (N := ["pool", "many", "most", "menu", "rows", "total", "k", "way", "code", "room", "span"]) (ps := ["pool", "many", "most"]) (k := 3) (pb := b__law_stretches) T.F__law_stretches sc__law_stretches fun cdv A outer s H E hr => ⟨_, (lss_cons (ls_set 3 sc__law_stretches.nd (LO.x (lo_lst (la_cons (lx_call (takes_of rfl rfl rfl rfl) (ok__law_code T) (hr.mono (by first | decide | omega)) rfl T.G__law_code T.K__law_code T.B__law_code (lan_cons (lx_var 0) lan_nil)) (la_cons (lx_call (takes_of rfl rfl rfl rfl) (ok__law_code T) (hr.mono (by first | decide | omega)) rfl T.G__law_code T.K__law_code T.B__law_code (lan_cons (lx_var 0) lan_nil)) (la_cons (lx_call (takes_of rfl rfl rfl rfl) (ok__law_code T) (hr.mono (by first | decide | omega)) rfl T.G__law_code T.K__law_code T.B__law_code (lan_cons (lx_var 0) lan_nil)) la_nil))))))
 (lss_cons (ls_setO 4 sc__law_stretches.nd (lo_lst la_nil))
 (lss_cons (ls_set 5 sc__law_stretches.nd lx_int)
 (lss_cons (ls_for (passes_of rfl) rfl (li_range1 rfl T.n_range (lx_var 1)) (lg_name 6 sc__law_stretches.nd) (lss_cons (ls_set 7 sc__law_stretches.nd (lx_call (takes_of rfl rfl rfl rfl) (ok__law_take T) (hr.mono (by first | decide | omega)) rfl T.G__law_take T.K__law_take T.B__law_take (lan_cons (lx_var 0) (lan_cons lx_int lan_nil))))
 (lss_cons (ls_if (lt_cmp (op_eqD hr.units) ol_eq (LX.v (lx_var 7)) (LX.v lx_int) (nomark _)) (lss_one (ls_set 8 sc__law_stretches.nd (lx_call (takes_of rfl rfl rfl rfl) (ok__law_take T) (hr.mono (by first | decide | omega)) rfl T.G__law_take T.K__law_take T.B__law_take (lan_cons (lx_var 0) (lan_cons lx_int lan_nil))))) (lss_one (ls_set 8 sc__law_stretches.nd (lx_ix (LX.v (lx_var 3)) (LX.v (lx_var 7)) (fun _ _ => rfl)))))
 (lss_cons (ls_set 9 sc__law_stretches.nd (lx_bin op_sub ol_sub (LX.v (lx_bin op_sub ol_sub (LX.v (lx_var 2)) (LX.v (lx_var 5)))) (LX.v (lx_bin op_sub ol_sub (LX.v (lx_var 1)) (LX.v (lx_var 6))))))
 (lss_cons (ls_set 10 sc__law_stretches.nd (lx_callB (call_min2 rfl) cl_min2 rfl T.n_min bb_min (lw_cons (LX.v (lx_bin op_addAll ol_add (LX.v (lx_var 9)) (LX.v lx_int))) (lw_cons (LX.v (lx_call (takes_of rfl rfl rfl rfl) (ok__law_span T) (hr.mono (by first | decide | omega)) rfl T.G__law_span T.K__law_span T.B__law_span (lan_cons (lx_var 0) (lan_cons (lx_var 9) lan_nil)))) lw_nil))))
 (lss_cons (ls_app 4 (lx_tup (la_cons (lx_var 10) (la_cons (lx_call (takes_of rfl rfl rfl rfl) (ok__law_group T) (hr.mono (by first | decide | omega)) rfl T.G__law_group T.K__law_group T.B__law_group (lan_cons (lx_var 8) lan_nil)) la_nil))))
 (lss_one (ls_set 5 sc__law_stretches.nd (lx_bin op_addAll ol_add (LX.v (lx_var 5)) (LX.v (lx_var 10)))))))))))
 (lss_one (ls_freeze 4 (ls_ret (lx_var 4))))))))⟩
theorem ok_ascending (T : Tx K mg a__law_pool a__law_take a__law_code a__law_great a__law_span a__law_group a__law_stretches a_ascending a_check_stretches a_join_neighbours a_BookU_initU a__law_part a__law_upto a__law_cut a__law_joined a__law_number a__law_same a__law_is_book a_BookU_eqU a_check_part a_rear_pairs a_Book_tail a_front_pairs a_Book_head a__law_asked a_BookU_addU a__law_summed a_check_morning a_Book_runners_on a__law_on a__law_halves a_Book_flipped a__law_turned a__law_refused a_law a_BadBookU_initU a_OutOfRangeU_initU A_Depot A_Book A_OutagainError A_OutOfRange A_BadDepot A_BadBook  d__law_pool d__law_take d__law_code d__law_great d__law_span d__law_group d__law_stretches d_ascending d_check_stretches d_join_neighbours d_BookU_initU d__law_part d__law_upto d__law_cut d__law_joined d__law_number d__law_same d__law_is_book d_BookU_eqU d_check_part d_rear_pairs d_Book_tail d_front_pairs d_Book_head d__law_asked d_BookU_addU d__law_summed d_check_morning d_Book_runners_on d__law_on d__law_halves d_Book_flipped d__law_turned d__law_refused d_law d_BadBookU_initU d_OutOfRangeU_initU) : FnOk P w K mg base (L2.CX P w) 1 a_ascending d_ascending ["drivers", "size"] (liftSp ⟨K, mg⟩ w_ascending 2) :=
  fn_mk (N := ["drivers", "size", "least", "driver"]) (ps := ["drivers", "size"]) (k := 0) (pb := b_ascending) T.F_ascending sc_ascending fun cdv A outer s H E hr => ⟨_, (lss_cons (ls_set 2 sc_ascending.nd lx_int)
 (lss_cons (ls_for (passes_of rfl) rfl (li_seq (lx_var 0)) (lg_name 3 sc_ascending.nd) (lss_cons (ls_if (lt_not (lt_chain L2.op_le L2.op_lt ol_le ol_lt (LX.v (lx_var 2)) (LX.v (lx_var 3)) (LX.v (lx_var 1)))) (lss_one (ls_ret lx_bl)) lss_nil)
 (lss_one (ls_set 2 sc_ascending.nd (lx_bin op_addAll ol_add (LX.v (lx_var 3)) (LX.v lx_int))))))
 (lss_one (ls_ret lx_bl))))⟩
theorem ok_check_stretches (T : Tx K mg a__law_pool a__law_take a__law_code a__law_great a__law_span a__law_group a__law_stretches a_ascending a_check_stretches a_join_neighbours a_BookU_initU a__law_part a__law_upto a__law_cut a__law_joined a__law_number a__law_same a__law_is_book a_BookU_eqU a_check_part a_rear_pairs a_Book_tail a_front_pairs a_Book_head a__law_asked a_BookU_addU a__law_summed a_check_morning a_Book_runners_on a__law_on a__law_halves a_Book_flipped a__law_turned a__law_refused a_law a_BadBookU_initU a_OutOfRangeU_initU A_Depot A_Book A_OutagainError A_OutOfRange A_BadDepot A_BadBook  d__law_pool d__law_take d__law_code d__law_great d__law_span d__law_group d__law_stretches d_ascending d_check_stretches d_join_neighbours d_BookU_initU d__law_part d__law_upto d__law_cut d__law_joined d__law_number d__law_same d__law_is_book d_BookU_eqU d_check_part d_rear_pairs d_Book_tail d_front_pairs d_Book_head d__law_asked d_BookU_addU d__law_summed d_check_morning d_Book_runners_on d__law_on d__law_halves d_Book_flipped d__law_turned d__law_refused d_law d_BadBookU_initU d_OutOfRangeU_initU) : FnOk P w K mg base (L2.CX P w) 3 a_check_stretches d_check_stretches ["stretches"] (liftSp ⟨K, mg⟩ w_check_stretches 1) :=
  fn_mk (N := ["stretches", "total", "at", "days", "runners"]) (ps := ["stretches"]) (k := 2) (pb := b_check_stretches) T.F_check_stretches sc_check_stretches fun cdv A outer s H E hr => ⟨_, (lss_cons (ls_if (lt_cmp L2.op_gt ol_gt (LX.v (lx_callB call_len cl_len rfl T.n_len bb_len (lw_cons (LX.v (lx_var 0)) lw_nil))) (LX.v (lx_gint rfl T.g_MOST_STRETCHES)) (nomark _)) (lss_one (ls_raise (c := 23) rfl (takes_of rfl rfl rfl rfl) T.ex_BadBook (okx_BadBook T) (hr.mono (by decide)) T.B_BadBookU_initU rfl (lan_cons (lx_gint rfl T.g_MOST_STRETCHES) (lan_cons lx_str lan_nil)))) lss_nil)
 (lss_cons (ls_set 1 sc_check_stretches.nd lx_int)
 (lss_one (ls_for (passes_of rfl) rfl (li_enum1 rfl T.n_enumerate (lx_var 0)) (lg_seq rfl (lgs_cons (lg_name 2 sc_check_stretches.nd) (lgs_cons (lg_seq rfl (lgs_cons (lg_name 3 sc_check_stretches.nd) (lgs_cons (lg_name 4 sc_check_stretches.nd) lgs_nil))) lgs_nil))) (lss_cons (ls_if (lt_not (lt_chain L2.op_le L2.op_le ol_le ol_le (LX.v lx_int) (LX.v (lx_var 3)) (LX.v (lx_gint rfl T.g_MOST_DAYS)))) (lss_one (ls_raise (c := 23) rfl (takes_of rfl rfl rfl rfl) T.ex_BadBook (okx_BadBook T) (hr.mono (by decide)) T.B_BadBookU_initU rfl (lan_cons (lx_var 2) (lan_cons lx_str lan_nil)))) lss_nil)
 (lss_cons (ls_if (lt_not (lt_truth (LX.v (lx_call (takes_of rfl rfl rfl rfl) (ok_ascending T) (hr.mono (by first | decide | omega)) rfl T.G_ascending T.K_ascending T.B_ascending (lan_cons (lx_var 4) (lan_cons (lx_cval (c := 0) T.cv_Depot_MOST_DRIVERS rfl) lan_nil)))))) (lss_one (ls_raise (c := 23) rfl (takes_of rfl rfl rfl rfl) T.ex_BadBook (okx_BadBook T) (hr.mono (by decide)) T.B_BadBookU_initU rfl (lan_cons (lx_var 2) (lan_cons lx_str lan_nil)))) lss_nil)
 (lss_cons (ls_set 1 sc_check_stretches.nd (lx_bin op_addAll ol_add (LX.v (lx_var 1)) (LX.v (lx_var 3))))
 (lss_one (ls_if (lt_cmp L2.op_gt ol_gt (LX.v (lx_var 1)) (LX.v (lx_gint rfl T.g_MOST_DAYS)) (nomark _)) (lss_one (ls_raise (c := 23) rfl (takes_of rfl rfl rfl rfl) T.ex_BadBook (okx_BadBook T) (hr.mono (by decide)) T.B_BadBookU_initU rfl (lan_cons (lx_var 2) (lan_cons lx_str lan_nil)))) lss_nil)))))))))⟩
theorem ok_join_neighbours (T : Tx K mg a__law_pool a__law_take a__law_code a__law_great a__law_span a__law_group a__law_stretches a_ascending a_check_stretches a_join_neighbours a_BookU_initU a__law_part a__law_upto a__law_cut a__law_joined a__law_number a__law_same a__law_is_book a_BookU_eqU a_check_part a_rear_pairs a_Book_tail a_front_pairs a_Book_head a__law_asked a_BookU_addU a__law_summed a_check_morning a_Book_runners_on a__law_on a__law_halves a_Book_flipped a__law_turned a__law_refused a_law a_BadBookU_initU a_OutOfRangeU_initU A_Depot A_Book A_OutagainError A_OutOfRange A_BadDepot A_BadBook  d__law_pool d__law_take d__law_code d__law_great d__law_span d__law_group d__law_stretches d_ascending d_check_stretches d_join_neighbours d_BookU_initU d__law_part d__law_upto d__law_cut d__law_joined d__law_number d__law_same d__law_is_book d_BookU_eqU d_check_part d_rear_pairs d_Book_tail d_front_pairs d_Book_head d__law_asked d_BookU_addU d__law_summed d_check_morning d_Book_runners_on d__law_on d__law_halves d_Book_flipped d__law_turned d__law_refused d_law d_BadBookU_initU d_OutOfRangeU_initU) : FnOk P w K mg base (L2.CX P w) 1 a_join_neighbours d_join_neighbours ["pairs"] (liftSp ⟨K, mg⟩ w_join_neighbours 1) :=
  fn_mk (N := ["pairs", "rows", "many", "what"]) (ps := ["pairs"]) (k := 0) (pb := b_join_neighbours) T.F_join_neighbours sc_join_neighbours fun cdv A outer s H E hr => ⟨_, (lss_cons (ls_setO 1 sc_join_neighbours.nd (lo_lst la_nil))
 (lss_cons (ls_for (passes_of rfl) rfl (li_seq (lx_var 0)) (lg_seq rfl (lgs_cons (lg_name 2 sc_join_neighbours.nd) (lgs_cons (lg_name 3 sc_join_neighbours.nd) lgs_nil))) (lss_one (ls_if (LWt.t (lw_and (lt_truth (lv_var 1)) (lw_and1 (lt_cmp (op_eqD hr.units) ol_eq (LX.v (lx_ix (LX.v (lx_ix (lv_var 1) (LX.v (lx_un un_neg ul_neg (LX.v lx_int))) (fun _ _ => rfl))) (LX.v lx_int) (fun _ _ => rfl))) (LX.v (lx_var 3)) (nomark _))))) (lss_one (ls_setI 1 (lx_tup (la_cons (lx_bin op_addAll ol_add (LX.v (lx_ix (LX.v (lx_ix (lv_var 1) (LX.v (lx_un un_neg ul_neg (LX.v lx_int))) (fun _ _ => rfl))) (LX.v lx_int) (fun _ _ => rfl))) (LX.v (lx_var 2))) (la_cons (lx_var 3) la_nil))) (lx_un un_neg ul_neg (LX.v lx_int)))) (lss_one (ls_app 1 (lx_tup (la_cons (lx_var 2) (la_cons (lx_var 3) la_nil))))))))
 (lss_one (ls_freeze 1 (ls_ret (lx_var 1))))))⟩
theorem ok_BookU_initU (T : Tx K mg a__law_pool a__law_take a__law_code a__law_great a__law_span a__law_group a__law_stretches a_ascending a_check_stretches a_join_neighbours a_BookU_initU a__law_part a__law_upto a__law_cut a__law_joined a__law_number a__law_same a__law_is_book a_BookU_eqU a_check_part a_rear_pairs a_Book_tail a_front_pairs a_Book_head a__law_asked a_BookU_addU a__law_summed a_check_morning a_Book_runners_on a__law_on a__law_halves a_Book_flipped a__law_turned a__law_refused a_law a_BadBookU_initU a_OutOfRangeU_initU A_Depot A_Book A_OutagainError A_OutOfRange A_BadDepot A_BadBook  d__law_pool d__law_take d__law_code d__law_great d__law_span d__law_group d__law_stretches d_ascending d_check_stretches d_join_neighbours d_BookU_initU d__law_part d__law_upto d__law_cut d__law_joined d__law_number d__law_same d__law_is_book d_BookU_eqU d_check_part d_rear_pairs d_Book_tail d_front_pairs d_Book_head d__law_asked d_BookU_addU d__law_summed d_check_morning d_Book_runners_on d__law_on d__law_halves d_Book_flipped d__law_turned d__law_refused d_law d_BadBookU_initU d_OutOfRangeU_initU) : FnOk P w K mg base (L2.CX P w) 4 a_BookU_initU d_BookU_initU ["self", "stretches"] (liftInit ⟨K, mg⟩ 1 i_BookU_initU 2) :=
  init_mk (N := ["self", "stretches", "days", "runners", "_"]) (ps := ["self", "stretches"]) (k := 3) (c := 1) (pb := b_BookU_initU) T.F_BookU_initU sc_BookU_initU (by decide) fun cdv A outer s H E hr => ⟨_, (lss_cons (ls_expr (LX.v (lx_call (takes_of rfl rfl rfl rfl) (ok_check_stretches T) (hr.mono (by first | decide | omega)) rfl T.G_check_stretches T.K_check_stretches T.B_check_stretches (lan_cons (lx_var 1) lan_nil))))
 (lss_cons (ls_setF 0 1 0 (lx_callT call_tupN cl_tuple rfl T.n_tuple bb_tuple (lw_cons (LX.v (lx_call (takes_of rfl rfl rfl rfl) (ok_join_neighbours T) (hr.mono (by first | decide | omega)) rfl T.G_join_neighbours T.K_join_neighbours T.B_join_neighbours (lan_cons (LO.x (lo_lc (own := [("days", 2), ("runners", 3)]) rfl sc_BookU_initU.nd (li_seq (lx_var 1)) (blkOk_by (N := ["self", "stretches", "days", "runners", "_"]) (sc := defScope s_BookU_initU) (by decide +kernel)) (fun _ _ _ _ _ => ⟨_, (lg_seq rfl (lgs_cons (lg_name 2 sc_BookU_initU.nd) (lgs_cons (lg_name 3 sc_BookU_initU.nd) lgs_nil)))⟩) (fun _ _ _ _ _ => ⟨_, lts_nil⟩) (fun _ _ _ _ _ => ⟨_, (lx_tup (la_cons (lx_var 2) (la_cons (lx_callT call_tupN cl_tuple rfl T.n_tuple bb_tuple (lw_cons (LX.v (lx_var 3)) lw_nil)) la_nil)))⟩) (by decide))) lan_nil))) lw_nil)) T.fa_Book_stretches rfl (by decide) (by decide))
 (lss_one (ls_setF 0 1 1 (lx_callB (cr_sumA rfl) cl_sumA rfl T.n_sum bb_sum (lw_cons (LO.v (lo_lc (own := [("days", 2), ("_", 4)]) rfl sc_BookU_initU.nd (li_seq (lx_fldS 0 1 0 (T.fa_Book_stretches) rfl (by decide))) (blkOk_by (N := ["self", "stretches", "days", "runners", "_"]) (sc := defScope s_BookU_initU) (by decide +kernel)) (fun _ _ _ _ _ => ⟨_, (lg_seq rfl (lgs_cons (lg_name 2 sc_BookU_initU.nd) (lgs_cons (lg_name 4 sc_BookU_initU.nd) lgs_nil)))⟩) (fun _ _ _ _ _ => ⟨_, lts_nil⟩) (fun _ _ _ _ _ => ⟨_, (lx_var 2)⟩) (by decide))) lw_nil)) T.fa_Book_days rfl (by decide) (by decide)))))⟩
theorem ok__law_part (T : Tx K mg a__law_pool a__law_take a__law_code a__law_great a__law_span a__law_group a__law_stretches a_ascending a_check_stretches a_join_neighbours a_BookU_initU a__law_part a__law_upto a__law_cut a__law_joined a__law_number a__law_same a__law_is_book a_BookU_eqU a_check_part a_rear_pairs a_Book_tail a_front_pairs a_Book_head a__law_asked a_BookU_addU a__law_summed a_check_morning a_Book_runners_on a__law_on a__law_halves a_Book_flipped a__law_turned a__law_refused a_law a_BadBookU_initU a_OutOfRangeU_initU A_Depot A_Book A_OutagainError A_OutOfRange A_BadDepot A_BadBook  d__law_pool d__law_take d__law_code d__law_great d__law_span d__law_group d__law_stretches d_ascending d_check_stretches d_join_neighbours d_BookU_initU d__law_part d__law_upto d__law_cut d__law_joined d__law_number d__law_same d__law_is_book d_BookU_eqU d_check_part d_rear_pairs d_Book_tail d_front_pairs d_Book_head d__law_asked d_BookU_addU d__law_summed d_check_morning d_Book_runners_on d__law_on d__law_halves d_Book_flipped d__law_turned d__law_refused d_law d_BadBookU_initU d_OutOfRangeU_initU) : FnOk P w K mg base (L2.CX P w) 1 a__law_part d__law_part ["rows", "low", "high"] (liftSp ⟨K, mg⟩ w__law_part 3) :=
  fn_mk (N := ["rows", "low", "high", "got", "start", "row", "many"]) (ps := ["rows", "low", "high"]) (k := 0) (pb := b__law_part) T.F__law_part sc__law_part fun cdv A outer s H E hr => ⟨_, (lss_cons (ls_setO 3 sc__law_part.nd (lo_lst la_nil))
 (lss_cons (ls_set 4 sc__law_part.nd lx_int)
 (lss_cons (ls_for (passes_of rfl) rfl (li_seq (lx_var 0)) (lg_name 5 sc__law_part.nd) (lss_cons (ls_set 6 sc__law_part.nd (lx_bin op_sub ol_sub (LX.v (lx_callB (call_min2 rfl) cl_min2 rfl T.n_min bb_min (lw_cons (LX.v (lx_var 2)) (lw_cons (LX.v (lx_bin op_addAll ol_add (LX.v (lx_var 4)) (LX.v (lx_ix (LX.v (lx_var 5)) (LX.v lx_int) (fun _ _ => rfl))))) lw_nil)))) (LX.v (lx_callB (call_max2 rfl) cl_max2 rfl T.n_max bb_max (lw_cons (LX.v (lx_var 1)) (lw_cons (LX.v (lx_var 4)) lw_nil))))))
 (lss_cons (ls_if (lt_cmp L2.op_gt ol_gt (LX.v (lx_var 6)) (LX.v lx_int) (nomark _)) (lss_one (ls_app 3 (lx_tup (la_cons (lx_var 6) (la_cons (lx_ix (LX.v (lx_var 5)) (LX.v lx_int) (fun _ _ => rfl)) la_nil))))) lss_nil)
 (lss_one (ls_set 4 sc__law_part.nd (lx_bin op_addAll ol_add (LX.v (lx_var 4)) (LX.v (lx_ix (LX.v (lx_var 5)) (LX.v lx_int) (fun _ _ => rfl)))))))))
 (lss_one (ls_freeze 3 (ls_ret (lx_var 3)))))))⟩
theorem ok__law_upto (T : Tx K mg a__law_pool a__law_take a__law_code a__law_great a__law_span a__law_group a__law_stretches a_ascending a_check_stretches a_join_neighbours a_BookU_initU a__law_part a__law_upto a__law_cut a__law_joined a__law_number a__law_same a__law_is_book a_BookU_eqU a_check_part a_rear_pairs a_Book_tail a_front_pairs a_Book_head a__law_asked a_BookU_addU a__law_summed a_check_morning a_Book_runners_on a__law_on a__law_halves a_Book_flipped a__law_turned a__law_refused a_law a_BadBookU_initU a_OutOfRangeU_initU A_Depot A_Book A_OutagainError A_OutOfRange A_BadDepot A_BadBook  d__law_pool d__law_take d__law_code d__law_great d__law_span d__law_group d__law_stretches d_ascending d_check_stretches d_join_neighbours d_BookU_initU d__law_part d__law_upto d__law_cut d__law_joined d__law_number d__law_same d__law_is_book d_BookU_eqU d_check_part d_rear_pairs d_Book_tail d_front_pairs d_Book_head d__law_asked d_BookU_addU d__law_summed d_check_morning d_Book_runners_on d__law_on d__law_halves d_Book_flipped d__law_turned d__law_refused d_law d_BadBookU_initU d_OutOfRangeU_initU) : FnOk P w K mg base (L2.CX P w) 3 a__law_upto d__law_upto ["pool", "most"] (liftSp ⟨K, mg⟩ w__law_upto 2) :=
  fn_mk (N := ["pool", "most"]) (ps := ["pool", "most"]) (k := 2) (pb := b__law_upto) T.F__law_upto sc__law_upto fun cdv A outer s H E hr => ⟨_, (lss_cons (ls_if (lt_cmp (op_eqD hr.units) ol_eq (LX.v (lx_call (takes_of rfl rfl rfl rfl) (ok__law_take T) (hr.mono (by first | decide | omega)) rfl T.G__law_take T.K__law_take T.B__law_take (lan_cons (lx_var 0) (lan_cons lx_int lan_nil)))) (LX.v lx_int) (nomark _)) (lss_one (ls_ret (lx_call (takes_of rfl rfl rfl rfl) (ok__law_take T) (hr.mono (by first | decide | omega)) rfl T.G__law_take T.K__law_take T.B__law_take (lan_cons (lx_var 0) (lan_cons (lx_bin op_addAll ol_add (LX.v (lx_callB (call_min2 rfl) cl_min2 rfl T.n_min bb_min (lw_cons (LX.v (lx_var 1)) (lw_cons (LX.v lx_int) lw_nil)))) (LX.v lx_int)) lan_nil))))) lss_nil)
 (lss_one (ls_ret (lx_call (takes_of rfl rfl rfl rfl) (ok__law_great T) (hr.mono (by first | decide | omega)) rfl T.G__law_great T.K__law_great T.B__law_great (lan_cons (lx_var 0) (lan_cons (lx_var 1) lan_nil))))))⟩
theorem ok__law_cut (T : Tx K mg a__law_pool a__law_take a__law_code a__law_great a__law_span a__law_group a__law_stretches a_ascending a_check_stretches a_join_neighbours a_BookU_initU a__law_part a__law_upto a__law_cut a__law_joined a__law_number a__law_same a__law_is_book a_BookU_eqU a_check_part a_rear_pairs a_Book_tail a_front_pairs a_Book_head a__law_asked a_BookU_addU a__law_summed a_check_morning a_Book_runners_on a__law_on a__law_halves a_Book_flipped a__law_turned a__law_refused a_law a_BadBookU_initU a_OutOfRangeU_initU A_Depot A_Book A_OutagainError A_OutOfRange A_BadDepot A_BadBook  d__law_pool d__law_take d__law_code d__law_great d__law_span d__law_group d__law_stretches d_ascending d_check_stretches d_join_neighbours d_BookU_initU d__law_part d__law_upto d__law_cut d__law_joined d__law_number d__law_same d__law_is_book d_BookU_eqU d_check_part d_rear_pairs d_Book_tail d_front_pairs d_Book_head d__law_asked d_BookU_addU d__law_summed d_check_morning d_Book_runners_on d__law_on d__law_halves d_Book_flipped d__law_turned d__law_refused d_law d_BadBookU_initU d_OutOfRangeU_initU) : FnOk P w K mg base (L2.CX P w) 4 a__law_cut d__law_cut ["pool", "rows", "span"] (liftSp ⟨K, mg⟩ w__law_cut 3) :=
  fn_mk (N := ["pool", "rows", "span", "way", "row"]) (ps := ["pool", "rows", "span"]) (k := 3) (pb := b__law_cut) T.F__law_cut sc__law_cut fun cdv A outer s H E hr => ⟨_, (lss_cons (ls_set 3 sc__law_cut.nd (lx_call (takes_of rfl rfl rfl rfl) (ok__law_take T) (hr.mono (by first | decide | omega)) rfl T.G__law_take T.K__law_take T.B__law_take (lan_cons (lx_var 0) (lan_cons lx_int lan_nil))))
 (lss_cons (ls_if (lt_cmp (op_eqD hr.units) ol_eq (LX.v (lx_var 3)) (LX.v lx_int) (nomark _)) (lss_one (ls_ret lx_int)) lss_nil)
 (lss_cons (ls_if (lt_cmp (op_eqD hr.units) ol_eq (LX.v (lx_var 3)) (LX.v lx_int) (nomark _)) (lss_one (ls_ret (lx_var 2))) lss_nil)
 (lss_cons (ls_if (lt_cmp (op_eqD hr.units) ol_eq (LX.v (lx_var 3)) (LX.v lx_int) (nomark _)) (lss_one (ls_ret (lx_callB (cr_sumA rfl) cl_sumA rfl T.n_sum bb_sum (lw_cons (LO.v (lo_lc (own := [("row", 4)]) rfl sc__law_cut.nd (li_seq (lx_slice (LX.v (lx_var 1)) lp_none (lp_some (lx_call (takes_of rfl rfl rfl rfl) (ok__law_take T) (hr.mono (by first | decide | omega)) rfl T.G__law_take T.K__law_take T.B__law_take (lan_cons (lx_var 0) (lan_cons (lx_bin op_addAll ol_add (LX.v (lx_callB call_len cl_len rfl T.n_len bb_len (lw_cons (LX.v (lx_var 1)) lw_nil))) (LX.v lx_int)) lan_nil)))))) (blkOk_by (N := ["pool", "rows", "span", "way", "row"]) (sc := defScope s__law_cut) (by decide +kernel)) (fun _ _ _ _ _ => ⟨_, (lg_name 4 sc__law_cut.nd)⟩) (fun _ _ _ _ _ => ⟨_, lts_nil⟩) (fun _ _ _ _ _ => ⟨_, (lx_ix (LX.v (lx_var 4)) (LX.v lx_int) (fun _ _ => rfl))⟩) (by decide))) lw_nil)))) lss_nil)
 (lss_one (ls_ret (lx_call (takes_of rfl rfl rfl rfl) (ok__law_upto T) (hr.mono (by first | decide | omega)) rfl T.G__law_upto T.K__law_upto T.B__law_upto (lan_cons (lx_var 0) (lan_cons (lx_var 2) lan_nil)))))))))⟩
theorem ok__law_joined (T : Tx K mg a__law_pool a__law_take a__law_code a__law_great a__law_span a__law_group a__law_stretches a_ascending a_check_stretches a_join_neighbours a_BookU_initU a__law_part a__law_upto a__law_cut a__law_joined a__law_number a__law_same a__law_is_book a_BookU_eqU a_check_part a_rear_pairs a_Book_tail a_front_pairs a_Book_head a__law_asked a_BookU_addU a__law_summed a_check_morning a_Book_runners_on a__law_on a__law_halves a_Book_flipped a__law_turned a__law_refused a_law a_BadBookU_initU a_OutOfRangeU_initU A_Depot A_Book A_OutagainError A_OutOfRange A_BadDepot A_BadBook  d__law_pool d__law_take d__law_code d__law_great d__law_span d__law_group d__law_stretches d_ascending d_check_stretches d_join_neighbours d_BookU_initU d__law_part d__law_upto d__law_cut d__law_joined d__law_number d__law_same d__law_is_book d_BookU_eqU d_check_part d_rear_pairs d_Book_tail d_front_pairs d_Book_head d__law_asked d_BookU_addU d__law_summed d_check_morning d_Book_runners_on d__law_on d__law_halves d_Book_flipped d__law_turned d__law_refused d_law d_BadBookU_initU d_OutOfRangeU_initU) : FnOk P w K mg base (L2.CX P w) 1 a__law_joined d__law_joined ["rows"] (liftSp ⟨K, mg⟩ w__law_joined 1) :=
  fn_mk (N := ["rows", "starts", "k", "ends", "got", "part", "row"]) (ps := ["rows"]) (k := 0) (pb := b__law_joined) T.F__law_joined sc__law_joined fun cdv A outer s H E hr => ⟨_, (lss_cons (ls_setLc 1 (own := [("k", 2)]) rfl sc__law_joined.nd (li_range1 rfl T.n_range (lx_callB call_len cl_len rfl T.n_len bb_len (lw_cons (LX.v (lx_var 0)) lw_nil))) (blkOk_by (N := ["rows", "starts", "k", "ends", "got", "part", "row"]) (sc := defScope s__law_joined) (by decide +kernel)) (fun _ _ _ _ _ => ⟨_, (lg_name 2 sc__law_joined.nd)⟩) (fun _ _ _ _ _ => ⟨_, (lts_one (LWt.t (lw_or (lt_cmp (op_eqD hr.units) ol_eq (LX.v (lx_var 2)) (LX.v lx_int) (nomark _)) (lw_or1 (lt_cmp (op_neD hr.units) ol_ne (LX.v (lx_ix (LX.v (lx_ix (LX.v (lx_var 0)) (LX.v (lx_bin op_sub ol_sub (LX.v (lx_var 2)) (LX.v lx_int))) (fun _ _ => rfl))) (LX.v lx_int) (fun _ _ => rfl))) (LX.v (lx_ix (LX.v (lx_ix (LX.v (lx_var 0)) (LX.v (lx_var 2)) (fun _ _ => rfl))) (LX.v lx_int) (fun _ _ => rfl))) (nomark _))))))⟩) (fun _ _ _ _ _ => ⟨_, (lx_var 2)⟩) (by decide))
 (lss_cons (ls_set 3 sc__law_joined.nd (LO.x (lo_bin op_cat olo_cat (LX.v (lx_slice (LX.v (lx_var 1)) (lp_some lx_int) lp_none)) (LO.v (lo_lst (la_cons (lx_callB call_len cl_len rfl T.n_len bb_len (lw_cons (LX.v (lx_var 0)) lw_nil)) la_nil))))))
 (lss_cons (ls_setO 4 sc__law_joined.nd (lo_lst la_nil))
 (lss_cons (ls_for (passes_of rfl) rfl (li_range1 rfl T.n_range (lx_callB call_len cl_len rfl T.n_len bb_len (lw_cons (LX.v (lx_var 1)) lw_nil))) (lg_name 2 sc__law_joined.nd) (lss_cons (ls_set 5 sc__law_joined.nd (lx_slice (LX.v (lx_var 0)) (lp_some (lx_ix (LX.v (lx_var 1)) (LX.v (lx_var 2)) (fun _ _ => rfl))) (lp_some (lx_ix (LX.v (lx_var 3)) (LX.v (lx_var 2)) (fun _ _ => rfl)))))
 (lss_one (ls_app 4 (lx_tup (la_cons (lx_callB (cr_sumA rfl) cl_sumA rfl T.n_sum bb_sum (lw_cons (LO.v (lo_lc (own := [("row", 6)]) rfl sc__law_joined.nd (li_seq (lx_var 5)) (blkOk_by (N := ["rows", "starts", "k", "ends", "got", "part", "row"]) (sc := defScope s__law_joined) (by decide +kernel)) (fun _ _ _ _ _ => ⟨_, (lg_name 6 sc__law_joined.nd)⟩) (fun _ _ _ _ _ => ⟨_, lts_nil⟩) (fun _ _ _ _ _ => ⟨_, (lx_ix (LX.v (lx_var 6)) (LX.v lx_int) (fun _ _ => rfl))⟩) (by decide))) lw_nil)) (la_cons (lx_ix (LX.v (lx_ix (LX.v (lx_var 5)) (LX.v lx_int) (fun _ _ => rfl))) (LX.v lx_int) (fun _ _ => rfl)) la_nil)))))))
 (lss_one (ls_freeze 4 (ls_ret (lx_var 4))))))))⟩
theorem ok__law_number (T : Tx K mg a__law_pool a__law_take a__law_code a__law_great a__law_span a__law_group a__law_stretches a_ascending a_check_stretches a_join_neighbours a_BookU_initU a__law_part a__law_upto a__law_cut a__law_joined a__law_number a__law_same a__law_is_book a_BookU_eqU a_check_part a_rear_pairs a_Book_tail a_front_pairs a_Book_head a__law_asked a_BookU_addU a__law_summed a_check_morning a_Book_runners_on a__law_on a__law_halves a_Book_flipped a__law_turned a__law_refused a_law a_BadBookU_initU a_OutOfRangeU_initU A_Depot A_Book A_OutagainError A_OutOfRange A_BadDepot A_BadBook  d__law_pool d__law_take d__law_code d__law_great d__law_span d__law_group d__law_stretches d_ascending d_check_stretches d_join_neighbours d_BookU_initU d__law_part d__law_upto d__law_cut d__law_joined d__law_number d__law_same d__law_is_book d_BookU_eqU d_check_part d_rear_pairs d_Book_tail d_front_pairs d_Book_head d__law_asked d_BookU_addU d__law_summed d_check_morning d_Book_runners_on d__law_on d__law_halves d_Book_flipped d__law_turned d__law_refused d_law d_BadBookU_initU d_OutOfRangeU_initU) : FnOk P w K mg base (L2.CX P w) 1 a__law_number d__law_number ["got"] (liftSp ⟨K, mg⟩ w__law_number 1) :=
  fn_mk (N := ["got"]) (ps := ["got"]) (k := 0) (pb := b__law_number) T.F__law_number sc__law_number fun cdv A outer s H E hr => ⟨_, (lss_one (ls_ret (lx_and (lx_isT "int" isTy_int (LX.v (lx_var 0)) rfl T.n_isinstance rfl T.n_int bb_int bb_isinstance) (lx_one (lx_not (LX.v (lx_isT "bool" isTy_bool (LX.v (lx_var 0)) rfl T.n_isinstance rfl T.n_bool bb_bool bb_isinstance)))))))⟩
theorem ok__law_same (T : Tx K mg a__law_pool a__law_take a__law_code a__law_great a__law_span a__law_group a__law_stretches a_ascending a_check_stretches a_join_neighbours a_BookU_initU a__law_part a__law_upto a__law_cut a__law_joined a__law_number a__law_same a__law_is_book a_BookU_eqU a_check_part a_rear_pairs a_Book_tail a_front_pairs a_Book_head a__law_asked a_BookU_addU a__law_summed a_check_morning a_Book_runners_on a__law_on a__law_halves a_Book_flipped a__law_turned a__law_refused a_law a_BadBookU_initU a_OutOfRangeU_initU A_Depot A_Book A_OutagainError A_OutOfRange A_BadDepot A_BadBook  d__law_pool d__law_take d__law_code d__law_great d__law_span d__law_group d__law_stretches d_ascending d_check_stretches d_join_neighbours d_BookU_initU d__law_part d__law_upto d__law_cut d__law_joined d__law_number d__law_same d__law_is_book d_BookU_eqU d_check_part d_rear_pairs d_Book_tail d_front_pairs d_Book_head d__law_asked d_BookU_addU d__law_summed d_check_morning d_Book_runners_on d__law_on d__law_halves d_Book_flipped d__law_turned d__law_refused d_law d_BadBookU_initU d_OutOfRangeU_initU) : ∀ n : Nat, FnOk P w K mg base (L2.CX P w) (2 + n) a__law_same d__law_same ["got", "due"] (liftSp ⟨K, mg⟩ (w__law_same n) 2)
  | 0 => fn_never
  | n + 1 => by
    have IH := ok__law_same T n
    exact fn_mk (N := ["got", "due", "k"]) (ps := ["got", "due"]) (k := 2 + n) (pb := b__law_same (w__law_same n)) T.F__law_same sc__law_same fun cdv A outer s H E hr => ⟨_, (lss_cons (ls_if (lt_cmp op_isN ol_isN (LX.v (lx_var 1)) (LX.v lx_non) (nomark _)) (lss_one (ls_ret (lx_cmp op_isN ol_isN (LX.v (lx_var 0)) (LX.v lx_non) (nomark _)))) lss_nil)
 (lss_cons (ls_if (lt_truth (LX.v (lx_isT "bool" isTy_bool (LX.v (lx_var 1)) rfl T.n_isinstance rfl T.n_bool bb_bool bb_isinstance))) (lss_one (ls_ret (lx_and (lx_isT "bool" isTy_bool (LX.v (lx_var 0)) rfl T.n_isinstance rfl T.n_bool bb_bool bb_isinstance) (lx_one (lx_cmp (op_eqD hr.units) ol_eq (LX.v (lx_var 0)) (LX.v (lx_var 1)) (nomark _)))))) lss_nil)
 (lss_cons (ls_if (lt_truth (LX.v (lx_isT "int" isTy_int (LX.v (lx_var 1)) rfl T.n_isinstance rfl T.n_int bb_int bb_isinstance))) (lss_one (ls_ret (lx_and (lx_call (takes_of rfl rfl rfl rfl) (ok__law_number T) (hr.mono (by first | decide | omega)) rfl T.G__law_number T.K__law_number T.B__law_number (lan_cons (lx_var 0) lan_nil)) (lx_one (lx_cmp (op_eqD hr.units) ol_eq (LX.v (lx_var 0)) (LX.v (lx_var 1)) (nomark _)))))) lss_nil)
 (lss_cons (ls_if (lt_truth (LX.v (lx_isT "str" isTy_str (LX.v (lx_var 1)) rfl T.n_isinstance rfl T.n_str bb_str bb_isinstance))) (lss_one (ls_ret (lx_and (lx_isT "str" isTy_str (LX.v (lx_var 0)) rfl T.n_isinstance rfl T.n_str bb_str bb_isinstance) (lx_one (lx_cmp (op_eqD hr.units) ol_eq (LX.v (lx_var 0)) (LX.v (lx_var 1)) (nomark _)))))) lss_nil)
 (lss_cons (ls_if (LWt.t (lw_and (lt_truth (LX.v (lx_isT "list" isTy_list (LX.v (lx_var 1)) rfl T.n_isinstance rfl T.n_list bb_list bb_isinstance))) (lw_and1 (lt_not (lt_truth (LX.v (lx_isT "list" isTy_list (LX.v (lx_var 0)) rfl T.n_isinstance rfl T.n_list bb_list bb_isinstance))))))) (lss_one (ls_ret lx_bl)) lss_nil)
 (lss_cons (ls_if (LWt.t (lw_and (lt_truth (LX.v (lx_isT "tuple" isTy_tuple (LX.v (lx_var 1)) rfl T.n_isinstance rfl T.n_tuple bb_tuple bb_isinstance))) (lw_and1 (lt_not (lt_truth (LX.v (lx_isT "tuple" isTy_tuple (LX.v (lx_var 0)) rfl T.n_isinstance rfl T.n_tuple bb_tuple bb_isinstance))))))) (lss_one (ls_ret lx_bl)) lss_nil)
 (lss_cons (ls_if (lt_cmp (op_neD hr.units) ol_ne (LX.v (lx_callB call_len cl_len rfl T.n_len bb_len (lw_cons (LX.v (lx_var 0)) lw_nil))) (LX.v (lx_callB call_len cl_len rfl T.n_len bb_len (lw_cons (LX.v (lx_var 1)) lw_nil))) (nomark _)) (lss_one (ls_ret lx_bl)) lss_nil)
 (lss_cons (ls_for (passes_of rfl) rfl (li_range1 rfl T.n_range (lx_callB call_len cl_len rfl T.n_len bb_len (lw_cons (LX.v (lx_var 1)) lw_nil))) (lg_name 2 sc__law_same.nd) (lss_one (ls_if (lt_not (lt_truth (LX.v (lx_call (takes_of rfl rfl rfl rfl) IH (hr.mono (by first | decide | omega)) rfl T.G__law_same T.K__law_same T.B__law_same (lan_cons (lx_ix (LX.v (lx_var 0)) (LX.v (lx_var 2)) (fun _ _ => rfl)) (lan_cons (lx_ix (LX.v (lx_var 1)) (LX.v (lx_var 2)) (fun _ _ => rfl)) lan_nil)))))) (lss_one (ls_ret lx_bl)) lss_nil)))
 (lss_one (ls_ret lx_bl))))))))))⟩
theorem ok__law_is_book (T : Tx K mg a__law_pool a__law_take a__law_code a__law_great a__law_span a__law_group a__law_stretches a_ascending a_check_stretches a_join_neighbours a_BookU_initU a__law_part a__law_upto a__law_cut a__law_joined a__law_number a__law_same a__law_is_book a_BookU_eqU a_check_part a_rear_pairs a_Book_tail a_front_pairs a_Book_head a__law_asked a_BookU_addU a__law_summed a_check_morning a_Book_runners_on a__law_on a__law_halves a_Book_flipped a__law_turned a__law_refused a_law a_BadBookU_initU a_OutOfRangeU_initU A_Depot A_Book A_OutagainError A_OutOfRange A_BadDepot A_BadBook  d__law_pool d__law_take d__law_code d__law_great d__law_span d__law_group d__law_stretches d_ascending d_check_stretches d_join_neighbours d_BookU_initU d__law_part d__law_upto d__law_cut d__law_joined d__law_number d__law_same d__law_is_book d_BookU_eqU d_check_part d_rear_pairs d_Book_tail d_front_pairs d_Book_head d__law_asked d_BookU_addU d__law_summed d_check_morning d_Book_runners_on d__law_on d__law_halves d_Book_flipped d__law_turned d__law_refused d_law d_BadBookU_initU d_OutOfRangeU_initU) : FnOk P w K mg base (L2.CX P w) 9 a__law_is_book d__law_is_book ["book", "rows"] (liftSp ⟨K, mg⟩ w__law_is_book 2) :=
  fn_mk (N := ["book", "rows", "due", "row"]) (ps := ["book", "rows"]) (k := 8) (pb := b__law_is_book) T.F__law_is_book sc__law_is_book fun cdv A outer s H E hr => ⟨_, (lss_cons (ls_if (lt_not (lt_truth (LX.v (lx_isC (c := 1) T.is_Book (LX.v (lx_var 0)) rfl T.n_isinstance rfl bb_isinstance)))) (lss_one (ls_ret lx_bl)) lss_nil)
 (lss_cons (ls_set 2 sc__law_is_book.nd (lx_call (takes_of rfl rfl rfl rfl) (ok__law_joined T) (hr.mono (by first | decide | omega)) rfl T.G__law_joined T.K__law_joined T.B__law_joined (lan_cons (lx_var 1) lan_nil)))
 (lss_one (ls_ret (lx_and (lx_call (takes_of rfl rfl rfl rfl) (ok__law_same T 6) (hr.mono (by first | decide | omega)) rfl T.G__law_same T.K__law_same T.B__law_same (lan_cons (lx_fld T.fld_stretches (lx_var 0)) (lan_cons (lx_callT call_tupN cl_tuple rfl T.n_tuple bb_tuple (lw_cons (LX.v (lx_var 2)) lw_nil)) lan_nil))) (lx_one (lx_call (takes_of rfl rfl rfl rfl) (ok__law_same T 6) (hr.mono (by first | decide | omega)) rfl T.G__law_same T.K__law_same T.B__law_same (lan_cons (lx_fld T.fld_days (lx_var 0)) (lan_cons (lx_callB (cr_sumA rfl) cl_sumA rfl T.n_sum bb_sum (lw_cons (LO.v (lo_lc (own := [("row", 3)]) rfl sc__law_is_book.nd (li_seq (lx_var 1)) (blkOk_by (N := ["book", "rows", "due", "row"]) (sc := defScope s__law_is_book) (by decide +kernel)) (fun _ _ _ _ _ => ⟨_, (lg_name 3 sc__law_is_book.nd)⟩) (fun _ _ _ _ _ => ⟨_, lts_nil⟩) (fun _ _ _ _ _ => ⟨_, (lx_ix (LX.v (lx_var 3)) (LX.v lx_int) (fun _ _ => rfl))⟩) (by decide))) lw_nil)) lan_nil)))))))))⟩
theorem ok_BookU_eqU (T : Tx K mg a__law_pool a__law_take a__law_code a__law_great a__law_span a__law_group a__law_stretches a_ascending a_check_stretches a_join_neighbours a_BookU_initU a__law_part a__law_upto a__law_cut a__law_joined a__law_number a__law_same a__law_is_book a_BookU_eqU a_check_part a_rear_pairs a_Book_tail a_front_pairs a_Book_head a__law_asked a_BookU_addU a__law_summed a_check_morning a_Book_runners_on a__law_on a__law_halves a_Book_flipped a__law_turned a__law_refused a_law a_BadBookU_initU a_OutOfRangeU_initU A_Depot A_Book A_OutagainError A_OutOfRange A_BadDepot A_BadBook  d__law_pool d__law_take d__law_code d__law_great d__law_span d__law_group d__law_stretches d_ascending d_check_stretches d_join_neighbours d_BookU_initU d__law_part d__law_upto d__law_cut d__law_joined d__law_number d__law_same d__law_is_book d_BookU_eqU d_check_part d_rear_pairs d_Book_tail d_front_pairs d_Book_head d__law_asked d_BookU_addU d__law_summed d_check_morning d_Book_runners_on d__law_on d__law_halves d_Book_flipped d__law_turned d__law_refused d_law d_BadBookU_initU d_OutOfRangeU_initU) : FnOk P w K mg base (L2.CX P w) 1 a_BookU_eqU d_BookU_eqU ["self", "other"] (liftSp ⟨K, mg⟩ w_BookU_eqU 2) :=
  fn_mk (N := ["self", "other"]) (ps := ["self", "other"]) (k := 0) (pb := b_BookU_eqU) T.F_BookU_eqU sc_BookU_eqU fun cdv A outer s H E hr => ⟨_, (lss_one (ls_ret (lx_and (lx_isC (c := 1) T.is_Book (LX.v (lx_var 1)) rfl T.n_isinstance rfl bb_isinstance) (lx_one (lx_cmp (op_eqD hr.units) ol_eq (LX.v (lx_fld T.fld_stretches (lx_var 0))) (LX.v (lx_fld T.fld_stretches (lx_var 1))) (nomark _))))))⟩
theorem ok_check_part (T : Tx K mg a__law_pool a__law_take a__law_code a__law_great a__law_span a__law_group a__law_stretches a_ascending a_check_stretches a_join_neighbours a_BookU_initU a__law_part a__law_upto a__law_cut a__law_joined a__law_number a__law_same a__law_is_book a_BookU_eqU a_check_part a_rear_pairs a_Book_tail a_front_pairs a_Book_head a__law_asked a_BookU_addU a__law_summed a_check_morning a_Book_runners_on a__law_on a__law_halves a_Book_flipped a__law_turned a__law_refused a_law a_BadBookU_initU a_OutOfRangeU_initU A_Depot A_Book A_OutagainError A_OutOfRange A_BadDepot A_BadBook  d__law_pool d__law_take d__law_code d__law_great d__law_span d__law_group d__law_stretches d_ascending d_check_stretches d_join_neighbours d_BookU_initU d__law_part d__law_upto d__law_cut d__law_joined d__law_number d__law_same d__law_is_book d_BookU_eqU d_check_part d_rear_pairs d_Book_tail d_front_pairs d_Book_head d__law_asked d_BookU_addU d__law_summed d_check_morning d_Book_runners_on d__law_on d__law_halves d_Book_flipped d__law_turned d__law_refused d_law d_BadBookU_initU d_OutOfRangeU_initU) : FnOk P w K mg base (L2.CX P w) 3 a_check_part d_check_part ["book", "days"] (liftSp ⟨K, mg⟩ w_check_part 2) :=
  fn_mk (N := ["book", "days"]) (ps := ["book", "days"]) (k := 2) (pb := b_check_part) T.F_check_part sc_check_part fun cdv A outer s H E hr => ⟨_, (lss_one (ls_if (lt_not (lt_chain L2.op_le L2.op_le ol_le ol_le (LX.v lx_int) (LX.v (lx_var 1)) (LX.v (lx_fld T.fld_days (lx_var 0))))) (lss_one (ls_raise (c := 21) rfl (takes_of rfl rfl rfl rfl) T.ex_OutOfRange (okx_OutOfRange T) (hr.mono (by decide)) T.B_OutOfRangeU_initU rfl (lan_cons (lx_var 1) (lan_cons lx_str lan_nil)))) lss_nil))⟩
theorem ok_rear_pairs (T : Tx K mg a__law_pool a__law_take a__law_code a__law_great a__law_span a__law_group a__law_stretches a_ascending a_check_stretches a_join_neighbours a_BookU_initU a__law_part a__law_upto a__law_cut a__law_joined a__law_number a__law_same a__law_is_book a_BookU_eqU a_check_part a_rear_pairs a_Book_tail a_front_pairs a_Book_head a__law_asked a_BookU_addU a__law_summed a_check_morning a_Book_runners_on a__law_on a__law_halves a_Book_flipped a__law_turned a__law_refused a_law a_BadBookU_initU a_OutOfRangeU_initU A_Depot A_Book A_OutagainError A_OutOfRange A_BadDepot A_BadBook  d__law_pool d__law_take d__law_code d__law_great d__law_span d__law_group d__law_stretches d_ascending d_check_stretches d_join_neighbours d_BookU_initU d__law_part d__law_upto d__law_cut d__law_joined d__law_number d__law_same d__law_is_book d_BookU_eqU d_check_part d_rear_pairs d_Book_tail d_front_pairs d_Book_head d__law_asked d_BookU_addU d__law_summed d_check_morning d_Book_runners_on d__law_on d__law_halves d_Book_flipped d__law_turned d__law_refused d_law d_BadBookU_initU d_OutOfRangeU_initU) : FnOk P w K mg base (L2.CX P w) 1 a_rear_pairs d_rear_pairs ["pairs", "many"] (liftSp ⟨K, mg⟩ w_rear_pairs 2) :=
  fn_mk (N := ["pairs", "many", "kept", "left", "times", "what"]) (ps := ["pairs", "many"]) (k := 0) (pb := b_rear_pairs) T.F_rear_pairs sc_rear_pairs fun cdv A outer s H E hr => ⟨_, (lss_cons (ls_setO 2 sc_rear_pairs.nd (lo_lst la_nil))
 (lss_cons (ls_set 3 sc_rear_pairs.nd (lx_var 1))
 (lss_cons (ls_for (passes_of rfl) rfl (li_seq (lx_var 0)) (lg_seq rfl (lgs_cons (lg_name 4 sc_rear_pairs.nd) (lgs_cons (lg_name 5 sc_rear_pairs.nd) lgs_nil))) (lss_cons (ls_if (lt_cmp L2.op_gt ol_gt (LX.v (lx_var 4)) (LX.v (lx_var 3)) (nomark _)) (lss_one (ls_app 2 (lx_tup (la_cons (lx_bin op_sub ol_sub (LX.v (lx_var 4)) (LX.v (lx_callB (call_max2 rfl) cl_max2 rfl T.n_max bb_max (lw_cons (LX.v lx_int) (lw_cons (LX.v (lx_var 3)) lw_nil))))) (la_cons (lx_var 5) la_nil))))) lss_nil)
 (lss_one (ls_set 3 sc_rear_pairs.nd (lx_bin op_sub ol_sub (LX.v (lx_var 3)) (LX.v (lx_var 4)))))))
 (lss_one (ls_freeze 2 (ls_ret (lx_var 2)))))))⟩
theorem ok_Book_tail (T : Tx K mg a__law_pool a__law_take a__law_code a__law_great a__law_span a__law_group a__law_stretches a_ascending a_check_stretches a_join_neighbours a_BookU_initU a__law_part a__law_upto a__law_cut a__law_joined a__law_number a__law_same a__law_is_book a_BookU_eqU a_check_part a_rear_pairs a_Book_tail a_front_pairs a_Book_head a__law_asked a_BookU_addU a__law_summed a_check_morning a_Book_runners_on a__law_on a__law_halves a_Book_flipped a__law_turned a__law_refused a_law a_BadBookU_initU a_OutOfRangeU_initU A_Depot A_Book A_OutagainError A_OutOfRange A_BadDepot A_BadBook  d__law_pool d__law_take d__law_code d__law_great d__law_span d__law_group d__law_stretches d_ascending d_check_stretches d_join_neighbours d_BookU_initU d__law_part d__law_upto d__law_cut d__law_joined d__law_number d__law_same d__law_is_book d_BookU_eqU d_check_part d_rear_pairs d_Book_tail d_front_pairs d_Book_head d__law_asked d_BookU_addU d__law_summed d_check_morning d_Book_runners_on d__law_on d__law_halves d_Book_flipped d__law_turned d__law_refused d_law d_BadBookU_initU d_OutOfRangeU_initU) : FnOk P w K mg base (L2.CX P w) 6 a_Book_tail d_Book_tail ["self", "days"] (liftSp ⟨K, mg⟩ w_Book_tail 2) :=
  fn_mk (N := ["self", "days"]) (ps := ["self", "days"]) (k := 5) (pb := b_Book_tail) T.F_Book_tail sc_Book_tail fun cdv A outer s H E hr => ⟨_, (lss_cons (ls_expr (LX.v (lx_call (takes_of rfl rfl rfl rfl) (ok_check_part T) (hr.mono (by first | decide | omega)) rfl T.G_check_part T.K_check_part T.B_check_part (lan_cons (lx_var 0) (lan_cons (lx_var 1) lan_nil)))))
 (lss_one (ls_ret (lx_make (c := 1) (takes_of rfl rfl rfl rfl) T.mk_Book T.m_Book (ok_BookU_initU T) (hr.mono (by decide)) rfl T.B_BookU_initU (lan_cons (lx_call (takes_of rfl rfl rfl rfl) (ok_rear_pairs T) (hr.mono (by first | decide | omega)) rfl T.G_rear_pairs T.K_rear_pairs T.B_rear_pairs (lan_cons (lx_fld T.fld_stretches (lx_var 0)) (lan_cons (lx_var 1) lan_nil))) lan_nil)))))⟩
theorem ok_front_pairs (T : Tx K mg a__law_pool a__law_take a__law_code a__law_great a__law_span a__law_group a__law_stretches a_ascending a_check_stretches a_join_neighbours a_BookU_initU a__law_part a__law_upto a__law_cut a__law_joined a__law_number a__law_same a__law_is_book a_BookU_eqU a_check_part a_rear_pairs a_Book_tail a_front_pairs a_Book_head a__law_asked a_BookU_addU a__law_summed a_check_morning a_Book_runners_on a__law_on a__law_halves a_Book_flipped a__law_turned a__law_refused a_law a_BadBookU_initU a_OutOfRangeU_initU A_Depot A_Book A_OutagainError A_OutOfRange A_BadDepot A_BadBook  d__law_pool d__law_take d__law_code d__law_great d__law_span d__law_group d__law_stretches d_ascending d_check_stretches d_join_neighbours d_BookU_initU d__law_part d__law_upto d__law_cut d__law_joined d__law_number d__law_same d__law_is_book d_BookU_eqU d_check_part d_rear_pairs d_Book_tail d_front_pairs d_Book_head d__law_asked d_BookU_addU d__law_summed d_check_morning d_Book_runners_on d__law_on d__law_halves d_Book_flipped d__law_turned d__law_refused d_law d_BadBookU_initU d_OutOfRangeU_initU) : FnOk P w K mg base (L2.CX P w) 1 a_front_pairs d_front_pairs ["pairs", "many"] (liftSp ⟨K, mg⟩ w_front_pairs 2) :=
  fn_mk (N := ["pairs", "many", "kept", "left", "times", "what"]) (ps := ["pairs", "many"]) (k := 0) (pb := b_front_pairs) T.F_front_pairs sc_front_pairs fun cdv A outer s H E hr => ⟨_, (lss_cons (ls_setO 2 sc_front_pairs.nd (lo_lst la_nil))
 (lss_cons (ls_set 3 sc_front_pairs.nd (lx_var 1))
 (lss_cons (ls_for (passes_of rfl) rfl (li_seq (lx_var 0)) (lg_seq rfl (lgs_cons (lg_name 4 sc_front_pairs.nd) (lgs_cons (lg_name 5 sc_front_pairs.nd) lgs_nil))) (lss_cons (ls_if (lt_cmp L2.op_gt ol_gt (LX.v (lx_var 3)) (LX.v lx_int) (nomark _)) (lss_one (ls_app 2 (lx_tup (la_cons (lx_callB (call_min2 rfl) cl_min2 rfl T.n_min bb_min (lw_cons (LX.v (lx_var 4)) (lw_cons (LX.v (lx_var 3)) lw_nil))) (la_cons (lx_var 5) la_nil))))) lss_nil)
 (lss_one (ls_set 3 sc_front_pairs.nd (lx_bin op_sub ol_sub (LX.v (lx_var 3)) (LX.v (lx_var 4)))))))
 (lss_one (ls_freeze 2 (ls_ret (lx_var 2)))))))⟩
theorem ok_Book_head (T : Tx K mg a__law_pool a__law_take a__law_code a__law_great a__law_span a__law_group a__law_stretches a_ascending a_check_stretches a_join_neighbours a_BookU_initU a__law_part a__law_upto a__law_cut a__law_joined a__law_number a__law_same a__law_is_book a_BookU_eqU a_check_part a_rear_pairs a_Book_tail a_front_pairs a_Book_head a__law_asked a_BookU_addU a__law_summed a_check_morning a_Book_runners_on a__law_on a__law_halves a_Book_flipped a__law_turned a__law_refused a_law a_BadBookU_initU a_OutOfRangeU_initU A_Depot A_Book A_OutagainError A_OutOfRange A_BadDepot A_BadBook  d__law_pool d__law_take d__law_code d__law_great d__law_span d__law_group d__law_stretches d_ascending d_check_stretches d_join_neighbours d_BookU_initU d__law_part d__law_upto d__law_cut d__law_joined d__law_number d__law_same d__law_is_book d_BookU_eqU d_check_part d_rear_pairs d_Book_tail d_front_pairs d_Book_head d__law_asked d_BookU_addU d__law_summed d_check_morning d_Book_runners_on d__law_on d__law_halves d_Book_flipped d__law_turned d__law_refused d_law d_BadBookU_initU d_OutOfRangeU_initU) : FnOk P w K mg base (L2.CX P w) 6 a_Book_head d_Book_head ["self", "days"] (liftSp ⟨K, mg⟩ w_Book_head 2) :=
  fn_mk (N := ["self", "days"]) (ps := ["self", "days"]) (k := 5) (pb := b_Book_head) T.F_Book_head sc_Book_head fun cdv A outer s H E hr => ⟨_, (lss_cons (ls_expr (LX.v (lx_call (takes_of rfl rfl rfl rfl) (ok_check_part T) (hr.mono (by first | decide | omega)) rfl T.G_check_part T.K_check_part T.B_check_part (lan_cons (lx_var 0) (lan_cons (lx_var 1) lan_nil)))))
 (lss_one (ls_ret (lx_make (c := 1) (takes_of rfl rfl rfl rfl) T.mk_Book T.m_Book (ok_BookU_initU T) (hr.mono (by decide)) rfl T.B_BookU_initU (lan_cons (lx_call (takes_of rfl rfl rfl rfl) (ok_front_pairs T) (hr.mono (by first | decide | omega)) rfl T.G_front_pairs T.K_front_pairs T.B_front_pairs (lan_cons (lx_fld T.fld_stretches (lx_var 0)) (lan_cons (lx_var 1) lan_nil))) lan_nil)))))⟩
theorem ok__law_asked (T : Tx K mg a__law_pool a__law_take a__law_code a__law_great a__law_span a__law_group a__law_stretches a_ascending a_check_stretches a_join_neighbours a_BookU_initU a__law_part a__law_upto a__law_cut a__law_joined a__law_number a__law_same a__law_is_book a_BookU_eqU a_check_part a_rear_pairs a_Book_tail a_front_pairs a_Book_head a__law_asked a_BookU_addU a__law_summed a_check_morning a_Book_runners_on a__law_on a__law_halves a_Book_flipped a__law_turned a__law_refused a_law a_BadBookU_initU a_OutOfRangeU_initU A_Depot A_Book A_OutagainError A_OutOfRange A_BadDepot A_BadBook  d__law_pool d__law_take d__law_code d__law_great d__law_span d__law_group d__law_stretches d_ascending d_check_stretches d_join_neighbours d_BookU_initU d__law_part d__law_upto d__law_cut d__law_joined d__law_number d__law_same d__law_is_book d_BookU_eqU d_check_part d_rear_pairs d_Book_tail d_front_pairs d_Book_head d__law_asked d_BookU_addU d__law_summed d_check_morning d_Book_runners_on d__law_on d__law_halves d_Book_flipped d__law_turned d__law_refused d_law d_BadBookU_initU d_OutOfRangeU_initU) : FnOk P w K mg base (L2.CX P w) 7 a__law_asked d__law_asked ["book", "way", "split"] (liftSp ⟨K, mg⟩ w__law_asked 3) :=
  fn_mk (N := ["book", "way", "split", "e"]) (ps := ["book", "way", "split"]) (k := 6) (pb := b__law_asked) T.F__law_asked sc__law_asked fun cdv A outer s H E hr => ⟨_, (lss_one (ls_tryAs 3 c_OutOfRange rfl rfl sc__law_asked.nd rfl rfl ⟨rfl, by decide, .inl T.m_OutOfRange⟩ (takes_of rfl rfl rfl rfl) T.ca_OutOfRange
 (fun W pn xe tk po => ⟨_, (lss_cons (ls_if (lt_cmp (op_eqD hr.units) ol_eq (LX.v (lx_var 1)) (LX.v lx_int) (nomark _)) (lss_one (ls_ret (lx_meth tk T.me_Book_head (ok_Book_head T) (hr.mono (by decide)) T.B_Book_head (lx_var 0) (lan_cons (lx_var 2) lan_nil)))) lss_nil)
 (lss_one (ls_ret (lx_meth tk T.me_Book_tail (ok_Book_tail T) (hr.mono (by decide)) T.B_Book_tail (lx_var 0) (lan_cons (lx_var 2) lan_nil)))))⟩)
 (fun a oe cls dx pn hz hf => ⟨_, (lss_one (ls_ret (lx_tup (la_cons (lx_xm (X := (cxOf (L2.CX P w) P w K mg base ["book", "way", "split", "e"] "_law_asked" (defScope s__law_asked) a__law_asked cdv A outer s H E)) 3 [(21, 0), (22, 0), (23, 0)] T.xf_at hz hf) (la_cons (lx_xm (X := (cxOf (L2.CX P w) P w K mg base ["book", "way", "split", "e"] "_law_asked" (defScope s__law_asked) a__law_asked cdv A outer s H E)) 3 [(21, 1), (22, 1), (23, 1)] T.xf_code hz hf) la_nil)))))⟩)))⟩
theorem ok_BookU_addU (T : Tx K mg a__law_pool a__law_take a__law_code a__law_great a__law_span a__law_group a__law_stretches a_ascending a_check_stretches a_join_neighbours a_BookU_initU a__law_part a__law_upto a__law_cut a__law_joined a__law_number a__law_same a__law_is_book a_BookU_eqU a_check_part a_rear_pairs a_Book_tail a_front_pairs a_Book_head a__law_asked a_BookU_addU a__law_summed a_check_morning a_Book_runners_on a__law_on a__law_halves a_Book_flipped a__law_turned a__law_refused a_law a_BadBookU_initU a_OutOfRangeU_initU A_Depot A_Book A_OutagainError A_OutOfRange A_BadDepot A_BadBook  d__law_pool d__law_take d__law_code d__law_great d__law_span d__law_group d__law_stretches d_ascending d_check_stretches d_join_neighbours d_BookU_initU d__law_part d__law_upto d__law_cut d__law_joined d__law_number d__law_same d__law_is_book d_BookU_eqU d_check_part d_rear_pairs d_Book_tail d_front_pairs d_Book_head d__law_asked d_BookU_addU d__law_summed d_check_morning d_Book_runners_on d__law_on d__law_halves d_Book_flipped d__law_turned d__law_refused d_law d_BadBookU_initU d_OutOfRangeU_initU) : FnOk P w K mg base (L2.CX P w) 6 a_BookU_addU d_BookU_addU ["self", "other"] (liftSp ⟨K, mg⟩ w_BookU_addU 2) :=
  fn_mk (N := ["self", "other"]) (ps := ["self", "other"]) (k := 5) (pb := b_BookU_addU) T.F_BookU_addU sc_BookU_addU fun cdv A outer s H E hr => ⟨_, (lss_cons (ls_if (lt_cmp L2.op_gt ol_gt (LX.v (lx_bin op_addAll ol_add (LX.v (lx_callB call_len cl_len rfl T.n_len bb_len (lw_cons (LX.v (lx_fld T.fld_stretches (lx_var 0))) lw_nil))) (LX.v (lx_callB call_len cl_len rfl T.n_len bb_len (lw_cons (LX.v (lx_fld T.fld_stretches (lx_var 1))) lw_nil))))) (LX.v (lx_gint rfl T.g_MOST_STRETCHES)) (nomark _)) (lss_one (ls_raise (c := 23) rfl (takes_of rfl rfl rfl rfl) T.ex_BadBook (okx_BadBook T) (hr.mono (by decide)) T.B_BadBookU_initU rfl (lan_cons (lx_gint rfl T.g_MOST_STRETCHES) (lan_cons lx_str lan_nil)))) lss_nil)
 (lss_cons (ls_if (lt_cmp L2.op_gt ol_gt (LX.v (lx_bin op_addAll ol_add (LX.v (lx_fld T.fld_days (lx_var 0))) (LX.v (lx_fld T.fld_days (lx_var 1))))) (LX.v (lx_gint rfl T.g_MOST_DAYS)) (nomark _)) (lss_one (ls_raise (c := 23) rfl (takes_of rfl rfl rfl rfl) T.ex_BadBook (okx_BadBook T) (hr.mono (by decide)) T.B_BadBookU_initU rfl (lan_cons lx_int (lan_cons lx_str lan_nil)))) lss_nil)
 (lss_one (ls_ret (lx_make (c := 1) (takes_of rfl rfl rfl rfl) T.mk_Book T.m_Book (ok_BookU_initU T) (hr.mono (by decide)) rfl T.B_BookU_initU (lan_cons (lx_bin op_addAll ol_add (LX.v (lx_fld T.fld_stretches (lx_var 0))) (LX.v (lx_fld T.fld_stretches (lx_var 1)))) lan_nil))))))⟩
theorem ok__law_summed (T : Tx K mg a__law_pool a__law_take a__law_code a__law_great a__law_span a__law_group a__law_stretches a_ascending a_check_stretches a_join_neighbours a_BookU_initU a__law_part a__law_upto a__law_cut a__law_joined a__law_number a__law_same a__law_is_book a_BookU_eqU a_check_part a_rear_pairs a_Book_tail a_front_pairs a_Book_head a__law_asked a_BookU_addU a__law_summed a_check_morning a_Book_runners_on a__law_on a__law_halves a_Book_flipped a__law_turned a__law_refused a_law a_BadBookU_initU a_OutOfRangeU_initU A_Depot A_Book A_OutagainError A_OutOfRange A_BadDepot A_BadBook  d__law_pool d__law_take d__law_code d__law_great d__law_span d__law_group d__law_stretches d_ascending d_check_stretches d_join_neighbours d_BookU_initU d__law_part d__law_upto d__law_cut d__law_joined d__law_number d__law_same d__law_is_book d_BookU_eqU d_check_part d_rear_pairs d_Book_tail d_front_pairs d_Book_head d__law_asked d_BookU_addU d__law_summed d_check_morning d_Book_runners_on d__law_on d__law_halves d_Book_flipped d__law_turned d__law_refused d_law d_BadBookU_initU d_OutOfRangeU_initU) : FnOk P w K mg base (L2.CX P w) 7 a__law_summed d__law_summed ["front", "back"] (liftSp ⟨K, mg⟩ w__law_summed 2) :=
  fn_mk (N := ["front", "back", "e"]) (ps := ["front", "back"]) (k := 6) (pb := b__law_summed) T.F__law_summed sc__law_summed fun cdv A outer s H E hr => ⟨_, (lss_one (ls_tryAs 2 c_BadBook rfl rfl sc__law_summed.nd rfl rfl ⟨rfl, by decide, .inl T.m_BadBook⟩ (takes_of rfl rfl rfl rfl) T.ca_BadBook
 (fun W pn xe tk po => ⟨_, (lss_one (ls_ret (lx_addO (c := 1) (lx_var 0) (lx_var 1) tk T.ad_Book (ok_BookU_addU T) (hr.mono (by decide)) T.B_BookU_addU)))⟩)
 (fun a oe cls dx pn hz hf => ⟨_, (lss_one (ls_ret (lx_tup (la_cons (lx_xm (X := (cxOf (L2.CX P w) P w K mg base ["front", "back", "e"] "_law_summed" (defScope s__law_summed) a__law_summed cdv A outer s H E)) 2 [(21, 0), (22, 0), (23, 0)] T.xf_at hz hf) (la_cons (lx_xm (X := (cxOf (L2.CX P w) P w K mg base ["front", "back", "e"] "_law_summed" (defScope s__law_summed) a__law_summed cdv A outer s H E)) 2 [(21, 1), (22, 1), (23, 1)] T.xf_code hz hf) la_nil)))))⟩)))⟩
theorem ok_check_morning (T : Tx K mg a__law_pool a__law_take a__law_code a__law_great a__law_span a__law_group a__law_stretches a_ascending a_check_stretches a_join_neighbours a_BookU_initU a__law_part a__law_upto a__law_cut a__law_joined a__law_number a__law_same a__law_is_book a_BookU_eqU a_check_part a_rear_pairs a_Book_tail a_front_pairs a_Book_head a__law_asked a_BookU_addU a__law_summed a_check_morning a_Book_runners_on a__law_on a__law_halves a_Book_flipped a__law_turned a__law_refused a_law a_BadBookU_initU a_OutOfRangeU_initU A_Depot A_Book A_OutagainError A_OutOfRange A_BadDepot A_BadBook  d__law_pool d__law_take d__law_code d__law_great d__law_span d__law_group d__law_stretches d_ascending d_check_stretches d_join_neighbours d_BookU_initU d__law_part d__law_upto d__law_cut d__law_joined d__law_number d__law_same d__law_is_book d_BookU_eqU d_check_part d_rear_pairs d_Book_tail d_front_pairs d_Book_head d__law_asked d_BookU_addU d__law_summed d_check_morning d_Book_runners_on d__law_on d__law_halves d_Book_flipped d__law_turned d__law_refused d_law d_BadBookU_initU d_OutOfRangeU_initU) : FnOk P w K mg base (L2.CX P w) 3 a_check_morning d_check_morning ["book", "morning"] (liftSp ⟨K, mg⟩ w_check_morning 2) :=
  fn_mk (N := ["book", "morning"]) (ps := ["book", "morning"]) (k := 2) (pb := b_check_morning) T.F_check_morning sc_check_morning fun cdv A outer s H E hr => ⟨_, (lss_one (ls_if (lt_not (lt_chain L2.op_le L2.op_le ol_le ol_le (LX.v lx_int) (LX.v (lx_var 1)) (LX.v (lx_fld T.fld_days (lx_var 0))))) (lss_one (ls_raise (c := 21) rfl (takes_of rfl rfl rfl rfl) T.ex_OutOfRange (okx_OutOfRange T) (hr.mono (by decide)) T.B_OutOfRangeU_initU rfl (lan_cons (lx_var 1) (lan_cons lx_str lan_nil)))) lss_nil))⟩
theorem ok_Book_runners_on (T : Tx K mg a__law_pool a__law_take a__law_code a__law_great a__law_span a__law_group a__law_stretches a_ascending a_check_stretches a_join_neighbours a_BookU_initU a__law_part a__law_upto a__law_cut a__law_joined a__law_number a__law_same a__law_is_book a_BookU_eqU a_check_part a_rear_pairs a_Book_tail a_front_pairs a_Book_head a__law_asked a_BookU_addU a__law_summed a_check_morning a_Book_runners_on a__law_on a__law_halves a_Book_flipped a__law_turned a__law_refused a_law a_BadBookU_initU a_OutOfRangeU_initU A_Depot A_Book A_OutagainError A_OutOfRange A_BadDepot A_BadBook  d__law_pool d__law_take d__law_code d__law_great d__law_span d__law_group d__law_stretches d_ascending d_check_stretches d_join_neighbours d_BookU_initU d__law_part d__law_upto d__law_cut d__law_joined d__law_number d__law_same d__law_is_book d_BookU_eqU d_check_part d_rear_pairs d_Book_tail d_front_pairs d_Book_head d__law_asked d_BookU_addU d__law_summed d_check_morning d_Book_runners_on d__law_on d__law_halves d_Book_flipped d__law_turned d__law_refused d_law d_BadBookU_initU d_OutOfRangeU_initU) : FnOk P w K mg base (L2.CX P w) 7 a_Book_runners_on d_Book_runners_on ["self", "morning"] (liftSp ⟨K, mg⟩ w_Book_runners_on 2) :=
  fn_mk (N := ["self", "morning", "_", "runners"]) (ps := ["self", "morning"]) (k := 6) (pb := b_Book_runners_on) T.F_Book_runners_on sc_Book_runners_on fun cdv A outer s H E hr => ⟨_, (lss_cons (ls_expr (LX.v (lx_call (takes_of rfl rfl rfl rfl) (ok_check_morning T) (hr.mono (by first | decide | omega)) rfl T.G_check_morning T.K_check_morning T.B_check_morning (lan_cons (lx_var 0) (lan_cons (lx_var 1) lan_nil)))))
 (lss_cons (ls_asgG (lx_ix (LX.v (lx_fld T.fld_stretches (lx_meth (takes_of rfl rfl rfl rfl) T.me_Book_tail (ok_Book_tail T) (hr.mono (by decide)) T.B_Book_tail (lx_var 0) (lan_cons (lx_bin op_sub ol_sub (LX.v (lx_var 1)) (LX.v lx_int)) lan_nil)))) (LX.v lx_int) (fun _ _ => rfl)) (lg_seq rfl (lgs_cons (lg_name 2 sc_Book_runners_on.nd) (lgs_cons (lg_name 3 sc_Book_runners_on.nd) lgs_nil))))
 (lss_one (ls_ret (lx_var 3)))))⟩
theorem ok__law_on (T : Tx K mg a__law_pool a__law_take a__law_code a__law_great a__law_span a__law_group a__law_stretches a_ascending a_check_stretches a_join_neighbours a_BookU_initU a__law_part a__law_upto a__law_cut a__law_joined a__law_number a__law_same a__law_is_book a_BookU_eqU a_check_part a_rear_pairs a_Book_tail a_front_pairs a_Book_head a__law_asked a_BookU_addU a__law_summed a_check_morning a_Book_runners_on a__law_on a__law_halves a_Book_flipped a__law_turned a__law_refused a_law a_BadBookU_initU a_OutOfRangeU_initU A_Depot A_Book A_OutagainError A_OutOfRange A_BadDepot A_BadBook  d__law_pool d__law_take d__law_code d__law_great d__law_span d__law_group d__law_stretches d_ascending d_check_stretches d_join_neighbours d_BookU_initU d__law_part d__law_upto d__law_cut d__law_joined d__law_number d__law_same d__law_is_book d_BookU_eqU d_check_part d_rear_pairs d_Book_tail d_front_pairs d_Book_head d__law_asked d_BookU_addU d__law_summed d_check_morning d_Book_runners_on d__law_on d__law_halves d_Book_flipped d__law_turned d__law_refused d_law d_BadBookU_initU d_OutOfRangeU_initU) : FnOk P w K mg base (L2.CX P w) 1 a__law_on d__law_on ["rows", "start"] (liftSp ⟨K, mg⟩ w__law_on 2) :=
  fn_mk (N := ["rows", "start", "left", "row"]) (ps := ["rows", "start"]) (k := 0) (pb := b__law_on) T.F__law_on sc__law_on fun cdv A outer s H E hr => ⟨_, (lss_cons (ls_set 2 sc__law_on.nd (lx_var 1))
 (lss_cons (ls_for (passes_of rfl) rfl (li_seq (lx_var 0)) (lg_name 3 sc__law_on.nd) (lss_cons (ls_if (lt_cmp L2.op_le ol_le (LX.v (lx_var 2)) (LX.v (lx_ix (LX.v (lx_var 3)) (LX.v lx_int) (fun _ _ => rfl))) (nomark _)) (lss_one (ls_ret (lx_ix (LX.v (lx_var 3)) (LX.v lx_int) (fun _ _ => rfl)))) lss_nil)
 (lss_one (ls_set 2 sc__law_on.nd (lx_bin op_sub ol_sub (LX.v (lx_var 2)) (LX.v (lx_ix (LX.v (lx_var 3)) (LX.v lx_int) (fun _ _ => rfl))))))))
 (lss_one (ls_ret (lx_tup la_nil)))))⟩
theorem ok__law_halves (T : Tx K mg a__law_pool a__law_take a__law_code a__law_great a__law_span a__law_group a__law_stretches a_ascending a_check_stretches a_join_neighbours a_BookU_initU a__law_part a__law_upto a__law_cut a__law_joined a__law_number a__law_same a__law_is_book a_BookU_eqU a_check_part a_rear_pairs a_Book_tail a_front_pairs a_Book_head a__law_asked a_BookU_addU a__law_summed a_check_morning a_Book_runners_on a__law_on a__law_halves a_Book_flipped a__law_turned a__law_refused a_law a_BadBookU_initU a_OutOfRangeU_initU A_Depot A_Book A_OutagainError A_OutOfRange A_BadDepot A_BadBook  d__law_pool d__law_take d__law_code d__law_great d__law_span d__law_group d__law_stretches d_ascending d_check_stretches d_join_neighbours d_BookU_initU d__law_part d__law_upto d__law_cut d__law_joined d__law_number d__law_same d__law_is_book d_BookU_eqU d_check_part d_rear_pairs d_Book_tail d_front_pairs d_Book_head d__law_asked d_BookU_addU d__law_summed d_check_morning d_Book_runners_on d__law_on d__law_halves d_Book_flipped d__law_turned d__law_refused d_law d_BadBookU_initU d_OutOfRangeU_initU) : FnOk P w K mg base (L2.CX P w) 10 a__law_halves d__law_halves ["pool", "book", "rows", "span", "split"] (liftSp ⟨K, mg⟩ w__law_halves 5) :=
  fn_mk (N := ["pool", "book", "rows", "span", "split", "head", "tail", "start"]) (ps := ["pool", "book", "rows", "span", "split"]) (k := 9) (pb := b__law_halves) T.F__law_halves sc__law_halves fun cdv A outer s H E hr => ⟨_, (lss_cons (ls_set 5 sc__law_halves.nd (lx_call (takes_of rfl rfl rfl rfl) (ok__law_asked T) (hr.mono (by first | decide | omega)) rfl T.G__law_asked T.K__law_asked T.B__law_asked (lan_cons (lx_var 1) (lan_cons lx_int (lan_cons (lx_var 4) lan_nil)))))
 (lss_cons (ls_set 6 sc__law_halves.nd (lx_call (takes_of rfl rfl rfl rfl) (ok__law_asked T) (hr.mono (by first | decide | omega)) rfl T.G__law_asked T.K__law_asked T.B__law_asked (lan_cons (lx_var 1) (lan_cons lx_int (lan_cons (lx_var 4) lan_nil)))))
 (lss_cons (ls_if (LWt.t (lw_or (lt_not (lt_truth (LX.v (lx_call (takes_of rfl rfl rfl rfl) (ok__law_is_book T) (hr.mono (by first | decide | omega)) rfl T.G__law_is_book T.K__law_is_book T.B__law_is_book (lan_cons (lx_var 5) (lan_cons (lx_call (takes_of rfl rfl rfl rfl) (ok__law_part T) (hr.mono (by first | decide | omega)) rfl T.G__law_part T.K__law_part T.B__law_part (lan_cons (lx_var 2) (lan_cons lx_int (lan_cons (lx_var 4) lan_nil)))) lan_nil)))))) (lw_or1 (lt_not (lt_truth (LX.v (lx_call (takes_of rfl rfl rfl rfl) (ok__law_is_book T) (hr.mono (by first | decide | omega)) rfl T.G__law_is_book T.K__law_is_book T.B__law_is_book (lan_cons (lx_var 6) (lan_cons (lx_call (takes_of rfl rfl rfl rfl) (ok__law_part T) (hr.mono (by first | decide | omega)) rfl T.G__law_part T.K__law_part T.B__law_part (lan_cons (lx_var 2) (lan_cons (lx_var 4) (lan_cons (lx_var 3) lan_nil)))) lan_nil))))))))) (lss_one (ls_ret lx_bl)) lss_nil)
 (lss_cons (ls_if (lt_cmp L2.op_gt ol_gt (LX.v (lx_bin op_addAll ol_add (LX.v (lx_callB call_len cl_len rfl T.n_len bb_len (lw_cons (LX.v (lx_fld T.fld_stretches (lx_var 5))) lw_nil))) (LX.v (lx_callB call_len cl_len rfl T.n_len bb_len (lw_cons (LX.v (lx_fld T.fld_stretches (lx_var 6))) lw_nil))))) (LX.v lx_int) (nomark _)) (lss_one (ls_if (lt_not (lt_truth (LX.v (lx_call (takes_of rfl rfl rfl rfl) (ok__law_same T 6) (hr.mono (by first | decide | omega)) rfl T.G__law_same T.K__law_same T.B__law_same (lan_cons (lx_call (takes_of rfl rfl rfl rfl) (ok__law_summed T) (hr.mono (by first | decide | omega)) rfl T.G__law_summed T.K__law_summed T.B__law_summed (lan_cons (lx_var 5) (lan_cons (lx_var 6) lan_nil))) (lan_cons (lx_tup (la_cons lx_int (la_cons lx_str la_nil))) lan_nil)))))) (lss_one (ls_ret lx_bl)) lss_nil)) (lss_one (ls_if (LWt.t (lw_or (lt_not (lt_cmp (op_eqO (ok_BookU_eqU T) (hr.mono (by decide)) T.eq_Book.fi T.eq_Book.fn T.B_BookU_eqU) (ol_eqO T.eq_Book) (LX.v (lx_addO (c := 1) (lx_var 5) (lx_var 6) (takes_of rfl rfl rfl rfl) T.ad_Book (ok_BookU_addU T) (hr.mono (by decide)) T.B_BookU_addU)) (LX.v (lx_var 1)) (nomark _))) (lw_or1 (lt_not (lt_truth (LX.v (lx_call (takes_of rfl rfl rfl rfl) (ok__law_is_book T) (hr.mono (by first | decide | omega)) rfl T.G__law_is_book T.K__law_is_book T.B__law_is_book (lan_cons (lx_addO (c := 1) (lx_var 5) (lx_var 6) (takes_of rfl rfl rfl rfl) T.ad_Book (ok_BookU_addU T) (hr.mono (by decide)) T.B_BookU_addU) (lan_cons (lx_var 2) lan_nil))))))))) (lss_one (ls_ret lx_bl)) lss_nil)))
 (lss_cons (ls_if (lt_cmp L2.op_gt ol_gt (LX.v (lx_var 4)) (LX.v lx_int) (nomark _)) (lss_cons (ls_set 7 sc__law_halves.nd (lx_bin op_addAll ol_add (LX.v lx_int) (LX.v (lx_call (takes_of rfl rfl rfl rfl) (ok__law_upto T) (hr.mono (by first | decide | omega)) rfl T.G__law_upto T.K__law_upto T.B__law_upto (lan_cons (lx_var 0) (lan_cons (lx_bin op_sub ol_sub (LX.v (lx_var 4)) (LX.v lx_int)) lan_nil))))))
 (lss_one (ls_if (lt_not (lt_truth (LX.v (lx_call (takes_of rfl rfl rfl rfl) (ok__law_same T 6) (hr.mono (by first | decide | omega)) rfl T.G__law_same T.K__law_same T.B__law_same (lan_cons (lx_meth (takes_of rfl rfl rfl rfl) T.me_Book_runners_on (ok_Book_runners_on T) (hr.mono (by decide)) T.B_Book_runners_on (lx_var 5) (lan_cons (lx_var 7) lan_nil)) (lan_cons (lx_call (takes_of rfl rfl rfl rfl) (ok__law_on T) (hr.mono (by first | decide | omega)) rfl T.G__law_on T.K__law_on T.B__law_on (lan_cons (lx_var 2) (lan_cons (lx_var 7) lan_nil))) lan_nil)))))) (lss_one (ls_ret lx_bl)) lss_nil))) lss_nil)
 (lss_cons (ls_if (lt_cmp L2.op_lt ol_lt (LX.v (lx_var 4)) (LX.v (lx_var 3)) (nomark _)) (lss_cons (ls_set 7 sc__law_halves.nd (lx_bin op_addAll ol_add (LX.v lx_int) (LX.v (lx_call (takes_of rfl rfl rfl rfl) (ok__law_upto T) (hr.mono (by first | decide | omega)) rfl T.G__law_upto T.K__law_upto T.B__law_upto (lan_cons (lx_var 0) (lan_cons (lx_bin op_sub ol_sub (LX.v (lx_bin op_sub ol_sub (LX.v (lx_var 3)) (LX.v (lx_var 4)))) (LX.v lx_int)) lan_nil))))))
 (lss_one (ls_if (lt_not (lt_truth (LX.v (lx_call (takes_of rfl rfl rfl rfl) (ok__law_same T 6) (hr.mono (by first | decide | omega)) rfl T.G__law_same T.K__law_same T.B__law_same (lan_cons (lx_meth (takes_of rfl rfl rfl rfl) T.me_Book_runners_on (ok_Book_runners_on T) (hr.mono (by decide)) T.B_Book_runners_on (lx_var 6) (lan_cons (lx_var 7) lan_nil)) (lan_cons (lx_call (takes_of rfl rfl rfl rfl) (ok__law_on T) (hr.mono (by first | decide | omega)) rfl T.G__law_on T.K__law_on T.B__law_on (lan_cons (lx_var 2) (lan_cons (lx_bin op_addAll ol_add (LX.v (lx_var 4)) (LX.v (lx_var 7))) lan_nil))) lan_nil)))))) (lss_one (ls_ret lx_bl)) lss_nil))) lss_nil)
 (lss_one (ls_ret lx_bl))))))))⟩
theorem ok_Book_flipped (T : Tx K mg a__law_pool a__law_take a__law_code a__law_great a__law_span a__law_group a__law_stretches a_ascending a_check_stretches a_join_neighbours a_BookU_initU a__law_part a__law_upto a__law_cut a__law_joined a__law_number a__law_same a__law_is_book a_BookU_eqU a_check_part a_rear_pairs a_Book_tail a_front_pairs a_Book_head a__law_asked a_BookU_addU a__law_summed a_check_morning a_Book_runners_on a__law_on a__law_halves a_Book_flipped a__law_turned a__law_refused a_law a_BadBookU_initU a_OutOfRangeU_initU A_Depot A_Book A_OutagainError A_OutOfRange A_BadDepot A_BadBook  d__law_pool d__law_take d__law_code d__law_great d__law_span d__law_group d__law_stretches d_ascending d_check_stretches d_join_neighbours d_BookU_initU d__law_part d__law_upto d__law_cut d__law_joined d__law_number d__law_same d__law_is_book d_BookU_eqU d_check_part d_rear_pairs d_Book_tail d_front_pairs d_Book_head d__law_asked d_BookU_addU d__law_summed d_check_morning d_Book_runners_on d__law_on d__law_halves d_Book_flipped d__law_turned d__law_refused d_law d_BadBookU_initU d_OutOfRangeU_initU) : FnOk P w K mg base (L2.CX P w) 6 a_Book_flipped d_Book_flipped ["self"] (liftSp ⟨K, mg⟩ w_Book_flipped 1) :=
  fn_mk (N := ["self"]) (ps := ["self"]) (k := 5) (pb := b_Book_flipped) T.F_Book_flipped sc_Book_flipped fun cdv A outer s H E hr => ⟨_, (lss_one (ls_ret (lx_make (c := 1) (takes_of rfl rfl rfl rfl) T.mk_Book T.m_Book (ok_BookU_initU T) (hr.mono (by decide)) rfl T.B_BookU_initU (lan_cons (lx_revT (lx_fld T.fld_stretches (lx_var 0))) lan_nil))))⟩
theorem ok__law_turned (T : Tx K mg a__law_pool a__law_take a__law_code a__law_great a__law_span a__law_group a__law_stretches a_ascending a_check_stretches a_join_neighbours a_BookU_initU a__law_part a__law_upto a__law_cut a__law_joined a__law_number a__law_same a__law_is_book a_BookU_eqU a_check_part a_rear_pairs a_Book_tail a_front_pairs a_Book_head a__law_asked a_BookU_addU a__law_summed a_check_morning a_Book_runners_on a__law_on a__law_halves a_Book_flipped a__law_turned a__law_refused a_law a_BadBookU_initU a_OutOfRangeU_initU A_Depot A_Book A_OutagainError A_OutOfRange A_BadDepot A_BadBook  d__law_pool d__law_take d__law_code d__law_great d__law_span d__law_group d__law_stretches d_ascending d_check_stretches d_join_neighbours d_BookU_initU d__law_part d__law_upto d__law_cut d__law_joined d__law_number d__law_same d__law_is_book d_BookU_eqU d_check_part d_rear_pairs d_Book_tail d_front_pairs d_Book_head d__law_asked d_BookU_addU d__law_summed d_check_morning d_Book_runners_on d__law_on d__law_halves d_Book_flipped d__law_turned d__law_refused d_law d_BadBookU_initU d_OutOfRangeU_initU) : FnOk P w K mg base (L2.CX P w) 10 a__law_turned d__law_turned ["book", "rows"] (liftSp ⟨K, mg⟩ w__law_turned 2) :=
  fn_mk (N := ["book", "rows", "back", "k", "flipped"]) (ps := ["book", "rows"]) (k := 9) (pb := b__law_turned) T.F__law_turned sc__law_turned fun cdv A outer s H E hr => ⟨_, (lss_cons (ls_setLc 2 (own := [("k", 3)]) rfl sc__law_turned.nd (li_range1 rfl T.n_range (lx_callB call_len cl_len rfl T.n_len bb_len (lw_cons (LX.v (lx_var 1)) lw_nil))) (blkOk_by (N := ["book", "rows", "back", "k", "flipped"]) (sc := defScope s__law_turned) (by decide +kernel)) (fun _ _ _ _ _ => ⟨_, (lg_name 3 sc__law_turned.nd)⟩) (fun _ _ _ _ _ => ⟨_, lts_nil⟩) (fun _ _ _ _ _ => ⟨_, (lx_ix (LX.v (lx_var 1)) (LX.v (lx_bin op_sub ol_sub (LX.v (lx_bin op_sub ol_sub (LX.v (lx_callB call_len cl_len rfl T.n_len bb_len (lw_cons (LX.v (lx_var 1)) lw_nil))) (LX.v lx_int))) (LX.v (lx_var 3)))) (fun _ _ => rfl))⟩) (by decide))
 (lss_cons (ls_set 4 sc__law_turned.nd (lx_meth0 (takes_of rfl rfl rfl rfl) T.me_Book_flipped (ok_Book_flipped T) (hr.mono (by decide)) T.B_Book_flipped (lx_var 0)))
 (lss_cons (ls_if (LWt.t (lw_or (lt_not (lt_truth (LX.v (lx_call (takes_of rfl rfl rfl rfl) (ok__law_is_book T) (hr.mono (by first | decide | omega)) rfl T.G__law_is_book T.K__law_is_book T.B__law_is_book (lan_cons (lx_var 4) (lan_cons (lx_var 2) lan_nil)))))) (lw_or1 (lt_not (lt_truth (LX.v (lx_call (takes_of rfl rfl rfl rfl) (ok__law_is_book T) (hr.mono (by first | decide | omega)) rfl T.G__law_is_book T.K__law_is_book T.B__law_is_book (lan_cons (lx_meth0 (takes_of rfl rfl rfl rfl) T.me_Book_flipped (ok_Book_flipped T) (hr.mono (by decide)) T.B_Book_flipped (lx_var 4)) (lan_cons (lx_var 1) lan_nil))))))))) (lss_one (ls_ret lx_bl)) lss_nil)
 (lss_one (ls_ret (lx_cmp (op_eqD hr.units) ol_eq (LX.v (lx_callT call_bool1 cl_bool rfl T.n_bool bb_bool (lw_cons (LX.v (lx_cmp (op_eqO (ok_BookU_eqU T) (hr.mono (by decide)) T.eq_Book.fi T.eq_Book.fn T.B_BookU_eqU) (ol_eqO T.eq_Book) (LX.v (lx_var 4)) (LX.v (lx_var 0)) (nomark _))) lw_nil))) (LX.v (lx_cmp (op_eqD hr.units) ol_eq (LX.v (lx_call (takes_of rfl rfl rfl rfl) (ok__law_joined T) (hr.mono (by first | decide | omega)) rfl T.G__law_joined T.K__law_joined T.B__law_joined (lan_cons (lx_var 2) lan_nil))) (LX.v (lx_call (takes_of rfl rfl rfl rfl) (ok__law_joined T) (hr.mono (by first | decide | omega)) rfl T.G__law_joined T.K__law_joined T.B__law_joined (lan_cons (lx_var 1) lan_nil))) (nomark _))) (nomark _)))))))⟩
theorem ok__law_refused (T : Tx K mg a__law_pool a__law_take a__law_code a__law_great a__law_span a__law_group a__law_stretches a_ascending a_check_stretches a_join_neighbours a_BookU_initU a__law_part a__law_upto a__law_cut a__law_joined a__law_number a__law_same a__law_is_book a_BookU_eqU a_check_part a_rear_pairs a_Book_tail a_front_pairs a_Book_head a__law_asked a_BookU_addU a__law_summed a_check_morning a_Book_runners_on a__law_on a__law_halves a_Book_flipped a__law_turned a__law_refused a_law a_BadBookU_initU a_OutOfRangeU_initU A_Depot A_Book A_OutagainError A_OutOfRange A_BadDepot A_BadBook  d__law_pool d__law_take d__law_code d__law_great d__law_span d__law_group d__law_stretches d_ascending d_check_stretches d_join_neighbours d_BookU_initU d__law_part d__law_upto d__law_cut d__law_joined d__law_number d__law_same d__law_is_book d_BookU_eqU d_check_part d_rear_pairs d_Book_tail d_front_pairs d_Book_head d__law_asked d_BookU_addU d__law_summed d_check_morning d_Book_runners_on d__law_on d__law_halves d_Book_flipped d__law_turned d__law_refused d_law d_BadBookU_initU d_OutOfRangeU_initU) : FnOk P w K mg base (L2.CX P w) 9 a__law_refused d__law_refused ["pool", "book", "span"] (liftSp ⟨K, mg⟩ w__law_refused 3) :=
  fn_mk (N := ["pool", "book", "span", "low", "high", "way"]) (ps := ["pool", "book", "span"]) (k := 8) (pb := b__law_refused) T.F__law_refused sc__law_refused fun cdv A outer s H E hr => ⟨_, (lss_cons (ls_set 3 sc__law_refused.nd (lx_bin op_sub ol_sub (LX.v (lx_un un_neg ul_neg (LX.v lx_int))) (LX.v (lx_call (takes_of rfl rfl rfl rfl) (ok__law_great T) (hr.mono (by first | decide | omega)) rfl T.G__law_great T.K__law_great T.B__law_great (lan_cons (lx_var 0) (lan_cons (lx_bin op_pow ol_pow (LX.v lx_int) (LX.v lx_int)) lan_nil))))))
 (lss_cons (ls_set 4 sc__law_refused.nd (lx_bin op_addAll ol_add (LX.v (lx_bin op_addAll ol_add (LX.v (lx_var 2)) (LX.v lx_int))) (LX.v (lx_call (takes_of rfl rfl rfl rfl) (ok__law_great T) (hr.mono (by first | decide | omega)) rfl T.G__law_great T.K__law_great T.B__law_great (lan_cons (lx_var 0) (lan_cons (lx_bin op_pow ol_pow (LX.v lx_int) (LX.v lx_int)) lan_nil))))))
 (lss_cons (ls_for (passes_of rfl) rfl (li_range1 rfl T.n_range lx_int) (lg_name 5 sc__law_refused.nd) (lss_cons (ls_if (lt_not (lt_truth (LX.v (lx_call (takes_of rfl rfl rfl rfl) (ok__law_same T 6) (hr.mono (by first | decide | omega)) rfl T.G__law_same T.K__law_same T.B__law_same (lan_cons (lx_call (takes_of rfl rfl rfl rfl) (ok__law_asked T) (hr.mono (by first | decide | omega)) rfl T.G__law_asked T.K__law_asked T.B__law_asked (lan_cons (lx_var 1) (lan_cons (lx_var 5) (lan_cons (lx_var 3) lan_nil)))) (lan_cons (lx_tup (la_cons (lx_var 3) (la_cons lx_str la_nil))) lan_nil)))))) (lss_one (ls_ret lx_bl)) lss_nil)
 (lss_one (ls_if (lt_not (lt_truth (LX.v (lx_call (takes_of rfl rfl rfl rfl) (ok__law_same T 6) (hr.mono (by first | decide | omega)) rfl T.G__law_same T.K__law_same T.B__law_same (lan_cons (lx_call (takes_of rfl rfl rfl rfl) (ok__law_asked T) (hr.mono (by first | decide | omega)) rfl T.G__law_asked T.K__law_asked T.B__law_asked (lan_cons (lx_var 1) (lan_cons (lx_var 5) (lan_cons (lx_var 4) lan_nil)))) (lan_cons (lx_tup (la_cons (lx_var 4) (la_cons lx_str la_nil))) lan_nil)))))) (lss_one (ls_ret lx_bl)) lss_nil))))
 (lss_one (ls_ret lx_bl)))))⟩
theorem ok_law (T : Tx K mg a__law_pool a__law_take a__law_code a__law_great a__law_span a__law_group a__law_stretches a_ascending a_check_stretches a_join_neighbours a_BookU_initU a__law_part a__law_upto a__law_cut a__law_joined a__law_number a__law_same a__law_is_book a_BookU_eqU a_check_part a_rear_pairs a_Book_tail a_front_pairs a_Book_head a__law_asked a_BookU_addU a__law_summed a_check_morning a_Book_runners_on a__law_on a__law_halves a_Book_flipped a__law_turned a__law_refused a_law a_BadBookU_initU a_OutOfRangeU_initU A_Depot A_Book A_OutagainError A_OutOfRange A_BadDepot A_BadBook  d__law_pool d__law_take d__law_code d__law_great d__law_span d__law_group d__law_stretches d_ascending d_check_stretches d_join_neighbours d_BookU_initU d__law_part d__law_upto d__law_cut d__law_joined d__law_number d__law_same d__law_is_book d_BookU_eqU d_check_part d_rear_pairs d_Book_tail d_front_pairs d_Book_head d__law_asked d_BookU_addU d__law_summed d_check_morning d_Book_runners_on d__law_on d__law_halves d_Book_flipped d__law_turned d__law_refused d_law d_BadBookU_initU d_OutOfRangeU_initU) : FnOk P w K mg base (L2.CX P w) 11 a_law d_law ["script"] (liftSp ⟨K, mg⟩ w_law 1) :=
  fn_mk (N := ["script", "pool", "many", "rows", "span", "row", "book", "more", "others", "second", "splits", "split", "low", "high", "between", "total"]) (ps := ["script"]) (k := 10) (pb := b_law) T.F_law sc_law fun cdv A outer s H E hr => ⟨_, (lss_cons (ls_set 1 sc_law.nd (lx_call (takes_of rfl rfl rfl rfl) (ok__law_pool T) (hr.mono (by first | decide | omega)) rfl T.G__law_pool T.K__law_pool T.B__law_pool (lan_cons (lx_var 0) lan_nil)))
 (lss_cons (ls_set 2 sc_law.nd (lx_call (takes_of rfl rfl rfl rfl) (ok__law_take T) (hr.mono (by first | decide | omega)) rfl T.G__law_take T.K__law_take T.B__law_take (lan_cons (lx_var 1) (lan_cons lx_int lan_nil))))
 (lss_cons (ls_if (lt_cmp (op_eqD hr.units) ol_eq (LX.v (lx_call (takes_of rfl rfl rfl rfl) (ok__law_take T) (hr.mono (by first | decide | omega)) rfl T.G__law_take T.K__law_take T.B__law_take (lan_cons (lx_var 1) (lan_cons lx_int lan_nil)))) (LX.v lx_int) (nomark _)) (lss_one (ls_set 2 sc_law.nd (lx_call (takes_of rfl rfl rfl rfl) (ok__law_take T) (hr.mono (by first | decide | omega)) rfl T.G__law_take T.K__law_take T.B__law_take (lan_cons (lx_var 1) (lan_cons lx_int lan_nil))))) lss_nil)
 (lss_cons (ls_set 3 sc_law.nd (lx_call (takes_of rfl rfl rfl rfl) (ok__law_stretches T) (hr.mono (by first | decide | omega)) rfl T.G__law_stretches T.K__law_stretches T.B__law_stretches (lan_cons (lx_var 1) (lan_cons (lx_var 2) (lan_cons (lx_bin op_pow ol_pow (LX.v lx_int) (LX.v lx_int)) lan_nil)))))
 (lss_cons (ls_set 4 sc_law.nd (lx_callB (cr_sumA rfl) cl_sumA rfl T.n_sum bb_sum (lw_cons (LO.v (lo_lc (own := [("row", 5)]) rfl sc_law.nd (li_seq (lx_var 3)) (blkOk_by (N := ["script", "pool", "many", "rows", "span", "row", "book", "more", "others", "second", "splits", "split", "low", "high", "between", "total"]) (sc := defScope s_law) (by decide +kernel)) (fun _ _ _ _ _ => ⟨_, (lg_name 5 sc_law.nd)⟩) (fun _ _ _ _ _ => ⟨_, lts_nil⟩) (fun _ _ _ _ _ => ⟨_, (lx_ix (LX.v (lx_var 5)) (LX.v lx_int) (fun _ _ => rfl))⟩) (by decide))) lw_nil)))
 (lss_cons (ls_set 6 sc_law.nd (lx_make (c := 1) (takes_of rfl rfl rfl rfl) T.mk_Book T.m_Book (ok_BookU_initU T) (hr.mono (by decide)) rfl T.B_BookU_initU (lan_cons (LO.x (lo_callT call_list_of cl_list rfl T.n_list bb_list (lw_cons (LX.v (lx_var 3)) lw_nil))) lan_nil)))
 (lss_cons (ls_set 7 sc_law.nd (lx_callB (call_min2 rfl) cl_min2 rfl T.n_min bb_min (lw_cons (LX.v (lx_call (takes_of rfl rfl rfl rfl) (ok__law_take T) (hr.mono (by first | decide | omega)) rfl T.G__law_take T.K__law_take T.B__law_take (lan_cons (lx_var 1) (lan_cons lx_int lan_nil)))) (lw_cons (LX.v (lx_callB (call_min2 rfl) cl_min2 rfl T.n_min bb_min (lw_cons (LX.v (lx_bin op_sub ol_sub (LX.v lx_int) (LX.v (lx_var 2)))) (lw_cons (LX.v (lx_bin op_sub ol_sub (LX.v (lx_bin op_pow ol_pow (LX.v lx_int) (LX.v lx_int))) (LX.v (lx_var 4)))) lw_nil)))) lw_nil))))
 (lss_cons (ls_asgF 8 sc_law.nd (lf_call (takes_of rfl rfl rfl rfl) (ok__law_stretches T) (hr.mono (by first | decide | omega)) rfl T.G__law_stretches T.K__law_stretches T.B__law_stretches (lan_cons (lx_var 1) (lan_cons (lx_var 7) (lan_cons (lx_bin op_sub ol_sub (LX.v (lx_bin op_pow ol_pow (LX.v lx_int) (LX.v lx_int))) (LX.v (lx_var 4))) lan_nil)))))
 (lss_cons (ls_if (LWt.t (lw_and (lt_cmp (op_neD hr.units) ol_ne (LX.v (lx_var 3)) (LO.v (lo_lst la_nil)) (nomark _)) (lw_and (lt_cmp (op_neD hr.units) ol_ne (lv_var 8) (LO.v (lo_lst la_nil)) (nomark _)) (lw_and1 (lt_cmp (op_eqD hr.units) ol_eq (LX.v (lx_call (takes_of rfl rfl rfl rfl) (ok__law_take T) (hr.mono (by first | decide | omega)) rfl T.G__law_take T.K__law_take T.B__law_take (lan_cons (lx_var 1) (lan_cons lx_int lan_nil)))) (LX.v lx_int) (nomark _)))))) (lss_one (ls_setI 8 (lx_tup (la_cons (lx_ix (LX.v (lx_ix (lv_var 8) (LX.v lx_int) (fun _ _ => rfl))) (LX.v lx_int) (fun _ _ => rfl)) (la_cons (lx_ix (LX.v (lx_ix (LX.v (lx_var 3)) (LX.v (lx_un un_neg ul_neg (LX.v lx_int))) (fun _ _ => rfl))) (LX.v lx_int) (fun _ _ => rfl)) la_nil))) lx_int)) lss_nil)
 (lss_cons (ls_set 9 sc_law.nd (lx_make (c := 1) (takes_of rfl rfl rfl rfl) T.mk_Book T.m_Book (ok_BookU_initU T) (hr.mono (by decide)) rfl T.B_BookU_initU (lan_cons (LO.x (lo_callT call_list_of cl_list rfl T.n_list bb_list (lw_cons (lv_var 8) lw_nil))) lan_nil)))
 (lss_cons (ls_set 10 sc_law.nd (LO.x (lo_lst (la_cons (lx_call (takes_of rfl rfl rfl rfl) (ok__law_cut T) (hr.mono (by first | decide | omega)) rfl T.G__law_cut T.K__law_cut T.B__law_cut (lan_cons (lx_var 1) (lan_cons (lx_var 3) (lan_cons (lx_var 4) lan_nil)))) (la_cons (lx_call (takes_of rfl rfl rfl rfl) (ok__law_cut T) (hr.mono (by first | decide | omega)) rfl T.G__law_cut T.K__law_cut T.B__law_cut (lan_cons (lx_var 1) (lan_cons (lx_var 3) (lan_cons (lx_var 4) lan_nil)))) la_nil)))))
 (lss_cons (ls_for (passes_of rfl) rfl (li_seq (lx_var 10)) (lg_name 11 sc_law.nd) (lss_one (ls_if (lt_not (lt_truth (LX.v (lx_call (takes_of rfl rfl rfl rfl) (ok__law_halves T) (hr.mono (by first | decide | omega)) rfl T.G__law_halves T.K__law_halves T.B__law_halves (lan_cons (lx_var 1) (lan_cons (lx_var 6) (lan_cons (lx_var 3) (lan_cons (lx_var 4) (lan_cons (lx_var 11) lan_nil))))))))) (lss_one (ls_ret lx_bl)) lss_nil)))
 (lss_cons (ls_set 12 sc_law.nd (lx_callB (cr_min rfl) cl_minL rfl T.n_min bb_min (lw_cons (LX.v (lx_var 10)) lw_nil)))
 (lss_cons (ls_set 13 sc_law.nd (lx_callB (cr_max rfl) cl_maxL rfl T.n_max bb_max (lw_cons (LX.v (lx_var 10)) lw_nil)))
 (lss_cons (ls_set 14 sc_law.nd (lx_call (takes_of rfl rfl rfl rfl) (ok__law_part T) (hr.mono (by first | decide | omega)) rfl T.G__law_part T.K__law_part T.B__law_part (lan_cons (lx_var 3) (lan_cons (lx_var 12) (lan_cons (lx_var 13) lan_nil)))))
 (lss_cons (ls_if (lt_not (lt_truth (LX.v (lx_call (takes_of rfl rfl rfl rfl) (ok__law_is_book T) (hr.mono (by first | decide | omega)) rfl T.G__law_is_book T.K__law_is_book T.B__law_is_book (lan_cons (lx_meth (takes_of rfl rfl rfl rfl) T.me_Book_tail (ok_Book_tail T) (hr.mono (by decide)) T.B_Book_tail (lx_meth (takes_of rfl rfl rfl rfl) T.me_Book_head (ok_Book_head T) (hr.mono (by decide)) T.B_Book_head (lx_var 6) (lan_cons (lx_var 13) lan_nil)) (lan_cons (lx_var 12) lan_nil)) (lan_cons (lx_var 14) lan_nil)))))) (lss_one (ls_ret lx_bl)) lss_nil)
 (lss_cons (ls_if (lt_not (lt_truth (LX.v (lx_call (takes_of rfl rfl rfl rfl) (ok__law_is_book T) (hr.mono (by first | decide | omega)) rfl T.G__law_is_book T.K__law_is_book T.B__law_is_book (lan_cons (lx_meth (takes_of rfl rfl rfl rfl) T.me_Book_head (ok_Book_head T) (hr.mono (by decide)) T.B_Book_head (lx_meth (takes_of rfl rfl rfl rfl) T.me_Book_tail (ok_Book_tail T) (hr.mono (by decide)) T.B_Book_tail (lx_var 6) (lan_cons (lx_var 12) lan_nil)) (lan_cons (lx_bin op_sub ol_sub (LX.v (lx_var 13)) (LX.v (lx_var 12))) lan_nil)) (lan_cons (lx_var 14) lan_nil)))))) (lss_one (ls_ret lx_bl)) lss_nil)
 (lss_cons (ls_freeze 8 (ls_if (LWt.t (lw_or (lt_not (lt_truth (LX.v (lx_call (takes_of rfl rfl rfl rfl) (ok__law_turned T) (hr.mono (by first | decide | omega)) rfl T.G__law_turned T.K__law_turned T.B__law_turned (lan_cons (lx_var 6) (lan_cons (lx_var 3) lan_nil)))))) (lw_or1 (lt_not (lt_truth (LX.v (lx_call (takes_of rfl rfl rfl rfl) (ok__law_turned T) (hr.mono (by first | decide | omega)) rfl T.G__law_turned T.K__law_turned T.B__law_turned (lan_cons (lx_var 9) (lan_cons (lx_var 8) lan_nil))))))))) (lss_one (ls_ret lx_bl)) lss_nil))
 (lss_cons (ls_if (LWt.t (lw_or (lt_not (lt_truth (LX.v (lx_call (takes_of rfl rfl rfl rfl) (ok__law_is_book T) (hr.mono (by first | decide | omega)) rfl T.G__law_is_book T.K__law_is_book T.B__law_is_book (lan_cons (lx_addO (c := 1) (lx_var 6) (lx_var 9) (takes_of rfl rfl rfl rfl) T.ad_Book (ok_BookU_addU T) (hr.mono (by decide)) T.B_BookU_addU) (lan_cons (lx_bin op_addAll ol_add (LX.v (lx_var 3)) (lv_var 8)) lan_nil)))))) (lw_or1 (lt_not (lt_truth (LX.v (lx_call (takes_of rfl rfl rfl rfl) (ok__law_is_book T) (hr.mono (by first | decide | omega)) rfl T.G__law_is_book T.K__law_is_book T.B__law_is_book (lan_cons (lx_addO (c := 1) (lx_var 9) (lx_var 6) (takes_of rfl rfl rfl rfl) T.ad_Book (ok_BookU_addU T) (hr.mono (by decide)) T.B_BookU_addU) (lan_cons (lx_bin op_addAll ol_add (lv_var 8) (LX.v (lx_var 3))) lan_nil))))))))) (lss_one (ls_ret lx_bl)) lss_nil)
 (lss_cons (ls_if (lt_not (lt_cmp (op_eqO (ok_BookU_eqU T) (hr.mono (by decide)) T.eq_Book.fi T.eq_Book.fn T.B_BookU_eqU) (ol_eqO T.eq_Book) (LX.v (lx_meth0 (takes_of rfl rfl rfl rfl) T.me_Book_flipped (ok_Book_flipped T) (hr.mono (by decide)) T.B_Book_flipped (lx_addO (c := 1) (lx_var 6) (lx_var 9) (takes_of rfl rfl rfl rfl) T.ad_Book (ok_BookU_addU T) (hr.mono (by decide)) T.B_BookU_addU))) (LX.v (lx_addO (c := 1) (lx_meth0 (takes_of rfl rfl rfl rfl) T.me_Book_flipped (ok_Book_flipped T) (hr.mono (by decide)) T.B_Book_flipped (lx_var 9)) (lx_meth0 (takes_of rfl rfl rfl rfl) T.me_Book_flipped (ok_Book_flipped T) (hr.mono (by decide)) T.B_Book_flipped (lx_var 6)) (takes_of rfl rfl rfl rfl) T.ad_Book (ok_BookU_addU T) (hr.mono (by decide)) T.B_BookU_addU)) (nomark _))) (lss_one (ls_ret lx_bl)) lss_nil)
 (lss_cons (ls_freeze 8 (ls_set 15 sc_law.nd (lx_callB (cr_sumA rfl) cl_sumA rfl T.n_sum bb_sum (lw_cons (LO.v (lo_lc (own := [("row", 5)]) rfl sc_law.nd (li_seq (lx_var 8)) (blkOk_by (N := ["script", "pool", "many", "rows", "span", "row", "book", "more", "others", "second", "splits", "split", "low", "high", "between", "total"]) (sc := defScope s_law) (by decide +kernel)) (fun _ _ _ _ _ => ⟨_, (lg_name 5 sc_law.nd)⟩) (fun _ _ _ _ _ => ⟨_, lts_nil⟩) (fun _ _ _ _ _ => ⟨_, (lx_ix (LX.v (lx_var 5)) (LX.v lx_int) (fun _ _ => rfl))⟩) (by decide))) lw_nil))))
 (lss_cons (ls_freeze 8 (ls_if (lt_not (lt_truth (LX.v (lx_call (takes_of rfl rfl rfl rfl) (ok__law_halves T) (hr.mono (by first | decide | omega)) rfl T.G__law_halves T.K__law_halves T.B__law_halves (lan_cons (lx_var 1) (lan_cons (lx_var 9) (lan_cons (lx_var 8) (lan_cons (lx_var 15) (lan_cons (lx_call (takes_of rfl rfl rfl rfl) (ok__law_cut T) (hr.mono (by first | decide | omega)) rfl T.G__law_cut T.K__law_cut T.B__law_cut (lan_cons (lx_var 1) (lan_cons (lx_var 8) (lan_cons (lx_var 15) lan_nil)))) lan_nil))))))))) (lss_one (ls_ret lx_bl)) lss_nil))
 (lss_cons (ls_if (LWt.t (lw_or (lt_not (lt_truth (LX.v (lx_call (takes_of rfl rfl rfl rfl) (ok__law_refused T) (hr.mono (by first | decide | omega)) rfl T.G__law_refused T.K__law_refused T.B__law_refused (lan_cons (lx_var 1) (lan_cons (lx_var 9) (lan_cons (lx_var 15) lan_nil))))))) (lw_or1 (lt_not (lt_truth (LX.v (lx_call (takes_of rfl rfl rfl rfl) (ok__law_refused T) (hr.mono (by first | decide | omega)) rfl T.G__law_refused T.K__law_refused T.B__law_refused (lan_cons (lx_var 1) (lan_cons (lx_var 6) (lan_cons (lx_var 4) lan_nil)))))))))) (lss_one (ls_ret lx_bl)) lss_nil)
 (lss_one (ls_ret (lx_and (lx_call (takes_of rfl rfl rfl rfl) (ok__law_halves T) (hr.mono (by first | decide | omega)) rfl T.G__law_halves T.K__law_halves T.B__law_halves (lan_cons (lx_var 1) (lan_cons (lx_var 6) (lan_cons (lx_var 3) (lan_cons (lx_var 4) (lan_cons (lx_ix (LX.v (lx_var 10)) (LX.v lx_int) (fun _ _ => rfl)) lan_nil)))))) (lx_one (lx_call (takes_of rfl rfl rfl rfl) (ok__law_is_book T) (hr.mono (by first | decide | omega)) rfl T.G__law_is_book T.K__law_is_book T.B__law_is_book (lan_cons (lx_var 6) (lan_cons (lx_var 3) lan_nil))))))))))))))))))))))))))))))⟩
end
end Pu
set_option Elab.async false
set_option maxRecDepth 100000
set_option maxHeartbeats 4000000
set_option autoImplicit false
namespace Pu
open PySem PySem.Spec PyProof.Rows L2
set_option hygiene false in
local macro_rules | `(tactic| infer_instance) => `(tactic| (first
  | (with_reducible refine e_c ?_)
  | ((with_reducible refine' e_var ?hh ?_); (case hh => rfl))
  | (with_reducible refine e_op ?_)
  | (with_reducible refine a_cons ?_)
  | (with_reducible refine a_nil ?_)
  | (with_reducible refine e_call ?_)
  | (with_reducible refine t_tst ?_)
  | (with_reducible refine w_if ?_)
  | (with_reducible refine w_asg ?_)
  | ((with_reducible refine' o_ixL ?hh ?_); (case hh => rfl))
  | ((with_reducible refine' o_ixT ?hh ?_); (case hh => rfl))
  | (with_reducible refine w_tt ?_)
  | (with_reducible refine w_ff ?_)
  | (with_reducible refine w_next ?_)
  | (with_reducible refine w_ret ?_)
  | (with_reducible refine w_dec (fun c => ?_) (fun c => ?_))
  | (with_reducible refine o_add ?_)
  | (with_reducible refine o_sub ?_)
  | (with_reducible refine o_eq ?_)
  | (with_reducible refine o_lt ?_)
  | (with_reducible refine o_gt ?_)
  | (with_reducible refine e_cb ?_)
  | ((with_reducible refine' e_varV ?hh ?_); (case hh => rfl))
  | ((with_reducible refine' e_varO ?hh ?_); (case hh => rfl))
  | (with_reducible refine w_asgO ?_)
  | ((with_reducible refine' w_fzO ?hh ?_); (case hh => rfl))
  | ((with_reducible refine' w_fzD ?hh ?_); (case hh => rfl))
  | ((with_reducible refine' w_insK ?hh ?_); (case hh => rfl))
  | ((with_reducible refine' w_appK ?hh ?_); (case hh => rfl))
  | (with_reducible refine e_tup ?_)
  | (with_reducible refine e_lst ?_)
  | (with_reducible refine o_rep ?_ ?_ ?_)
  | (with_reducible refine w_raise ?_)
  | (with_reducible refine w_retN ?_)
  | (with_reducible refine w_brk ?_)
  | (with_reducible refine w_cnt ?_)
  | (with_reducible refine e_chain ?_)
  | (with_reducible refine t_truK ?_)
  | (with_reducible refine e_ifE ?_)
  | (with_reducible refine l_enum ?_)
  | (with_reducible refine g_seq2 ?_)
  | (with_reducible refine g_cons ?_)
  | (with_reducible refine g_nil ?_)
  | ((with_reducible refine' w_setF ?hh ?h3 ?_); (case hh => rfl); (case h3 => rfl))
  | ((with_reducible refine' w_ext ?hh ?_); (case hh => rfl))
  | ((with_reducible refine' e_makeV ?hh ?_); (case hh => rfl))
  | (with_reducible refine e_makeW ?_)
  | (with_reducible refine e_make ?_)
  | (with_reducible refine w_for ?_)
  | (with_reducible refine w_for1 ?_)
  | (with_reducible refine w_for0 ?_)
  | (with_reducible refine l_range1 ?_)
  | (with_reducible refine l_range2 ?_)
  | (with_reducible refine l_seq ?_)
  | (with_reducible refine g_name ?_)
  | (with_reducible refine w_drop ?_)
  | (with_reducible refine e_and ?_)
  | (with_reducible refine e_or ?_)
  | (with_reducible refine e_not ?_)
  | (with_reducible refine e_isT ?_)
  | (with_reducible refine e_isC ?_)
  | (with_reducible refine e_fld ?_)
  | (with_reducible refine e_prop ?_)
  | (with_reducible refine e_meth ?_)
  | (with_reducible refine e_callW ?_)
  | (with_reducible refine e_cm ?_)
  | (with_reducible refine w_try ?_)
  | (with_reducible refine w_lc ?_)
  | (with_reducible refine k_truB ?_)
  | (with_reducible refine k_truN ?_)
  | (with_reducible refine k_obj ?_)
  | ((with_reducible refine' k_clN ?hh ?_); (case hh => rfl))
  | ((with_reducible refine' k_fld ?hh ?h3 ?_); (case hh => rfl); (case h3 => rfl))
  | ((with_reducible refine' o_listI ?hh ?_); (case hh => rfl))
  | ((with_reducible refine' o_tupI ?hh ?_); (case hh => rfl))
  | ((with_reducible refine' e_xm ?hh ?h3 ?h4 ?_); (case hh => rfl); (case h3 => rfl); (case h4 => rfl))
  | ((with_reducible refine' e_isX ?hh ?h3 ?_); (case hh => rfl); (case h3 => rfl))
  | (with_reducible refine o_eqB ?_)
  | (with_reducible refine t_and ?_)
  | (with_reducible refine t_or ?_)
  | (with_reducible refine t_not ?_)
  | (with_reducible refine o_ge ?_)
  | (with_reducible refine o_le ?_)
  | (with_reducible refine o_ne ?_)
  | (with_reducible refine o_mod ?_ ?_)
  | (with_reducible refine o_div ?_ ?_ ?_)
  | (with_reducible refine o_mul ?_ ?_)
  | (with_reducible refine o_pow8 ?_)
  | (with_reducible refine o_pow12 ?_)
  | (with_reducible refine o_pow18 ?_)
  | (with_reducible refine o_pow25 ?_)
  | (with_reducible refine o_pow30 ?_)
  | (with_reducible refine o_pow31 ?_)
  | ((with_reducible refine o_pow ?hh ?h3 ?h4 ?_); (case hh => decide); (case h3 => decide); (case h4 => decide))
  | (with_reducible refine o_lenL ?_)
  | (with_reducible refine o_lenT ?_)
  | (with_reducible refine o_lenP ?_)
  | (with_reducible refine o_int ?_)
  | (with_reducible refine o_intB ?_)
  | (with_reducible refine o_abs ?_)
  | (with_reducible refine o_min ?_)
  | (with_reducible refine o_max ?_)
  | (with_reducible refine o_ixPool (fun s hs => ?_))
  | (with_reducible refine r_rng4 ?_)
  | ((with_reducible refine o_ixP ?hh ?h3 (fun z hz => ?_)); (case hh => omega); (case h3 => omega))
  | ((with_reducible refine' w_setO ?hh ?_); (case hh => rfl))
  | (with_reducible refine k_setI ?_ ?_ ?_)
  | ((with_reducible refine' o_set ?hh ?_); (case hh => rfl))
  | (with_reducible refine w_ndec (fun c => ?_) (fun c => ?_))
  | (with_reducible refine w_nff ?_)
  | (with_reducible refine w_ntt ?_)
  | (with_reducible refine And.intro ?_ ?_)
  | ((with_reducible refine' k_tyt ?hh ?_); (case hh => rfl))
  | ((with_reducible refine' k_tyf ?hh ?_); (case hh => rfl))
  | ((with_reducible refine' k_clOt ?hh ?h3 ?_); (case hh => decide); (case h3 => decide))
  | ((with_reducible refine' k_clOf ?hh ?h3 ?_); (case hh => decide); (case h3 => decide))
  | ((with_reducible refine' o_isNf ?hh ?_); (case hh => rfl))
  | ((with_reducible refine' o_isNt ?hh ?_); (case hh => rfl))
  | ((with_reducible refine' o_notNf ?hh ?_); (case hh => rfl))
  | ((with_reducible refine' o_notNt ?hh ?_); (case hh => rfl))
  | (with_reducible refine e_un ?_)
  | (with_reducible refine o_neg ?_)
  | ((with_reducible refine' l_itR ?hh ?_); (case hh => rfl))
  | ((with_reducible refine' w_popK ?hh ?_); (case hh => rfl))
  | (with_reducible refine k_appI ?_ ?_)
  | (with_reducible refine k_app ?_ ?_)
  | (with_reducible refine k_insI ?_ ?_ ?_ ?_)
  | (with_reducible refine k_popM ?_ ?_ ?_ ?_)
  | (with_reducible refine k_int ?_)
  | (with_reducible refine k_exI ?_)
  | (with_reducible refine t_yes ?_)
  | ((with_reducible refine' e_fldS ?hh ?h3 ?_); (case hh => rfl); (case h3 => rfl))
  | (with_reducible refine e_sl ?_)
  | (with_reducible refine e_part ?_)
  | (with_reducible refine e_no ?_)
  | (with_reducible refine k_intO ?_)))

theorem take_spec {limit : Int} (h1 : 1 ≤ limit) (h2 : limit < 2 ^ 200) {P : D → Prop} {P2 : Exn → Prop} (h : ∀ r : Int, 0 ≤ r → r < limit → P (.int r)) : w__law_take [.pool, .int limit] P P2 := by
  unfold w__law_take wpPl
  refine ⟨rfl, fun p l s0 s1 s2 s3 ns hB => ?_⟩
  obtain ⟨hn, b0, b1, b2, b3, b4, b5⟩ := hB
  have hm : ∀ a : Int, 0 ≤ a % limit ∧ a % limit < limit := fun a => ⟨Int.emod_nonneg _ (by omega), Int.emod_lt_of_pos _ (by omega)⟩
  unfold b__law_take
  repeat' (first | infer_instance | (with_reducible refine w_seq ?_) | fail)
  all_goals first
    | decide
    | omega
    | exact h _ (hm _).1 (hm _).2
    | (refine ⟨_, _, _, _, rfl, hn, ?_, ?_, ?_, ?_, ?_, ?_⟩ <;> first | omega | (refine Int.ediv_nonneg ?_ ?_ <;> first | omega | (split <;> omega)))

set_option hygiene false in
local macro_rules | `(tactic| infer_instance) => `(tactic| (with_reducible refine take_spec ?_ ?_ (fun r hr0 hr1 => ?_)))
theorem great_spec {most : Int} (h1 : 0 ≤ most) (h2 : most < 2 ^ 190) {P : D → Prop} {P2 : Exn → Prop} (h : ∀ r : Int, 0 ≤ r → r ≤ most → P (.int r)) : w__law_great [.pool, .int most] P P2 := by
  unfold w__law_great wpB b__law_great
  repeat' (first | infer_instance | (with_reducible refine w_seq ?_) | fail)
  all_goals first
    | decide
    | omega
    | (unfold b62; omega)
    | (refine h _ ?_ ?_ <;> first | omega | (split <;> omega) | exact Int.emod_nonneg _ (by omega) | exact Int.le_of_lt_add_one (Int.emod_lt_of_pos _ (by omega)))
    | skip
/-! ### _law_number, _law_same -/
theorem atI_nat {ds : List D} {i : Nat} (h : i < ds.length) : atI ds (0 + (i : Int)) = some (ds[i]'h) := by
  unfold atI ixN
  rw [if_pos (by omega), if_pos (by omega)]
  show ds[(0 + (i : Int)).toNat]? = _
  rw [Int.zero_add, Int.toNat_natCast, List.getElem?_eq_getElem h]
theorem number_int {i : Int} {P : D → Prop} {P2 : Exn → Prop} (q : P (.bl true)) : w__law_number [.int i] P P2 := by
  unfold w__law_number wpB b__law_number
  repeat' (first | infer_instance | (with_reducible refine w_seq ?_) | fail)
  all_goals exact q
set_option hygiene false in
local macro_rules | `(tactic| infer_instance) => `(tactic| (with_reducible refine number_int ?_))
theorem same_loop {n : Nat} {ds : List D} {d : D} {P : D → Prop} {P2 : Exn → Prop} (IH : ∀ d, okS n d → ∀ {P : D → Prop} {P2 : Exn → Prop}, P (.bl true) → w__law_same n [d, d] P P2) (hd : itemsD d = some ds) (hi : ∀ i : Int, ∀ x, atI ds i = some x → ∀ K : D → Prop, K x → fIx d (.int i) K)
    (hk : ∀ x ∈ ds, okS n x) (q : P (.bl true)) (o2 : Option S) :
    pForL (pgName 2) (pIf (pNotT (pTru (pCall (w__law_same n) (pCons (pOp fIx (pVar 0) (pVar 2)) (pCons (pOp fIx (pVar 1) (pVar 2)) pNil))))) (pRet (pC (.bl false))) pNext) { nx := pRet (pC (.bl true)) { nx := fun _ => P .non, rt := fun _ => P, bk := fun _ => False, ct := fun _ => False, ex := fun _ => P2 }, rt := fun _ => P, bk := fun _ => False, ct := fun _ => False, ex := fun _ => P2 } (rangeD 0 ds.length) [some (.d d), some (.d d), o2] := by
  refine w_forP (fun (i : Nat) => D.int (0 + i)) (List.range ds.length) (fun _ δ => ∃ o, δ = [some (.d d), some (.d d), o]) (rangeD_map _ _) ?_ ?_ ⟨_, rfl⟩
  · rintro δ ⟨o, rfl⟩
    exact q
  · rintro pre x post δ k e ⟨o, rfl⟩ hk'
    have hx : x < ds.length := List.mem_range.mp (by rw [e]; simp)
    have ha := atI_nat hx
    repeat' (first | infer_instance | (with_reducible refine w_seq ?_) | (with_reducible refine hi _ _ ha _ ?_) | (with_reducible refine IH _ (hk _ (List.getElem_mem hx)) ?_) | fail)
    all_goals exact hk' _ ⟨_, rfl⟩
theorem same_refl : ∀ (n : Nat) (d : D), okS n d → ∀ {P : D → Prop} {P2 : Exn → Prop}, P (.bl true) → w__law_same n [d, d] P P2
  | 0, _, h, _, _, _ => h.elim
  | n + 1, d, h, P, P2, q => by
    unfold w__law_same wpB b__law_same
    cases d with
    | non =>
      repeat' (first | infer_instance | (with_reducible refine w_seq ?_) | fail)
      all_goals exact q
    | bl b =>
      repeat' (first | infer_instance | (with_reducible refine w_seq ?_) | fail)
      all_goals (show P (.bl (decide (b = b))); rw [decide_eq_true rfl]; exact q)
    | int i =>
      repeat' (first | infer_instance | (with_reducible refine w_seq ?_) | fail)
      all_goals (show P (.bl (decide (i = i))); rw [decide_eq_true rfl]; exact q)
    | str s =>
      have hs : PyData.strOk s = true := h
      repeat' (first | infer_instance | (with_reducible refine w_seq ?_) | (with_reducible refine o_eqS hs hs ?_) | fail)
      all_goals (show P (.bl (decide (s = s))); rw [decide_eq_true rfl]; exact q)
    | lst ds =>
      repeat' (first | infer_instance | (with_reducible refine w_seq ?_) | fail)
      all_goals first
        | exact absurd rfl c
        | (unfold b62; have : szl = 16777216 := rfl; have := h.1; omega)
        | exact same_loop (fun d hd => same_refl n d hd) rfl (fun i x e K k => o_ixL e k) h.2 q _
    | tup ds =>
      repeat' (first | infer_instance | (with_reducible refine w_seq ?_) | fail)
      all_goals first
        | exact absurd rfl c
        | (unfold b62; have : szl = 16777216 := rfl; have := h.1; omega)
        | exact same_loop (fun d hd => same_refl n d hd) rfl (fun i x e K k => o_ixT e k) h.2 q _
    | obj _ _ => exact h.elim
    | pool => exact h.elim
    | cls _ => exact h.elim
    | script _ => exact h.elim
    | pin _ _ => exact h.elim
/-! ### stretches: ascending, check_stretches, join_neighbours, Book.__init__ -/
abbrev St0 := Int × List Int
def fS (r : St0) : D := .tup [.int r.1, .tup (r.2.map .int)]
def fL (r : St0) : D := .tup [.int r.1, .lst (r.2.map .int)]
structure RowF (ψ : St0 → D) : Prop where
  row : ∀ r, ∃ x, itemsD (ψ r) = some [.int r.1, x] ∧ itemsD x = some (r.2.map .int)
theorem rowS : RowF fS := ⟨fun _ => ⟨_, rfl, rfl⟩⟩
theorem rowL : RowF fL := ⟨fun _ => ⟨_, rfl, rfl⟩⟩
def ascB : Int → Int → List Int → Bool
  | _, _, [] => true
  | least, size, x :: xs => decide (least ≤ x) && (decide (x < size) && ascB (x + 1) size xs)
theorem g_seqI {n : Nat} {u : List D → Dl → (Dl → Prop) → Prop} {d : D} {ds : List D} {δ : Dl} {K : Dl → Prop} (e : itemsD d = some ds) (hl : ds.length = n) (h : u ds δ K) : pgSeq n u d δ K := by
  unfold pgSeq
  rw [e]
  exact ⟨hl, h⟩
theorem asc_spec {d : D} {ns : List Int} {size : Int} (hd : itemsD d = some (ns.map .int)) {P : D → Prop} {P2 : Exn → Prop} (h : P (.bl (ascB 0 size ns))) : w_ascending [d, .int size] P P2 := by
  unfold w_ascending wpB b_ascending
  repeat' (first | infer_instance | (with_reducible refine w_seq ?_) | (with_reducible refine l_items hd ?_) | fail)
  refine w_forI (fun rest δ => ∃ (xs : List Int) (least : Int) (o3 : Option S), rest = xs.map .int ∧ δ = [some (.d d), some (.d (.int size)), some (.d (.int least)), o3] ∧ ascB 0 size ns = ascB least size xs) ?_ ?_ _ _ ⟨ns, 0, _, rfl, rfl, rfl⟩
  · rintro δ ⟨xs, least, o3, e, rfl, ha⟩
    have : xs = [] := List.map_eq_nil_iff.mp e.symm
    subst this
    rw [ha] at h
    exact h
  · rintro y ds δ k ⟨xs, least, o3, e, rfl, ha⟩ hk
    cases xs with
    | nil => cases e
    | cons x xs =>
      rw [List.map_cons] at e
      injection e with e1 e2
      subst e1 e2
      repeat' (first | infer_instance | (with_reducible refine w_seq ?_) | fail)
      all_goals first
        | (refine hk _ ⟨xs, x + 1, _, rfl, rfl, ?_⟩
           rw [ha]
           show (decide (least ≤ x) && (decide (x < size) && ascB (x + 1) size xs)) = _
           rw [decide_eq_true (by omega), decide_eq_true (by omega)]
           rfl)
        | (have e : ascB least size (x :: xs) = false := by
             show (decide (least ≤ x) && (decide (x < size) && ascB (x + 1) size xs)) = _
             first
               | (rw [decide_eq_false (p := x < size) (by omega)]; simp)
               | (rw [decide_eq_false (p := least ≤ x) (by omega)]; simp)
           rw [ha, e] at h
           exact h)
/-- the first fault from stretch i on, with so many days ahead -/
def sflt : Int → Int → List St0 → Option (Int × Str)
  | _, _, [] => none
  | i, tot, r :: rs => if ¬ (1 ≤ r.1 ∧ r.1 ≤ 1000000000000000000000000000000) then some (i, "days") else if ascB 0 12 r.2 = false then some (i, "runners")
    else if 1000000000000000000000000000000 < tot + r.1 then some (i, "total") else sflt (i + 1) (tot + r.1) rs
def bflt (rows : List St0) : Option (Int × Str) := if 400 < rows.length then some (400, "stretches") else sflt 0 0 rows
theorem sflt1 {i tot : Int} {r : St0} {rs : List St0} (c : ¬ (1 ≤ r.1 ∧ r.1 ≤ 1000000000000000000000000000000)) : sflt i tot (r :: rs) = some (i, ("days" : Str)) := by unfold sflt; rw [if_pos c]
theorem sflt2 {i tot : Int} {r : St0} {rs : List St0} (c1 : 1 ≤ r.1 ∧ r.1 ≤ 1000000000000000000000000000000) (c : ascB 0 12 r.2 = false) : sflt i tot (r :: rs) = some (i, ("runners" : Str)) := by unfold sflt; rw [if_neg (fun z => z c1), if_pos c]
theorem sflt3 {i tot : Int} {r : St0} {rs : List St0} (c1 : 1 ≤ r.1 ∧ r.1 ≤ 1000000000000000000000000000000) (c2 : ascB 0 12 r.2 = true) (c : 1000000000000000000000000000000 < tot + r.1) : sflt i tot (r :: rs) = some (i, ("total" : Str)) := by
  unfold sflt; rw [if_neg (fun z => z c1), if_neg (by rw [c2]; decide), if_pos c]
theorem sflt4 {i tot : Int} {r : St0} {rs : List St0} (c1 : 1 ≤ r.1 ∧ r.1 ≤ 1000000000000000000000000000000) (c2 : ascB 0 12 r.2 = true) (c : ¬ 1000000000000000000000000000000 < tot + r.1) : sflt i tot (r :: rs) = sflt (i + 1) (tot + r.1) rs := by
  rw [sflt, if_neg (fun z => z c1), if_neg (by rw [c2]; decide), if_neg c]
theorem bflt1 {rows : List St0} (c : 400 < rows.length) : bflt rows = some (400, ("stretches" : Str)) := by unfold bflt; rw [if_pos c]
theorem bflt2 {rows : List St0} (c : ¬ 400 < rows.length) : bflt rows = sflt 0 0 rows := by unfold bflt; rw [if_neg c]
theorem enumD_cons {k : Int} {d : D} {ds : List D} : enumD k (d :: ds) = .tup [.int k, d] :: enumD (k + 1) ds := rfl
theorem chks_spec {ψ : St0 → D} (hψ : RowF ψ) {d : D} {rows : List St0} (hd : itemsD d = some (rows.map ψ)) {P : D → Prop} {P2 : Exn → Prop} (h1 : bflt rows = none → P .non) (h2 : ∀ a s, bflt rows = some (a, s) → P2 ⟨23, [.int a, .str s]⟩) : w_check_stretches [d] P P2 := by
  unfold w_check_stretches wpB b_check_stretches
  repeat' (first | infer_instance | (with_reducible refine w_seq ?_) | (with_reducible refine l_items hd ?_) | (with_reducible refine o_lenI hd ?_) | fail)
  all_goals (try simp only [List.length_map] at *)
  all_goals first
    | rfl
    | (exact fun z => by cases z)
    | (exact h2 _ _ (bflt1 (by omega)))
    | skip
  have hb := bflt2 (rows := rows) (by omega)
  refine w_forI (fun rest δ => ∃ (rs : List St0) (i tot : Int) (o2 o3 o4 : Option S), rest = enumD i (rs.map ψ) ∧ δ = [some (.d d), some (.d (.int tot)), o2, o3, o4] ∧ sflt 0 0 rows = sflt i tot rs) ?_ ?_ _ _ ⟨rows, 0, 0, _, _, _, rfl, rfl, rfl⟩
  · rintro δ ⟨rs, i, tot, o2, o3, o4, e, rfl, ha⟩
    cases rs with
    | nil => exact h1 (by rw [hb, ha]; rfl)
    | cons r rs => cases e
  · rintro y ds δ k ⟨rs, i, tot, o2, o3, o4, e, rfl, ha⟩ hk
    cases rs with
    | nil => cases e
    | cons r rs =>
      rw [List.map_cons, enumD_cons] at e
      injection e with e1 e2
      subst e1 e2
      obtain ⟨x, hr, hx⟩ := hψ.row r
      repeat' (first | infer_instance | (with_reducible refine w_seq ?_) | (with_reducible refine g_seqI hr rfl ?_) | (with_reducible refine asc_spec hx ?_) | fail)
      all_goals first
        | rfl
        | (exact fun z => by cases z)
        | (exact h2 _ _ (by rw [hb, ha]; exact sflt1 (by omega)))
        | skip
      all_goals
        cases ea : ascB 0 12 r.2
      all_goals
        repeat' (first | infer_instance | (with_reducible refine w_seq ?_) | fail)
      all_goals first
        | rfl
        | (exact fun z => by cases z)
        | (exact h2 _ _ (by rw [hb, ha]; exact sflt2 (by omega) ea))
        | (exact h2 _ _ (by rw [hb, ha]; exact sflt3 (by omega) ea (by omega)))
        | (exact hk _ ⟨rs, _, _, _, _, _, rfl, rfl, by rw [ha]; exact sflt4 (by omega) ea (by omega)⟩)
/-! ### join_neighbours, Book.__init__ -/
def jstep (acc : List St0) (r : St0) : List St0 := match acc.getLast? with
  | some l => if l.2 = r.2 then acc.dropLast ++ [(l.1 + r.1, r.2)] else acc ++ [r]
  | none => [r]
def jn (rows : List St0) : List St0 := rows.foldl jstep []
def sumD (rows : List St0) : Int := (rows.map (·.1)).sum
theorem jn_snoc (rows : List St0) (r : St0) : jn (rows ++ [r]) = jstep (jn rows) r := by unfold jn; rw [List.foldl_append]; rfl
theorem jstep_len (acc : List St0) (r : St0) : (jstep acc r).length ≤ acc.length + 1 := by
  unfold jstep
  split
  · split
    · rw [List.length_append, List.length_dropLast, List.length_singleton]; omega
    · rw [List.length_append]; simp
  · simp
theorem jn_len (rows : List St0) : (jn rows).length ≤ rows.length := by
  induction rows using snoc_ind with
  | h0 => simp [jn]
  | h1 xs x ih =>
    rw [jn_snoc, List.length_append]
    have := jstep_len (jn xs) x
    simp only [List.length_singleton]
    omega
theorem sumD_append (a b : List St0) : sumD (a ++ b) = sumD a + sumD b := by unfold sumD; rw [List.map_append, List.sum_append]
theorem sumD_one (r : St0) : sumD [r] = r.1 := by unfold sumD; simp
theorem snoc_of {α : Type} {xs : List α} {l : α} (h : xs.getLast? = some l) : xs = xs.dropLast ++ [l] := by
  rw [List.getLast?_eq_some_iff] at h
  obtain ⟨ys, rfl⟩ := h
  rw [List.dropLast_concat]
theorem jstep_sum (acc : List St0) (r : St0) : sumD (jstep acc r) = sumD acc + r.1 := by
  unfold jstep
  split
  · rename_i l e
    split
    · have e2 := congrArg sumD (snoc_of e)
      rw [sumD_append, sumD_one] at e2 ⊢
      omega
    · rw [sumD_append, sumD_one]
  · rename_i e
    rw [List.getLast?_eq_none_iff] at e
    subst e
    rw [sumD_one]
    simp [sumD]
theorem jn_sum (rows : List St0) : sumD (jn rows) = sumD rows := by
  induction rows using snoc_ind with
  | h0 => rfl
  | h1 xs x ih => rw [jn_snoc, jstep_sum, ih, sumD_append, sumD_one]
theorem atI_last {α : Type} {xs : List α} {l : α} (h : xs.getLast? = some l) : atI xs (-1) = some l := by
  have e := snoc_of h
  unfold atI ixN
  have hl : xs.length = xs.dropLast.length + 1 := by rw [e]; simp
  rw [if_neg (by omega), if_pos (by omega)]
  show xs[((-1 : Int) + xs.length).toNat]? = some l
  have : ((-1 : Int) + xs.length).toNat = xs.dropLast.length := by omega
  rw [this, e, List.dropLast_concat, List.getElem?_append_right (Nat.le_refl _)]
  simp
theorem set_last {α : Type} {xs : List α} {l y : α} (h : xs.getLast? = some l) : xs.set (xs.length - 1) y = xs.dropLast ++ [y] := by
  have e := snoc_of h
  rw [e, List.dropLast_concat, List.length_append, List.length_singleton, Nat.add_sub_cancel, List.set_append_right _ _ (Nat.le_refl _), Nat.sub_self]
  rfl
theorem getLast_map {α β : Type} {f : α → β} {xs : List α} {l : α} (h : xs.getLast? = some l) : (xs.map f).getLast? = some (f l) := by rw [List.getLast?_map, h]; rfl
theorem ixN_last {n : Nat} (h : 0 < n) : ixN n (-1) = some (n - 1) := by
  unfold ixN
  rw [if_neg (by omega), if_pos (by omega)]
  congr 1
  omega
theorem jn_spec {rows : List St0} (hl : rows.length ≤ 1000) {P : D → Prop} {P2 : Exn → Prop} (h : P (.lst ((jn rows).map fS))) : w_join_neighbours [.lst (rows.map fS)] P P2 := by
  unfold w_join_neighbours wpB b_join_neighbours
  repeat' (first | infer_instance | (with_reducible refine w_seq ?_) | fail)
  · simp only [List.length_nil]; decide
  refine w_forP fS rows (fun pre δ => ∃ o2 o3, δ = [some (.d (.lst (rows.map fS))), some (.own none ((jn pre).map fS)), o2, o3]) rfl ?_ ?_ ⟨_, _, rfl⟩
  · rintro δ ⟨o2, o3, rfl⟩
    repeat' (first | infer_instance | (with_reducible refine w_seq ?_) | fail)
    exact h
  · rintro pre r post δ k e ⟨o2, o3, rfl⟩ hk
    have hpl : pre.length < rows.length := by rw [e]; simp
    have hjl := jn_len pre
    have hz : szl = 16777216 := rfl
    obtain ⟨x, hr, hx⟩ := rowS.row r
    have fin : ∀ o2 o3, k [some (.d (.lst (rows.map fS))), some (.own none ((jstep (jn pre) r).map fS)), o2, o3] := fun o2 o3 => hk _ ⟨o2, o3, by rw [jn_snoc]⟩
    refine g_seqI (ds := [.int r.1, .tup (r.2.map .int)]) rfl rfl ?_
    repeat' (first | infer_instance | (with_reducible refine w_seq ?_) | fail)
    cases hg : (jn pre).getLast? with
    | none =>
      have hn := List.getLast?_eq_none_iff.mp hg
      have hs : jstep (jn pre) r = [r] := by unfold jstep; rw [hg]
      rw [hn, List.map_nil]
      refine k_truLn ?_
      repeat' (first | infer_instance | (with_reducible refine w_seq ?_) | fail)
      all_goals first
        | (simp only [List.length_cons, List.length_nil]; decide)
        | skip
      have := fin (some (.d (.int r.1))) (some (.d (.tup (r.2.map .int))))
      rw [hs] at this
      exact this
    | some l =>
      have hgm := getLast_map (f := fS) hg
      refine k_truLc (fun z => by rw [List.map_eq_nil_iff] at z; rw [z] at hg; cases hg) ?_
      have hlen : 0 < (jn pre).length := by
        cases hj : jn pre with
        | nil => rw [hj] at hg; cases hg
        | cons a b => simp
      repeat' (first | infer_instance | (with_reducible refine w_seq ?_) | (with_reducible refine o_ixL (atI_last hgm) ?_) | fail)
      refine o_ixT (d := .tup (l.2.map .int)) rfl ?_
      repeat' (first | infer_instance | (with_reducible refine w_seq ?_) | (with_reducible refine o_eqTI ?_) | fail)
      · have hs : jstep (jn pre) r = (jn pre).dropLast ++ [(l.1 + r.1, r.2)] := by unfold jstep; rw [hg]; simp only; rw [if_pos c]
        repeat' (first | infer_instance | (with_reducible refine w_seq ?_) | (with_reducible refine o_ixL (atI_last hgm) ?_) | fail)
        refine o_ixT (d := .int l.1) rfl ?_
        repeat' (first | infer_instance | (with_reducible refine w_seq ?_) | fail)
        · simp only [List.length_cons, List.length_nil]; decide
        refine o_set (n := (jn pre).length - 1) (by rw [List.length_map]; exact ixN_last hlen) ?_
        have := fin (some (.d (.int r.1))) (some (.d (.tup (r.2.map .int))))
        rw [hs, ← set_last (y := (l.1 + r.1, r.2)) hg, List.map_set] at this
        exact this
      · simp only [List.length_cons, List.length_nil]; decide
      · rw [List.length_map]; omega
      · have hs : jstep (jn pre) r = jn pre ++ [r] := by unfold jstep; rw [hg]; simp only; rw [if_neg c]
        have := fin (some (.d (.int r.1))) (some (.d (.tup (r.2.map .int))))
        rw [hs, List.map_append] at this
        exact this
abbrev bkF (rows : List St0) : List D := [.tup ((jn rows).map fS), .int (sumD rows)]
abbrev bk (rows : List St0) : D := .obj 1 (bkF rows)
theorem book_init {ψ : St0 → D} (hψ : RowF ψ) {d : D} {rows : List St0} (hd : itemsD d = some (rows.map ψ)) {P : List D → Prop} {P2 : Exn → Prop} (h1 : bflt rows = none → P (bkF rows)) (h2 : ∀ a s, bflt rows = some (a, s) → P2 ⟨23, [.int a, .str s]⟩) : i_BookU_initU [d] P P2 := by
  unfold i_BookU_initU wpI
  intro a
  unfold b_BookU_initU
  with_reducible refine w_seq ?_
  repeat' (first | infer_instance | (with_reducible refine chks_spec hψ hd (fun hb => ?_) h2) | fail)
  have hlen : rows.length ≤ 400 := by
    by_cases c : 400 < rows.length
    · rw [bflt1 c] at hb; cases hb
    · omega
  have hz : szl = 16777216 := rfl
  have hjl := jn_len rows
  with_reducible refine w_seq ?_
  repeat' (first | infer_instance | (with_reducible refine l_items hd ?_) | fail)
  refine w_lcM ψ rows fS rfl (by omega) ?_ ?_
  · intro r hr K hK
    obtain ⟨x, hr, hx⟩ := hψ.row r
    refine g_seqI hr rfl ?_
    repeat' (first | infer_instance | (with_reducible refine o_tupI hx ?_) | fail)
    · simp only [List.length_cons, List.length_nil]; decide
    · exact hK
  repeat' (first | infer_instance | (with_reducible refine jn_spec (by omega) ?_) | fail)
  refine w_lcM fS (jn rows) (fun r => D.int r.1) rfl (by omega) ?_ ?_
  · intro r hr K hK
    refine g_seqI (ds := [.int r.1, .tup (r.2.map .int)]) rfl rfl ?_
    repeat' (first | infer_instance | fail)
    exact hK
  repeat' (first | infer_instance | fail)
  have em : (jn rows).map (fun r => D.int r.1) = ((jn rows).map (·.1)).map D.int := by rw [List.map_map]; rfl
  rw [em]
  refine o_sumI rfl ?_
  repeat' (first | infer_instance | fail)
  have es : ((jn rows).map (·.1)).sum = sumD rows := jn_sum rows
  rw [es]
  exact ⟨rfl, rfl, rfl, h1 hb⟩
/-! ### _law_joined -/
def isSt (rows : List St0) (k : Nat) : Bool := decide (k = 0) || decide ((rows.map (·.2))[k - 1]? ≠ (rows.map (·.2))[k]?)
def strt (rows : List St0) : List Nat := (List.range rows.length).filter (isSt rows)
theorem mem_strt {rows : List St0} {k : Nat} : k ∈ strt rows ↔ k < rows.length ∧ isSt rows k = true := by
  unfold strt
  rw [List.mem_filter, List.mem_range]
theorem strt_sorted (rows : List St0) : (strt rows).Pairwise (· < ·) := List.Pairwise.filter _ List.pairwise_lt_range
theorem strt_zero {rows : List St0} (h : 0 < rows.length) : ∃ rest, strt rows = 0 :: rest := by
  unfold strt
  obtain ⟨n, hn⟩ : ∃ n, rows.length = n + 1 := ⟨rows.length - 1, by omega⟩
  rw [hn, List.range_succ_eq_map]
  exact ⟨_, List.filter_cons_of_pos rfl⟩
def ends (rows : List St0) : List Nat := (strt rows).drop 1 ++ [rows.length]
theorem ends_get {rows : List St0} {k : Nat} (h : k < (strt rows).length) : ∃ e, (ends rows)[k]? = some e ∧ (strt rows)[k] < e ∧ e ≤ rows.length ∧ (∀ j, (strt rows)[k] < j → j < e → isSt rows j = false) ∧ (k + 1 < (strt rows).length → (strt rows)[k + 1]? = some e) ∧ (¬ k + 1 < (strt rows).length → e = rows.length) := by
  have hs := List.pairwise_iff_getElem.mp (strt_sorted rows)
  have hm := mem_strt.mp (List.getElem_mem h)
  have key : ∀ j, (strt rows)[k] < j → j < rows.length → isSt rows j = true → ∃ (i : Nat) (hi : i < (strt rows).length), k < i ∧ (strt rows)[i] = j := by
    intro j h1 h2 h3
    obtain ⟨i, hi, e⟩ := List.getElem_of_mem (mem_strt.mpr ⟨h2, h3⟩)
    refine ⟨i, hi, ?_, e⟩
    rcases Nat.lt_trichotomy k i with c | c | c
    · exact c
    · subst c; omega
    · have := hs i k hi h c
      omega
  unfold ends
  by_cases c : k + 1 < (strt rows).length
  · refine ⟨(strt rows)[k + 1], ?_, hs k (k + 1) h c (by omega), ?_, ?_, fun _ => List.getElem?_eq_getElem c, fun z => absurd c z⟩
    · rw [List.getElem?_append_left (by rw [List.length_drop]; omega), List.getElem?_drop, Nat.add_comm, List.getElem?_eq_getElem c]
    · exact Nat.le_of_lt (mem_strt.mp (List.getElem_mem c)).1
    · intro j h1 h2
      cases e : isSt rows j with
      | false => rfl
      | true =>
        obtain ⟨i, hi, hki, ei⟩ := key j h1 (by have := (mem_strt.mp (List.getElem_mem c)).1; omega) e
        rcases Nat.lt_or_eq_of_le (show k + 1 ≤ i from hki) with z | z
        · have := hs (k + 1) i c hi z
          omega
        · subst z; omega
  · refine ⟨rows.length, ?_, hm.1, Nat.le_refl _, ?_, fun z => absurd z c, fun _ => rfl⟩
    · rw [List.getElem?_append_right (by rw [List.length_drop]; omega), List.length_drop]
      have : k - ((strt rows).length - 1) = 0 := by omega
      rw [this]
      rfl
    · intro j h1 h2
      cases e : isSt rows j with
      | false => rfl
      | true =>
        obtain ⟨i, hi, hki, ei⟩ := key j h1 h2 e
        omega
/-- the part of the rows from a to b -/
def cutR (rows : List St0) (a b : Nat) : List St0 := (rows.drop a).take (b - a)
theorem take_cut {rows : List St0} {a b : Nat} (h : a ≤ b) : rows.take b = rows.take a ++ cutR rows a b := by
  unfold cutR
  have : b = a + (b - a) := by omega
  conv => lhs; rw [this]
  rw [List.take_add]
theorem jn_last (rows : List St0) : ((jn rows).getLast?).map (·.2) = (rows.getLast?).map (·.2) := by
  induction rows using snoc_ind with
  | h0 => rfl
  | h1 xs x ih =>
    rw [jn_snoc, List.getLast?_concat]
    unfold jstep
    split
    · split
      · rw [List.getLast?_concat]; rfl
      · rw [List.getLast?_concat]
    · rfl
/-- a piece of equal runners behind others -/
theorem jn_piece (front : List St0) (g : List Int) (hf : (front.getLast?).map (·.2) ≠ some g) : ∀ (piece : List St0), piece ≠ [] → (∀ r ∈ piece, r.2 = g) → jn (front ++ piece) = jn front ++ [(sumD piece, g)] := by
  intro piece
  induction piece using snoc_ind with
  | h0 => intro h; exact absurd rfl h
  | h1 xs x ih =>
    intro _ hg
    have hx : x.2 = g := hg x (by simp)
    rw [← List.append_assoc, jn_snoc]
    by_cases hn : xs = []
    · subst hn
      rw [List.append_nil, List.nil_append, sumD_one]
      have hl := jn_last front
      unfold jstep
      split
      · rename_i l el
        rw [el] at hl
        rw [if_neg (fun z => hf (by rw [← hl]; show some l.2 = _; rw [z, hx]))]
        cases x; simp only at hx; rw [hx]
      · rename_i el
        rw [List.getLast?_eq_none_iff] at el
        rw [el]
        cases x; simp only at hx; rw [hx]; rfl
    · rw [ih hn fun r hr => hg r (by simp [hr])]
      unfold jstep
      rw [List.getLast?_concat]
      simp only
      rw [if_pos hx.symm, List.dropLast_concat, sumD_append, sumD_one, hx]
theorem jn_step {rows : List St0} {a b : Nat} (hab : a < b) (hb : b ≤ rows.length) (ha : isSt rows a = true) (hn : ∀ j, a < j → j < b → isSt rows j = false) : ∃ r0, rows[a]? = some r0 ∧ jn (rows.take b) = jn (rows.take a) ++ [(sumD (cutR rows a b), r0.2)] ∧ (cutR rows a b)[0]? = some r0 := by
  have hal : a < rows.length := by omega
  have hc0 : (cutR rows a b)[0]? = some rows[a] := by
    unfold cutR
    rw [List.getElem?_take_of_lt (by omega), List.getElem?_drop, Nat.add_zero, List.getElem?_eq_getElem hal]
  refine ⟨rows[a], List.getElem?_eq_getElem hal, ?_, hc0⟩
  rw [take_cut (Nat.le_of_lt hab)]
  refine jn_piece _ _ ?_ _ (fun z => by rw [z] at hc0; cases hc0) ?_
  · intro z
    by_cases h0 : a = 0
    · subst h0
      rw [List.take_zero] at z
      cases z
    · unfold isSt at ha
      rw [decide_eq_false h0, Bool.false_or, decide_eq_true_eq] at ha
      apply ha
      have e1 : (rows.take a).getLast? = rows[a - 1]? := by
        rw [List.getLast?_eq_getElem?, List.length_take, Nat.min_eq_left (by omega), List.getElem?_take_of_lt (by omega)]
      rw [e1] at z
      rw [List.getElem?_map, List.getElem?_map, z, List.getElem?_eq_getElem hal]
      rfl
  · have all : ∀ (n : Nat), a + n < b → ∀ r, rows[a + n]? = some r → r.2 = rows[a].2 := by
      intro n
      induction n with
      | zero =>
        intro _ r hr
        rw [Nat.add_zero, List.getElem?_eq_getElem hal] at hr
        cases hr
        rfl
      | succ n ih =>
        intro hlt r hr
        have h1 := hn (a + (n + 1)) (by omega) hlt
        unfold isSt at h1
        rw [Bool.or_eq_false_iff] at h1
        have h2 := of_decide_eq_false h1.2
        rw [Decidable.not_not] at h2
        have e1 : a + (n + 1) - 1 = a + n := by omega
        rw [e1, List.getElem?_map, List.getElem?_map, hr] at h2
        have hl : a + n < rows.length := by omega
        have := ih (by omega) _ (List.getElem?_eq_getElem hl)
        rw [List.getElem?_eq_getElem hl] at h2
        have h3 : rows[a + n].2 = r.2 := Option.some.inj h2
        rw [← h3, this]
    intro r hr
    unfold cutR at hr
    obtain ⟨i, hi, e⟩ := List.getElem_of_mem hr
    rw [List.length_take] at hi
    have hi2 : i < b - a := by omega
    have : rows[a + i]? = some r := by
      rw [← e, List.getElem_take, List.getElem_drop, List.getElem?_eq_getElem (by omega)]
    exact all i (by omega) r this
theorem atI_map0 {α : Type} {φ : α → D} {xs : List α} {i : Nat} {x : α} {j : Int} (e : xs[i]? = some x) (hj : j = i) : atI (xs.map φ) j = some (φ x) := by
  subst hj
  obtain ⟨h, e⟩ := List.getElem?_eq_some_iff.mp e
  unfold atI
  rw [ixN_nat (by omega) (by rw [List.length_map]; omega)]
  show (xs.map φ)[((i : Nat) : Int).toNat]? = _
  rw [Int.toNat_natCast, List.getElem?_map, List.getElem?_eq_getElem h, e]
  rfl
theorem joined_spec {rows : List St0} (hl : rows.length ≤ 1000) {P : D → Prop} {P2 : Exn → Prop} (h : P (.lst ((jn rows).map fS))) : w__law_joined [.lst (rows.map fS)] P P2 := by
  have hz : szl = 16777216 := rfl
  have hsl : (strt rows).length ≤ rows.length := by
    unfold strt
    have := List.length_filter_le (isSt rows) (List.range rows.length)
    rw [List.length_range] at this
    exact this
  unfold w__law_joined wpB b__law_joined
  with_reducible refine w_seq ?_
  repeat' (first | infer_instance | fail)
  · rw [List.length_map]; unfold b62; omega
  rw [List.length_map]
  refine w_lcT (fun (i : Nat) => D.int (0 + i)) (List.range rows.length) (fun i => if isSt rows i = true then some (.int (0 + (i : Int))) else none) (rangeD_map _ _) (by rw [List.length_range]; omega) ?_ ?_
  · intro i hi K hK
    have hi' : i < rows.length := List.mem_range.mp hi
    have e1 := atI_map0 (φ := fS) (j := 0 + (i : Int)) (List.getElem?_eq_getElem hi') (by omega)
    have hK1 : isSt rows i = true → K (some (.int (0 + (i : Int)))) := fun z => by rw [if_pos z] at hK; exact hK
    have hK2 : isSt rows i = false → K none := fun z => by rw [if_neg (by rw [z]; decide)] at hK; exact hK
    repeat' (first | infer_instance | fail)
    · exact hK1 (by unfold isSt; rw [decide_eq_true (by omega)]; rfl)
    · have hi0 : i ≠ 0 := by omega
      have e2 := atI_map0 (φ := fS) (j := 0 + (i : Int) - 1) (List.getElem?_eq_getElem (show i - 1 < rows.length by omega)) (by omega)
      refine o_ixL e2 ?_
      repeat' (first | infer_instance | fail)
      refine o_ixT (d := .tup (rows[i - 1].2.map .int)) rfl ?_
      repeat' (first | infer_instance | (with_reducible refine o_ixL e1 ?_) | fail)
      refine o_ixT (d := .tup (rows[i].2.map .int)) rfl ?_
      have es : isSt rows i = decide (rows[i - 1].2 ≠ rows[i].2) := by
        unfold isSt
        rw [decide_eq_false hi0, Bool.false_or, List.getElem?_map, List.getElem?_map, List.getElem?_eq_getElem hi', List.getElem?_eq_getElem (show i - 1 < rows.length by omega)]
        exact decide_eq_decide.mpr ⟨fun z w => z (by simp only [Option.map_some, w]), fun z w => z (Option.some.inj w)⟩
      repeat' (first | infer_instance | (with_reducible refine o_neTI ?_) | fail)
      · exact hK1 (by rw [es]; exact decide_eq_true c)
      · exact hK2 (by rw [es]; exact decide_eq_false (fun z => z c))
  have ef : (List.range rows.length).filterMap (fun i => if isSt rows i = true then some (D.int (0 + (i : Int))) else none) = ((strt rows).map Int.ofNat).map D.int := by
    unfold strt
    generalize List.range rows.length = l
    induction l with
    | nil => rfl
    | cons a l ih =>
      by_cases z : isSt rows a = true
      · rw [List.filterMap_cons_some (by rw [if_pos z]), List.filter_cons_of_pos z, ih]
        simp
      · rw [List.filterMap_cons_none (by rw [if_neg z]), List.filter_cons_of_neg z, ih]
  rw [ef]
  with_reducible refine w_seq ?_
  have hend : ((strt rows).map Int.ofNat).drop 1 ++ [(rows.length : Int)] = (ends rows).map Int.ofNat := by
    unfold ends
    rw [List.map_append, List.map_drop]
    rfl
  have hel : (ends rows).length ≤ rows.length + 1 := by
    unfold ends
    rw [List.length_append, List.length_drop, List.length_singleton]
    omega
  repeat' (first | infer_instance | (with_reducible refine o_slF ?_ ?_) | fail)
  · decide
  · simp only [List.length_cons, List.length_nil]; decide
  rw [List.length_map]
  refine o_catI (by rw [List.length_drop, List.length_map]; omega) ?_
  rw [show (1 : Int).toNat = 1 from rfl, hend]
  with_reducible refine w_seq ?_
  repeat' (first | infer_instance | fail)
  · simp only [List.length_nil]; decide
  with_reducible refine w_seq ?_
  repeat' (first | infer_instance | fail)
  · rw [List.length_map, List.length_map]; unfold b62; omega
  rw [List.length_map, List.length_map]
  have init : ∀ o2 o5 o6 : Option S, (∃ o2' o5' o6' : Option S, [some (S.d (.lst (rows.map fS))), some (S.d (.lst (((strt rows).map Int.ofNat).map .int))), o2, some (S.d (.lst (((ends rows).map Int.ofNat).map .int))), some (S.own none []), o5, o6] = [some (S.d (.lst (rows.map fS))), some (S.d (.lst (((strt rows).map Int.ofNat).map .int))), o2', some (S.d (.lst (((ends rows).map Int.ofNat).map .int))), some (S.own none ((jn (rows.take (((strt rows) ++ [rows.length]).getD 0 0))).map fS)), o5', o6']) := by
    intro o2 o5 o6
    have e0 : ((strt rows) ++ [rows.length]).getD 0 0 = 0 := by
      by_cases h0 : rows = []
      · subst h0; rfl
      · obtain ⟨rest, hst⟩ := strt_zero (List.length_pos_iff.mpr h0)
        rw [hst]
        rfl
    rw [e0, List.take_zero]
    exact ⟨o2, o5, o6, rfl⟩
  refine w_forP (fun (i : Nat) => D.int (0 + i)) (List.range (strt rows).length) (fun pre δ => ∃ o2 o5 o6, δ = [some (.d (.lst (rows.map fS))), some (.d (.lst (((strt rows).map Int.ofNat).map .int))), o2, some (.d (.lst (((ends rows).map Int.ofNat).map .int))), some (.own none ((jn (rows.take (((strt rows) ++ [rows.length]).getD pre.length 0))).map fS)), o5, o6]) (rangeD_map _ _) ?_ ?_ (init _ _ _)
  · rintro δ ⟨o2, o5, o6, rfl⟩
    repeat' (first | infer_instance | (with_reducible refine w_seq ?_) | fail)
    have : ((strt rows) ++ [rows.length]).getD (List.range (strt rows).length).length 0 = rows.length := by
      rw [List.length_range, List.getD_eq_getElem?_getD, List.getElem?_append_right (Nat.le_refl _)]
      simp
    rw [this, List.take_length]
    exact h
  · rintro pre x post δ k e ⟨o2, o5, o6, rfl⟩ hk
    have hxe : x = pre.length := by
      have h1 : (List.range (strt rows).length)[pre.length]? = some x := by rw [e]; simp
      rw [List.getElem?_range (by have := congrArg List.length e; simp at this; omega)] at h1
      exact (Option.some.inj h1).symm
    have hx : x < (strt rows).length := List.mem_range.mp (by rw [e]; simp)
    have hm := mem_strt.mp (List.getElem_mem hx)
    obtain ⟨en, he, hlt, hle, hno, hnx, hend'⟩ := ends_get hx
    obtain ⟨r0, hr0, hj, hc0⟩ := jn_step hlt hle hm.2 hno
    have g1 : ((strt rows) ++ [rows.length]).getD pre.length 0 = (strt rows)[x] := by
      rw [← hxe, List.getD_eq_getElem?_getD, List.getElem?_append_left hx, List.getElem?_eq_getElem hx]
      rfl
    have g2 : ((strt rows) ++ [rows.length]).getD (pre ++ [x]).length 0 = en := by
      rw [List.length_append, List.length_singleton, ← hxe, List.getD_eq_getElem?_getD]
      by_cases c : x + 1 < (strt rows).length
      · rw [List.getElem?_append_left c, hnx c]
        rfl
      · rw [List.getElem?_append_right (by omega), hend' c]
        have : x + 1 - (strt rows).length = 0 := by omega
        rw [this]
        rfl
    have a1 : atI (((strt rows).map Int.ofNat).map D.int) (0 + (x : Int)) = some (.int ((strt rows)[x] : Nat)) := atI_map0 (i := x) (by rw [List.getElem?_map, List.getElem?_eq_getElem hx]; rfl) (by omega)
    have a2 : atI (((ends rows).map Int.ofNat).map D.int) (0 + (x : Int)) = some (.int (en : Nat)) := atI_map0 (i := x) (by rw [List.getElem?_map, he]; rfl) (by omega)
    rw [g1]
    repeat' (first | infer_instance | (with_reducible refine w_seq ?_) | (with_reducible refine o_ixL a1 ?_) | (with_reducible refine o_ixL a2 ?_) | (with_reducible refine o_slM ?_ ?_ ?_ ?_ ?_) | fail)
    all_goals first
      | omega
      | skip
    have ec : (rows.drop (((strt rows)[x] : Nat) : Int).toNat).take ((en : Int).toNat - (((strt rows)[x] : Nat) : Int).toNat) = cutR rows (strt rows)[x] en := by
      rw [Int.toNat_natCast, Int.toNat_natCast]
      rfl
    rw [ec]
    have hcl : (cutR rows (strt rows)[x] en).length ≤ rows.length := by
      unfold cutR
      rw [List.length_take, List.length_drop]
      omega
    refine w_lcM fS (cutR rows (strt rows)[x] en) (fun r => D.int r.1) rfl (by omega) (fun r hr K hK => ?_) ?_
    · repeat' (first | infer_instance | fail)
      refine o_ixT (d := .int r.1) rfl ?_
      exact hK
    have em : (cutR rows (strt rows)[x] en).map (fun r => D.int r.1) = ((cutR rows (strt rows)[x] en).map (·.1)).map D.int := by rw [List.map_map]; rfl
    have hc1 := atI_map0 (φ := fS) (j := 0) hc0 rfl
    rw [em]
    repeat' (first | infer_instance | (with_reducible refine w_seq ?_) | (with_reducible refine o_sumI rfl ?_) | (with_reducible refine o_ixL hc1 ?_) | fail)
    refine o_ixT (d := .tup (r0.2.map .int)) rfl ?_
    have hjl := jn_len (rows.take (strt rows)[x])
    rw [List.length_take] at hjl
    repeat' (first | infer_instance | (with_reducible refine w_seq ?_) | fail)
    · simp only [List.length_cons, List.length_nil]; decide
    · rw [List.length_map]; omega
    have fin := fun o2 o5 o6 => hk _ ⟨o2, o5, o6, rfl⟩
    rw [g2, hj, List.map_append] at fin
    exact fin _ _ _
/-! ### _law_is_book -/
def GL (rows : List St0) : Prop := ∀ r ∈ rows, r.2.length ≤ 100
theorem okS_fS {n : Nat} {r : St0} (h : r.2.length ≤ 100) : okS (n + 3) (fS r) := by
  refine ⟨by simp only [List.length_cons, List.length_nil]; decide, fun d hd => ?_⟩
  simp only [List.mem_cons, List.not_mem_nil, or_false] at hd
  rcases hd with rfl | rfl
  · trivial
  · refine ⟨?_, okS_ints r.2⟩
    rw [List.length_map]
    have : szl = 16777216 := rfl
    omega
theorem okS_rows {n : Nat} {rows : List St0} (hl : rows.length ≤ 1000) (h : GL rows) : (rows.map fS).length ≤ szl ∧ ∀ d ∈ rows.map fS, okS (n + 3) d := by
  refine ⟨by rw [List.length_map]; have : szl = 16777216 := rfl; omega, fun d hd => ?_⟩
  obtain ⟨r, hr, rfl⟩ := List.mem_map.mp hd
  exact okS_fS (h r hr)
theorem jstep_mem {acc : List St0} {r x : St0} (h : x ∈ jstep acc r) : x ∈ acc ∨ x.2 = r.2 := by
  unfold jstep at h
  split at h
  · split at h
    · rcases List.mem_append.mp h with h | h
      · exact .inl (List.dropLast_subset _ h)
      · simp only [List.mem_singleton] at h
        subst h
        exact .inr rfl
    · rcases List.mem_append.mp h with h | h
      · exact .inl h
      · simp only [List.mem_singleton] at h
        subst h
        exact .inr rfl
  · simp only [List.mem_singleton] at h
    subst h
    exact .inr rfl
theorem jn_mem {rows : List St0} {x : St0} (h : x ∈ jn rows) : ∃ r ∈ rows, x.2 = r.2 := by
  induction rows using snoc_ind with
  | h0 => cases h
  | h1 xs y ih =>
    rw [jn_snoc] at h
    rcases jstep_mem h with h | h
    · obtain ⟨r, hr, e⟩ := ih h
      exact ⟨r, List.mem_append_left _ hr, e⟩
    · exact ⟨y, by simp, h⟩
theorem jn_GL {rows : List St0} (h : GL rows) : GL (jn rows) := fun x hx => by
  obtain ⟨r, hr, e⟩ := jn_mem hx
  rw [e]
  exact h r hr
theorem sumRows {rows : List St0} : rows.map (fun r => D.int r.1) = (rows.map (·.1)).map D.int := by rw [List.map_map]; rfl
theorem isbook_spec {rows : List St0} (hl : rows.length ≤ 1000) (hg : GL rows) {P : D → Prop} {P2 : Exn → Prop} (h : P (.bl true)) : w__law_is_book [bk rows, .lst (rows.map fS)] P P2 := by
  have hjl := jn_len rows
  have ok1 : okS 6 (.tup ((jn rows).map fS)) := okS_rows (by omega) (jn_GL hg)
  unfold w__law_is_book wpB b__law_is_book bk bkF
  repeat' (first | infer_instance | (with_reducible refine w_seq ?_) | (with_reducible refine joined_spec hl ?_) | (with_reducible refine same_refl 6 _ ok1 ?_) | fail)
  refine w_lcM fS rows (fun r => D.int r.1) rfl (by have : szl = 16777216 := rfl; omega) (fun r hr K hK => ?_) ?_
  · repeat' (first | infer_instance | fail)
    refine o_ixT (d := .int r.1) rfl ?_
    exact hK
  rw [sumRows]
  repeat' (first | infer_instance | (with_reducible refine o_sumI rfl ?_) | fail)
  refine same_refl 6 (.int (sumD rows)) okS_int ?_
  exact h
/-! ### k06: Book, sums -/
def madeB (rows : List St0) : D := match bflt rows with | some (a, s) => .tup [.int a, .str s] | none => bk rows
theorem add_spec {rows others : List St0} {P : D → Prop} {P2 : Exn → Prop} (h1 : 400 < ((jn rows).length + (jn others).length : Int) → P2 ⟨23, [.int 400, .str "stretches"]⟩)
    (h2 : ¬ 400 < ((jn rows).length + (jn others).length : Int) → 1000000000000000000000000000000 < sumD rows + sumD others → P2 ⟨23, [.int 0, .str "total"]⟩)
    (h3 : ¬ 400 < ((jn rows).length + (jn others).length : Int) → ¬ 1000000000000000000000000000000 < sumD rows + sumD others → bflt (jn rows ++ jn others) = none ∧ P (bk (jn rows ++ jn others))) : w_BookU_addU [bk rows, bk others] P P2 := by
  unfold w_BookU_addU wpB b_BookU_addU bk bkF
  repeat' (first | infer_instance | (with_reducible refine w_seq ?_) | fail)
  all_goals (try simp only [List.length_map] at *)
  all_goals first
    | rfl
    | (exact fun z => by cases z)
    | exact h1 (by omega)
    | exact h2 (by omega) (by omega)
    | skip
  have hz : szl = 16777216 := rfl
  obtain ⟨hb, hp⟩ := h3 (by omega) (by omega)
  refine o_addT (by omega) ?_
  repeat' (first | infer_instance | (with_reducible refine w_seq ?_) | (with_reducible refine book_init rowS rfl (fun e => ?_) (fun a s e => ?_)) | fail)
  · exact hp
  · rw [hb] at e; cases e
theorem summed_spec {rows others : List St0} {P : D → Prop} {P2 : Exn → Prop} (h1 : 400 < ((jn rows).length + (jn others).length : Int) → P (.tup [.int 400, .str "stretches"]))
    (h2 : ¬ 400 < ((jn rows).length + (jn others).length : Int) → 1000000000000000000000000000000 < sumD rows + sumD others → P (.tup [.int 0, .str "total"]))
    (h3 : ¬ 400 < ((jn rows).length + (jn others).length : Int) → ¬ 1000000000000000000000000000000 < sumD rows + sumD others → bflt (jn rows ++ jn others) = none ∧ P (bk (jn rows ++ jn others))) : w__law_summed [bk rows, bk others] P P2 := by
  unfold w__law_summed wpB b__law_summed
  repeat' (first | infer_instance | (with_reducible refine w_seq ?_) | (with_reducible refine e_addO ?_) | fail)
  refine k_add ?_
  refine add_spec (fun c => ?_) (fun c1 c2 => ?_) h3
  all_goals
    ((with_reducible refine' w_tryEx ?hh (fun a' cls dx => ?_)); (case hh => rfl))
    repeat' (first | infer_instance | fail)
  all_goals first
    | (simp only [List.length_cons, List.length_nil]; decide)
    | exact h1 c
    | exact h2 c1 c2
/-! ### drawn stretches -/
theorem span_spec {g : Int} (h1 : 0 ≤ g) (h2 : g ≤ 1000000000000000000000000000000) {P : D → Prop} {P2 : Exn → Prop} (h : ∀ r : Int, 1 ≤ r → P (.int r)) : w__law_span [.pool, .int g] P P2 := by
  unfold w__law_span wpB b__law_span
  repeat' (first | infer_instance | (with_reducible refine w_seq ?_) | (with_reducible refine great_spec ?_ ?_ (fun r hr0 hr1 => ?_)) | fail)
  all_goals first
    | decide
    | omega
    | (exact h _ (by omega))
theorem code_spec {P : D → Prop} {P2 : Exn → Prop} (h : ∀ r : Int, 0 ≤ r → r < 4096 → P (.int r)) : w__law_code [.pool] P P2 := by
  unfold w__law_code wpB b__law_code
  repeat' (first | infer_instance | (with_reducible refine w_seq ?_) | fail)
  all_goals first
    | decide
    | omega
    | (exact h _ (by omega) (by omega))
theorem ascB_snoc : ∀ (l s i : Int) (g : List Int), ascB l s g = true → (∀ x ∈ g, x < i) → l ≤ i → i < s → ascB l s (g ++ [i]) = true
  | l, s, i, [], _, _, h1, h2 => by
    show (decide (l ≤ i) && (decide (i < s) && true)) = true
    rw [decide_eq_true h1, decide_eq_true h2]
    rfl
  | l, s, i, x :: g, h, hx, h1, h2 => by
    have h' : (decide (l ≤ x) && (decide (x < s) && ascB (x + 1) s g)) = true := h
    rw [Bool.and_eq_true, Bool.and_eq_true] at h'
    show (decide (l ≤ x) && (decide (x < s) && ascB (x + 1) s (g ++ [i]))) = true
    have hxi := hx x List.mem_cons_self
    rw [h'.1, h'.2.1, ascB_snoc (x + 1) s i g h'.2.2 (fun y hy => hx y (List.mem_cons_of_mem _ hy)) (by omega) h2]
    rfl
theorem group_spec {c : Int} (hc : 0 ≤ c) {P : D → Prop} {P2 : Exn → Prop} (h : ∀ g : List Int, ascB 0 12 g = true → g.length ≤ 12 → P (.tup (g.map .int))) : w__law_group [.int c] P P2 := by
  unfold w__law_group wpB b__law_group
  repeat' (first | infer_instance | (with_reducible refine w_seq ?_) | fail)
  · simp only [List.length_nil]; decide
  · unfold b62; omega
  refine w_forP (fun (i : Nat) => D.int (0 + i)) (List.range 12) (fun pre δ => ∃ (g : List Int) (cv : Int) (o2 : Option S), 0 ≤ cv ∧ ascB 0 12 g = true ∧ (∀ x ∈ g, x < pre.length) ∧ g.length ≤ pre.length ∧ δ = [some (.d (.int cv)), some (.own none (g.map .int)), o2]) (rangeD_map _ _) ?_ ?_ ⟨[], c, _, hc, rfl, fun x hx => by simp at hx, Nat.le_refl _, rfl⟩
  · rintro δ ⟨g, cv, o2, h0, h1, h2, h3, rfl⟩
    repeat' (first | infer_instance | (with_reducible refine w_seq ?_) | fail)
    exact h g h1 (by simpa using h3)
  · rintro pre x post δ k e ⟨g, cv, o2, h0, h1, h2, h3, rfl⟩ hk
    have hx : x < 12 := List.mem_range.mp (by rw [e]; simp)
    have hxe : x = pre.length := by
      have h1 : (List.range 12)[pre.length]? = some x := by rw [e]; simp
      rw [List.getElem?_range (by have := congrArg List.length e; simp at this; omega)] at h1
      exact (Option.some.inj h1).symm
    have hz : szl = 16777216 := rfl
    repeat' (first | infer_instance | (with_reducible refine w_seq ?_) | fail)
    all_goals first
      | decide
      | omega
      | skip
    · refine hk _ ⟨g ++ [0 + (x : Int)], cv / 2, _, Int.ediv_nonneg h0 (by decide), ascB_snoc 0 12 _ g h1 (fun y hy => by have := h2 y hy; omega) (by omega) (by omega), ?_, ?_, rfl⟩
      · intro y hy
        rw [List.length_append, List.length_singleton]
        rcases List.mem_append.mp hy with hy | hy
        · have := h2 y hy; omega
        · simp only [List.mem_singleton] at hy; omega
      · rw [List.length_append, List.length_append, List.length_singleton, List.length_singleton]; omega
    · refine hk _ ⟨g, cv / 2, _, Int.ediv_nonneg h0 (by decide), h1, ?_, ?_, rfl⟩
      · intro y hy
        rw [List.length_append, List.length_singleton]
        have := h2 y hy
        omega
      · rw [List.length_append, List.length_singleton]; omega
set_option hygiene false in
local macro_rules | `(tactic| infer_instance) => `(tactic| first | (with_reducible refine span_spec ?_ ?_ (fun sp hsp => ?_)) | (with_reducible refine code_spec (fun cd hcd0 hcd1 => ?_)) | (with_reducible refine group_spec ?_ (fun gr hgr hgl => ?_)))
/-- good stretches, one by one -/
def Good (rows : List St0) : Prop := ∀ r ∈ rows, 1 ≤ r.1 ∧ ascB 0 12 r.2 = true ∧ r.2.length ≤ 12
theorem sumD_nn : ∀ {rows : List St0}, Good rows → (rows.length : Int) ≤ sumD rows
  | [], _ => by simp [sumD]
  | r :: rs, h => by
    have h1 := h r List.mem_cons_self
    have h2 := sumD_nn (rows := rs) fun x hx => h x (List.mem_cons_of_mem _ hx)
    have : sumD (r :: rs) = r.1 + sumD rs := by simp [sumD]
    rw [this, List.length_cons]
    omega
theorem strs_spec {many most : Int} (h1 : 0 ≤ many) (h2 : many ≤ 1000) (h3 : many ≤ most) (h4 : most ≤ 1000000000000000000000000000000) {P : D → Prop} {P2 : Exn → Prop}
    (h : ∀ rows : List St0, (rows.length : Int) = many → Good rows → sumD rows ≤ most → P (.lst (rows.map fS))) : w__law_stretches [.pool, .int many, .int most] P P2 := by
  have hz : szl = 16777216 := rfl
  unfold w__law_stretches wpB b__law_stretches
  repeat' (first | infer_instance | (with_reducible refine w_seq ?_) | fail)
  · simp only [List.length_cons, List.length_nil]; decide
  · simp only [List.length_nil]; decide
  · unfold b62; omega
  rename_i m1 m1a m1b m2 m2a m2b
  refine w_forP (fun (i : Nat) => D.int (0 + i)) (List.range many.toNat) (fun pre δ => ∃ (rows : List St0) (o6 o7 o8 o9 o10 : Option S), rows.length = pre.length ∧ Good rows ∧ sumD rows + (many - pre.length) ≤ most ∧ δ = [some (.d .pool), some (.d (.int many)), some (.d (.int most)), some (.d (.lst ([m1, m2, cd].map .int))), some (.own none (rows.map fS)), some (.d (.int (sumD rows))), o6, o7, o8, o9, o10]) (rangeD_map _ _) ?_ ?_ ⟨[], _, _, _, _, _, rfl, fun r hr => by simp at hr, by simp [sumD]; omega, rfl⟩
  · rintro δ ⟨rows, o6, o7, o8, o9, o10, e1, e2, e3, rfl⟩
    rw [List.length_range] at e1 e3
    repeat' (first | infer_instance | (with_reducible refine w_seq ?_) | fail)
    exact h rows (by omega) e2 (by omega)
  · rintro pre x post δ k e ⟨rows, o6, o7, o8, o9, o10, e1, e2, e3, rfl⟩ hk
    have hx : x < many.toNat := List.mem_range.mp (by rw [e]; simp)
    have hxe : x = pre.length := by
      have h1 : (List.range many.toNat)[pre.length]? = some x := by rw [e]; simp
      rw [List.getElem?_range (by have := congrArg List.length e; simp at this; omega)] at h1
      exact (Option.some.inj h1).symm
    have hs0 := sumD_nn e2
    with_reducible refine g_name ?_
    with_reducible refine w_seq ?_
    repeat' (first | infer_instance | fail)
    · decide
    · decide
    with_reducible refine w_cut (fun δ => ∃ (cv : Int) (o7 : Option S), 0 ≤ cv ∧ δ = [some (.d .pool), some (.d (.int many)), some (.d (.int most)), some (.d (.lst ([m1, m2, cd].map .int))), some (.own none (rows.map fS)), some (.d (.int (sumD rows))), some (.d (.int (0 + (x : Int)))), o7, some (.d (.int cv)), o9, o10]) ?_ (fun k' hk' => ?_)
    · rintro δ ⟨cv, o7, hc, rfl⟩
      repeat' (first | infer_instance | (with_reducible refine w_seq ?_) | fail)
      all_goals first
        | omega
        | (simp only [List.length_cons, List.length_nil]; decide)
        | (rw [List.length_map]; omega)
        | skip
      have fin : ∀ (v : Int), 1 ≤ v → sumD rows + v + (many - (pre.length + 1 : Nat)) ≤ most → ∀ o6 o7 o8 o9 o10 : Option S, k [some (.d .pool), some (.d (.int many)), some (.d (.int most)), some (.d (.lst ([m1, m2, cd].map .int))), some (.own none (rows.map fS ++ [fS (v, gr)])), some (.d (.int (sumD rows + v))), o6, o7, o8, o9, o10] := by
        intro v hv hs o6 o7 o8 o9 o10
        have f := hk _ ⟨rows ++ [(v, gr)], o6, o7, o8, o9, o10, by simp only [List.length_append, List.length_singleton]; omega, fun r hr => by
          rcases List.mem_append.mp hr with hr | hr
          · exact e2 r hr
          · simp only [List.mem_singleton] at hr
            subst hr
            exact ⟨hv, hgr, hgl⟩, by rw [sumD_append, sumD_one, List.length_append, List.length_singleton]; exact hs, rfl⟩
        rw [List.map_append, sumD_append, sumD_one] at f
        exact f
      refine fin (if sp < most - sumD rows - (many - (0 + (x : Int))) + 1 then sp else most - sumD rows - (many - (0 + (x : Int))) + 1) ?_ ?_ _ _ _ _ _
      · split <;> omega
      · split <;> omega
    · repeat' (first | infer_instance | (with_reducible refine o_ixM ?_ ?_ (fun xv hxv => ?_)) | fail)
      all_goals first
        | omega
        | decide
        | skip
      · exact hk' _ ⟨r, _, hr0, rfl⟩
      · simp only [List.length_cons, List.length_nil]; omega
      · refine hk' _ ⟨xv, _, ?_, rfl⟩
        have := List.mem_of_getElem? hxv
        simp only [List.mem_cons, List.not_mem_nil, or_false] at this
        rcases this with rfl | rfl | rfl <;> assumption
/-! ### k06: striped books and their sums -/
theorem sflt_none : ∀ (rows : List St0) (i tot : Int), 0 ≤ tot → Good rows → tot + sumD rows ≤ 1000000000000000000000000000000 → sflt i tot rows = none
  | [], _, _, _, _, _ => rfl
  | r :: rs, i, tot, h0, hg, hs => by
    have h1 := hg r List.mem_cons_self
    have h2 : Good rs := fun x hx => hg x (List.mem_cons_of_mem _ hx)
    have h3 := sumD_nn h2
    have e : sumD (r :: rs) = r.1 + sumD rs := by simp [sumD]
    rw [e] at hs
    rw [sflt4 (by omega) h1.2.1 (by omega)]
    exact sflt_none rs _ _ (by omega) h2 (by omega)
theorem good_bflt {rows : List St0} (hl : rows.length ≤ 400) (hg : Good rows) (hs : sumD rows ≤ 1000000000000000000000000000000) : bflt rows = none := by
  rw [bflt2 (by omega)]
  exact sflt_none rows 0 0 (Int.le_refl _) hg (by omega)
theorem good_GL {rows : List St0} (h : Good rows) : GL rows := fun r hr => by have := (h r hr).2.2; omega
theorem jn_id (rows : List St0) : (∀ i, (h : i + 1 < rows.length) → rows[i].2 ≠ rows[i + 1].2) → jn rows = rows := by
  induction rows using snoc_ind with
  | h0 => intro _; rfl
  | h1 xs x ih =>
    intro h
    have h' := ih fun i hi => by
      have := h i (by rw [List.length_append, List.length_singleton]; omega)
      rw [List.getElem_append_left (by omega), List.getElem_append_left hi] at this
      exact this
    rw [jn_snoc, h']
    unfold jstep
    split
    · rename_i l el
      rw [if_neg]
      intro z
      have hp : 0 < xs.length := by
        cases xs with
        | nil => cases el
        | cons a b => simp
      have := h (xs.length - 1) (by rw [List.length_append, List.length_singleton]; omega)
      rw [List.getElem_append_left (by omega), List.getElem_append_right (by omega)] at this
      rw [List.getLast?_eq_getElem?, List.getElem?_eq_getElem (by omega)] at el
      apply this
      rw [Option.some.inj el, z]
      simp
    · rename_i el
      rw [List.getLast?_eq_none_iff] at el
      rw [el]
      rfl
def strp0 (many way : Int) : List St0 := (List.range many.toNat).map fun (i : Nat) => (1, [((0 + (i : Int)) + way) % 2])
def strp (many total way : Int) : List St0 := (strp0 many way).set 0 (total - many + 1, [(0 + 0 + way) % 2])
theorem strp0_len {many way : Int} : (strp0 many way).length = many.toNat := by unfold strp0; rw [List.length_map, List.length_range]
theorem strp_len {many total way : Int} : (strp many total way).length = many.toNat := by unfold strp; rw [List.length_set, strp0_len]
theorem strp_get {many total way : Int} {i : Nat} (h : i < (strp many total way).length) : (strp many total way)[i] = (if i = 0 then total - many + 1 else 1, [((0 + (i : Int)) + way) % 2]) := by
  simp only [strp, strp0, List.getElem_set, List.getElem_map, List.getElem_range]
  by_cases c : i = 0
  · subst c; simp
  · rw [if_neg (fun z => c z.symm), if_neg c]
theorem strp_jn {many total way : Int} : jn (strp many total way) = strp many total way := by
  refine jn_id _ fun i hi z => ?_
  rw [strp_get (by omega), strp_get hi] at z
  simp only [List.cons.injEq, and_true] at z
  omega
theorem strp_good {many total way : Int} (h : many ≤ total) : Good (strp many total way) := fun r hr => by
  obtain ⟨i, hi, rfl⟩ := List.getElem_of_mem hr
  rw [strp_get hi]
  refine ⟨?_, ?_, by simp⟩
  · simp only
    split <;> omega
  · show (decide ((0 : Int) ≤ (0 + (i : Int) + way) % 2) && (decide ((0 + (i : Int) + way) % 2 < 12) && true)) = true
    rw [decide_eq_true (by omega), decide_eq_true (by omega)]
    rfl
theorem sumD_ones (f : Nat → List Int) : ∀ n : Nat, sumD ((List.range n).map fun i => ((1 : Int), f i)) = n
  | 0 => rfl
  | n + 1 => by
    rw [List.range_succ, List.map_append, sumD_append, sumD_ones f n]
    simp [sumD]
theorem strp_sum {many total way : Int} (h : 0 < many) : sumD (strp many total way) = total := by
  have key : ∀ (xs : List St0) (y : St0) (hp : 0 < xs.length), sumD (xs.set 0 y) = sumD xs - xs[0].1 + y.1 := by
    intro xs y hp
    cases xs with
    | nil => simp at hp
    | cons a b =>
      simp [sumD]
      omega
  unfold strp
  have hp : 0 < (strp0 many way).length := by rw [strp0_len]; omega
  rw [key _ _ hp]
  have e1 : sumD (strp0 many way) = many := by
    unfold strp0
    rw [sumD_ones]
    omega
  have e2 : (strp0 many way)[0].1 = 1 := by simp [strp0]
  rw [e1, e2]
  simp only
  omega
theorem strp_sum0 {total way : Int} : strp 0 total way = [] := rfl
/-! ### k06: sums, bent rows, the law -/
theorem good_app {a b : List St0} (h1 : Good a) (h2 : Good b) : Good (a ++ b) := fun r hr => by
  rcases List.mem_append.mp hr with hr | hr
  · exact h1 r hr
  · exact h2 r hr
theorem okStr1 : okS 6 (.tup [.int 400, .str "stretches"]) := by
  refine ⟨by simp only [List.length_cons, List.length_nil]; decide, fun d hd => ?_⟩
  simp only [List.mem_cons, List.not_mem_nil, or_false] at hd
  rcases hd with rfl | rfl
  · trivial
  · show PyData.strOk _ = true
    decide +kernel
theorem okStr2 : okS 6 (.tup [.int 0, .str "total"]) := by
  refine ⟨by simp only [List.length_cons, List.length_nil]; decide, fun d hd => ?_⟩
  simp only [List.mem_cons, List.not_mem_nil, or_false] at hd
  rcases hd with rfl | rfl
  · trivial
  · show PyData.strOk _ = true
    decide +kernel
theorem sums_tail {many more total rest w2 : Int} (g1 : 0 ≤ many) (g2 : many ≤ 400) (g3 : 0 ≤ more) (g4 : more ≤ 400) (g5 : many ≤ total) (g6 : total ≤ 1000000000000000000000000000000) (g7 : more ≤ rest) (g8 : rest ≤ 1000000000000000000000000000000) :
    Good (strp many total 0) ∧ Good (strp more rest w2) ∧ bflt (strp many total 0) = none ∧ bflt (strp more rest w2) = none := by
  have a := strp_good (way := 0) g5
  have b := strp_good (way := w2) g7
  refine ⟨a, b, good_bflt (by rw [strp_len]; omega) a ?_, good_bflt (by rw [strp_len]; omega) b ?_⟩
  · by_cases c : 0 < many
    · rw [strp_sum c]; exact g6
    · have : many = 0 := by omega
      subst this
      rw [strp_sum0]
      decide
  · by_cases c : 0 < more
    · rw [strp_sum c]; exact g8
    · have : more = 0 := by omega
      subst this
      rw [strp_sum0]
      decide
/-! ### cutting books -/
def hstep (s : List St0 × Int) (r : St0) : List St0 × Int := (if 0 < s.2 then s.1 ++ [(if s.2 < r.1 then s.2 else r.1, r.2)] else s.1, s.2 - r.1)
def tstep (s : List St0 × Int) (r : St0) : List St0 × Int := (if s.2 < r.1 then s.1 ++ [(r.1 - (if s.2 > 0 then s.2 else 0), r.2)] else s.1, s.2 - r.1)
def hd (k : Int) (rows : List St0) : List St0 := (rows.foldl hstep ([], k)).1
def tl (k : Int) (rows : List St0) : List St0 := (rows.foldl tstep ([], k)).1
theorem hd2 (k : Int) (rows : List St0) : (rows.foldl hstep ([], k)).2 = k - sumD rows := by
  induction rows using snoc_ind with
  | h0 => simp [sumD]
  | h1 xs r ih => rw [List.foldl_append, sumD_append]; show (xs.foldl hstep ([], k)).2 - r.1 = _; rw [ih]; simp [sumD]; omega
theorem tl2 (k : Int) (rows : List St0) : (rows.foldl tstep ([], k)).2 = k - sumD rows := by
  induction rows using snoc_ind with
  | h0 => simp [sumD]
  | h1 xs r ih => rw [List.foldl_append, sumD_append]; show (xs.foldl tstep ([], k)).2 - r.1 = _; rw [ih]; simp [sumD]; omega
theorem hd_snoc (k : Int) (rows : List St0) (r : St0) : hd k (rows ++ [r]) = if 0 < k - sumD rows then hd k rows ++ [(if k - sumD rows < r.1 then k - sumD rows else r.1, r.2)] else hd k rows := by
  unfold hd
  rw [List.foldl_append, ← hd2]
  rfl
theorem tl_snoc (k : Int) (rows : List St0) (r : St0) : tl k (rows ++ [r]) = if k - sumD rows < r.1 then tl k rows ++ [(r.1 - (if k - sumD rows > 0 then k - sumD rows else 0), r.2)] else tl k rows := by
  unfold tl
  rw [List.foldl_append, ← tl2]
  rfl
theorem Good.init {rows : List St0} {r : St0} (h : Good (rows ++ [r])) : Good rows ∧ 1 ≤ r.1 := ⟨fun x hx => h x (List.mem_append_left _ hx), (h r (by simp)).1⟩
theorem hd_all {k : Int} {rows : List St0} (hg : Good rows) (h : sumD rows ≤ k) : hd k rows = rows := by
  induction rows using snoc_ind with
  | h0 => rfl
  | h1 xs r ih =>
    obtain ⟨g, hr⟩ := hg.init
    have es : sumD (xs ++ [r]) = sumD xs + r.1 := by rw [sumD_append]; simp [sumD]
    rw [es] at h
    rw [hd_snoc, if_pos (by omega), ih g (by omega)]
    by_cases c : k - sumD xs < r.1
    · omega
    · rw [if_neg c]
theorem tl_all {k : Int} {rows : List St0} (hg : Good rows) (h : sumD rows ≤ k) : tl k rows = [] := by
  induction rows using snoc_ind with
  | h0 => rfl
  | h1 xs r ih =>
    obtain ⟨g, hr⟩ := hg.init
    have es : sumD (xs ++ [r]) = sumD xs + r.1 := by rw [sumD_append]; simp [sumD]
    rw [es] at h
    rw [tl_snoc, if_neg (by omega), ih g (by omega)]
theorem hd_sum {k : Int} (h0 : 0 ≤ k) {rows : List St0} (hg : Good rows) : sumD (hd k rows) = if k < sumD rows then k else sumD rows := by
  induction rows using snoc_ind with
  | h0 => show (0 : Int) = _; simp [sumD]; omega
  | h1 xs r ih =>
    obtain ⟨g, hr⟩ := hg.init
    have es : sumD (xs ++ [r]) = sumD xs + r.1 := by rw [sumD_append]; simp [sumD]
    have ih := ih g
    rw [es, hd_snoc]
    by_cases c : 0 < k - sumD xs
    · rw [if_pos c, sumD_append, ih, if_neg (by omega)]
      by_cases c2 : k - sumD xs < r.1
      · rw [if_pos c2, if_pos (by omega)]; simp [sumD]; omega
      · rw [if_neg c2, if_neg (by omega)]; simp [sumD]
    · rw [if_neg c, ih]
      by_cases c2 : k < sumD xs
      · rw [if_pos c2, if_pos (by omega)]
      · rw [if_neg c2, if_pos (by omega)]; omega
theorem hd_good {k : Int} {rows : List St0} (hg : Good rows) : Good (hd k rows) ∧ (hd k rows).length ≤ rows.length := by
  induction rows using snoc_ind with
  | h0 => exact ⟨fun r hr => (by cases hr), Nat.le_refl _⟩
  | h1 xs r ih =>
    obtain ⟨g, hr⟩ := hg.init
    obtain ⟨i1, i2⟩ := ih g
    have hr2 := hg r (by simp)
    rw [hd_snoc]
    by_cases c : 0 < k - sumD xs
    · rw [if_pos c]
      refine ⟨fun x hx => ?_, by rw [List.length_append, List.length_append]; simp only [List.length_singleton]; omega⟩
      rcases List.mem_append.mp hx with hx | hx
      · exact i1 x hx
      · rw [List.mem_singleton.mp hx]
        refine ⟨?_, hr2.2⟩
        show 1 ≤ (if k - sumD xs < r.1 then k - sumD xs else r.1)
        split <;> omega
    · rw [if_neg c, List.length_append]
      exact ⟨i1, by omega⟩
theorem tl_good {k : Int} {rows : List St0} (hg : Good rows) : Good (tl k rows) ∧ (tl k rows).length ≤ rows.length := by
  induction rows using snoc_ind with
  | h0 => exact ⟨fun r hr => (by cases hr), Nat.le_refl _⟩
  | h1 xs r ih =>
    obtain ⟨g, hr⟩ := hg.init
    obtain ⟨i1, i2⟩ := ih g
    have hr2 := hg r (by simp)
    rw [tl_snoc]
    by_cases c : k - sumD xs < r.1
    · rw [if_pos c]
      refine ⟨fun x hx => ?_, by rw [List.length_append, List.length_append]; simp only [List.length_singleton]; omega⟩
      rcases List.mem_append.mp hx with hx | hx
      · exact i1 x hx
      · rw [List.mem_singleton.mp hx]
        refine ⟨?_, hr2.2⟩
        show 1 ≤ r.1 - (if k - sumD xs > 0 then k - sumD xs else 0)
        split <;> omega
    · rw [if_neg c, List.length_append]
      exact ⟨i1, by omega⟩
theorem sumD_sn (ys : List St0) (y : St0) : sumD (ys ++ [y]) = sumD ys + y.1 := by rw [sumD_append]; simp [sumD]
theorem jstep_good {acc : List St0} {r : St0} (h : Good acc) (h1 : 1 ≤ r.1 ∧ ascB 0 12 r.2 = true ∧ r.2.length ≤ 12) : Good (jstep acc r) := by
  unfold jstep
  cases hg : acc.getLast? with
  | none => exact fun x hx => by rw [List.mem_singleton.mp hx]; exact h1
  | some l =>
    simp only
    by_cases c : l.2 = r.2
    · rw [if_pos c]
      intro x hx
      obtain ⟨ini, hi⟩ := List.getLast?_eq_some_iff.mp hg
      have hl := h l (by rw [hi]; simp)
      rcases List.mem_append.mp hx with hx | hx
      · exact h x ((List.dropLast_sublist _).subset hx)
      · rw [List.mem_singleton.mp hx]
        exact ⟨by show 1 ≤ l.1 + r.1; omega, h1.2⟩
    · rw [if_neg c]
      intro x hx
      rcases List.mem_append.mp hx with hx | hx
      · exact h x hx
      · rw [List.mem_singleton.mp hx]; exact h1
theorem jn_good {rows : List St0} (h : Good rows) : Good (jn rows) := by
  induction rows using snoc_ind with
  | h0 => exact h
  | h1 xs r ih =>
    rw [jn_snoc]
    exact jstep_good (ih h.init.1) (h r (by simp))
theorem hd_jn {k : Int} {rows : List St0} (hg : Good rows) : hd k (jn rows) = jn (hd k rows) := by
  induction rows using snoc_ind with
  | h0 => rfl
  | h1 xs r ih =>
    obtain ⟨g, hr⟩ := hg.init
    have ih := ih g
    have hj := jn_sum xs
    have hR : jn (hd k (xs ++ [r])) = if 0 < k - sumD xs then jstep (jn xs) (if k - sumD xs < r.1 then k - sumD xs else r.1, r.2) else hd k (jn xs) := by
      rw [hd_snoc]
      by_cases c : 0 < k - sumD xs
      · rw [if_pos c, if_pos c, jn_snoc, hd_all g (by omega)]
      · rw [if_neg c, if_neg c, ih]
    have hA : 0 < k - sumD xs → hd k (jn xs) = jn xs := fun c => by rw [ih, hd_all g (by omega)]
    rw [hR, jn_snoc]
    have hap : hd k (jn xs ++ [r]) = if 0 < k - sumD xs then jn xs ++ [(if k - sumD xs < r.1 then k - sumD xs else r.1, r.2)] else hd k (jn xs) := by
      rw [hd_snoc, hj]
      by_cases c : 0 < k - sumD xs
      · rw [if_pos c, if_pos c, hA c]
      · rw [if_neg c, if_neg c]
    unfold jstep
    cases hg' : (jn xs).getLast? with
    | none =>
      have e0 : jn xs = [] := List.getLast?_eq_none_iff.mp hg'
      rw [e0] at hap
      rw [e0]
      exact hap
    | some l =>
      simp only
      by_cases c : l.2 = r.2
      · rw [if_pos c, if_pos c]
        obtain ⟨ini, hi⟩ := List.getLast?_eq_some_iff.mp hg'
        have hdl : (jn xs).dropLast = ini := by rw [hi]; simp
        have hs : sumD xs = sumD ini + l.1 := by rw [← hj, hi, sumD_sn]
        rw [hdl, hd_snoc]
        have gj : Good (jn xs) := jn_good g
        rw [hi] at gj
        have hl1 : 1 ≤ l.1 := gj.init.2
        have hini : 0 < k - sumD ini → hd k ini = ini := fun z => hd_all gj.init.1 (by omega)
        have hb : hd k (jn xs) = if 0 < k - sumD ini then hd k ini ++ [(if k - sumD ini < l.1 then k - sumD ini else l.1, l.2)] else hd k ini := by
          rw [hi, hd_snoc]
        by_cases c1 : 0 < k - sumD xs
        · rw [if_pos c1, if_pos (by omega), hini (by omega)]
          congr 3
          by_cases c2 : k - sumD xs < r.1
          · rw [if_pos c2, if_pos (by show k - sumD ini < l.1 + r.1; omega)]; omega
          · rw [if_neg c2, if_neg (by show ¬ k - sumD ini < l.1 + r.1; omega)]
        · rw [if_neg c1, hb]
          by_cases c3 : 0 < k - sumD ini
          · rw [if_pos c3, if_pos c3, c]
            congr 3
            by_cases c2 : k - sumD ini < l.1
            · rw [if_pos c2, if_pos (by show k - sumD ini < l.1 + r.1; omega)]
            · rw [if_neg c2, if_pos (by show k - sumD ini < l.1 + r.1; omega)]; omega
          · rw [if_neg c3, if_neg c3]
      · rw [if_neg c, if_neg c]
        exact hap
/-! ### Book.head, Book.tail, the law's part -/
theorem part_ok {rows : List St0} {k : Int} (h0 : 0 ≤ k) (h1 : k ≤ sumD rows) {P : D → Prop} {P2 : Exn → Prop} (h : P .non) : w_check_part [bk rows, .int k] P P2 := by
  unfold w_check_part wpB b_check_part bk bkF
  repeat' (first | infer_instance | (with_reducible refine w_seq ?_) | fail)
  all_goals first
    | exact h
    | (exfalso; omega)

theorem cut_bflt {rows : List St0} (hl : rows.length ≤ 400) (hg : Good rows) (hs : sumD rows ≤ 1000000000000000000000000000000) {k : Int} (h0 : 0 ≤ k) : bflt (hd k rows) = none ∧ bflt (tl k rows) = none := by
  obtain ⟨g1, l1⟩ := hd_good (k := k) hg
  obtain ⟨g2, l2⟩ := tl_good (k := k) hg
  have s1 := hd_sum h0 hg
  have s2 : sumD (tl k rows) ≤ sumD rows := by
    clear hs hl
    induction rows using snoc_ind with
    | h0 => exact Int.le_refl _
    | h1 xs r ih =>
      obtain ⟨g, hr⟩ := hg.init
      have ih := ih g (hd_good g).1 (hd_good g).2 (tl_good g).1 (tl_good g).2 (hd_sum h0 g)
      rw [tl_snoc, sumD_sn]
      by_cases c : k - sumD xs < r.1
      · rw [if_pos c, sumD_sn]
        show sumD (tl k xs) + (r.1 - (if k - sumD xs > 0 then k - sumD xs else 0)) ≤ _
        split <;> omega
      · rw [if_neg c]; omega
  constructor
  · exact good_bflt (by omega) g1 (by rw [s1]; split <;> omega)
  · exact good_bflt (by omega) g2 (by omega)
theorem fronts_spec {J : List St0} {k : Int} {d : D} (he : itemsD d = some (J.map fS)) (hl : J.length ≤ 1000) (gj : Good J) {P : D → Prop} {P2 : Exn → Prop} (h : P (.lst ((hd k J).map fS))) : w_front_pairs [d, .int k] P P2 := by
  have hz : szl = 16777216 := rfl
  unfold w_front_pairs wpB b_front_pairs
  repeat' (first | infer_instance | (with_reducible refine w_seq ?_) | (with_reducible refine l_items he ?_) | fail)
  · exact Nat.zero_le _
  refine w_forP fS J (fun pre δ => ∃ (o4 o5 : Option S), δ = [some (.d d), some (.d (.int k)), some (.own none ((hd k pre).map fS)), some (.d (.int (k - sumD pre))), o4, o5]) rfl ?_ ?_ ⟨_, _, by rw [show sumD [] = 0 from rfl, Int.sub_zero]; rfl⟩
  · rintro δ ⟨o4, o5, rfl⟩
    repeat' (first | infer_instance | (with_reducible refine w_seq ?_) | fail)
    exact h
  · rintro pre r post δ K e ⟨o4, o5, rfl⟩ hK
    have hlp : (hd k pre).length < szl := by
      have := congrArg List.length e
      rw [List.length_append, List.length_cons] at this
      have := (hd_good (k := k) (rows := pre) fun x hx => gj x (by rw [e]; exact List.mem_append_left _ hx)).2
      omega
    have fin := fun o4 o5 => hK _ ⟨o4, o5, rfl⟩
    rw [sumD_sn, hd_snoc] at fin
    refine g_seqI (ds := [.int r.1, .tup (r.2.map .int)]) rfl rfl ?_
    repeat' (first | infer_instance | (with_reducible refine w_seq ?_) | fail)
    all_goals (try simp only [List.length_map])
    all_goals first
      | exact hlp
      | (simp only [List.length_cons, List.length_nil]; decide)
      | skip
    · have f := fin (some (.d (.int r.1))) (some (.d (.tup (r.2.map .int))))
      rw [if_pos (by omega), List.map_append, show k - (sumD pre + r.1) = k - sumD pre - r.1 by omega] at f
      exact f
    · have f := fin (some (.d (.int r.1))) (some (.d (.tup (r.2.map .int))))
      rw [if_neg (by omega), show k - (sumD pre + r.1) = k - sumD pre - r.1 by omega] at f
      exact f
theorem rears_spec {J : List St0} {k : Int} {d : D} (he : itemsD d = some (J.map fS)) (hl : J.length ≤ 1000) (gj : Good J) {P : D → Prop} {P2 : Exn → Prop} (h : P (.lst ((tl k J).map fS))) : w_rear_pairs [d, .int k] P P2 := by
  have hz : szl = 16777216 := rfl
  unfold w_rear_pairs wpB b_rear_pairs
  repeat' (first | infer_instance | (with_reducible refine w_seq ?_) | (with_reducible refine l_items he ?_) | fail)
  · exact Nat.zero_le _
  refine w_forP fS J (fun pre δ => ∃ (o4 o5 : Option S), δ = [some (.d d), some (.d (.int k)), some (.own none ((tl k pre).map fS)), some (.d (.int (k - sumD pre))), o4, o5]) rfl ?_ ?_ ⟨_, _, by rw [show sumD [] = 0 from rfl, Int.sub_zero]; rfl⟩
  · rintro δ ⟨o4, o5, rfl⟩
    repeat' (first | infer_instance | (with_reducible refine w_seq ?_) | fail)
    exact h
  · rintro pre r post δ K e ⟨o4, o5, rfl⟩ hK
    have hlp : (tl k pre).length < szl := by
      have := congrArg List.length e
      rw [List.length_append, List.length_cons] at this
      have := (tl_good (k := k) (rows := pre) fun x hx => gj x (by rw [e]; exact List.mem_append_left _ hx)).2
      omega
    have fin := fun o4 o5 => hK _ ⟨o4, o5, rfl⟩
    rw [sumD_sn, tl_snoc] at fin
    refine g_seqI (ds := [.int r.1, .tup (r.2.map .int)]) rfl rfl ?_
    repeat' (first | infer_instance | (with_reducible refine w_seq ?_) | fail)
    all_goals (try simp only [List.length_map])
    all_goals first
      | exact hlp
      | (simp only [List.length_cons, List.length_nil]; decide)
      | skip
    · have f := fin (some (.d (.int r.1))) (some (.d (.tup (r.2.map .int))))
      rw [if_pos (by omega), List.map_append, show k - (sumD pre + r.1) = k - sumD pre - r.1 by omega] at f
      exact f
    · have f := fin (some (.d (.int r.1))) (some (.d (.tup (r.2.map .int))))
      rw [if_neg (by omega), show k - (sumD pre + r.1) = k - sumD pre - r.1 by omega] at f
      exact f
theorem head_spec {rows : List St0} {k : Int} (hl : rows.length ≤ 400) (hg : Good rows) (hs : sumD rows ≤ 1000000000000000000000000000000) (h0 : 0 ≤ k) (h1 : k ≤ sumD rows) {P : D → Prop} {P2 : Exn → Prop} (h : P (bk (hd k (jn rows)))) :
    w_Book_head [bk rows, .int k] P P2 := by
  have gj := jn_good hg
  have lj := jn_len rows
  have sj := jn_sum rows
  have hb := (cut_bflt (k := k) (by omega) gj (by omega) h0).1
  unfold w_Book_head wpB b_Book_head
  with_reducible refine w_seq ?_
  repeat' (first | infer_instance | (with_reducible refine part_ok h0 h1 ?_) | fail)
  unfold bk bkF
  repeat' (first | infer_instance | (with_reducible refine w_seq ?_) | (with_reducible refine fronts_spec rfl (by omega) gj ?_) | (with_reducible refine book_init rowS rfl (fun _ => ?_) (fun a s e => ?_)) | fail)
  · exact h
  · rw [hb] at e; cases e
theorem tail_spec {rows : List St0} {k : Int} (hl : rows.length ≤ 400) (hg : Good rows) (hs : sumD rows ≤ 1000000000000000000000000000000) (h0 : 0 ≤ k) (h1 : k ≤ sumD rows) {P : D → Prop} {P2 : Exn → Prop} (h : P (bk (tl k (jn rows)))) :
    w_Book_tail [bk rows, .int k] P P2 := by
  have gj := jn_good hg
  have lj := jn_len rows
  have sj := jn_sum rows
  have hb := (cut_bflt (k := k) (by omega) gj (by omega) h0).2
  unfold w_Book_tail wpB b_Book_tail
  with_reducible refine w_seq ?_
  repeat' (first | infer_instance | (with_reducible refine part_ok h0 h1 ?_) | fail)
  unfold bk bkF
  repeat' (first | infer_instance | (with_reducible refine w_seq ?_) | (with_reducible refine rears_spec rfl (by omega) gj ?_) | (with_reducible refine book_init rowS rfl (fun _ => ?_) (fun a s e => ?_)) | fail)
  · exact h
  · rw [hb] at e; cases e
/-! ### k04: joined rows -/
theorem jstep_two (acc : List St0) (a b : Int) (g : List Int) : jstep (jstep acc (a, g)) (b, g) = jstep acc (a + b, g) := by
  unfold jstep
  cases h : acc.getLast? with
  | none => simp
  | some l =>
    simp only
    by_cases c : l.2 = g
    · rw [if_pos c, if_pos c]
      simp [List.getLast?_append, Int.add_assoc]
    · rw [if_neg c, if_neg c]
      simp [List.getLast?_append]
theorem jn_app (X Y : List St0) : jn (X ++ Y) = Y.foldl jstep (jn X) := by unfold jn; rw [List.foldl_append]
theorem jn_right (X Y : List St0) : jn (X ++ jn Y) = jn (X ++ Y) := by
  induction Y using snoc_ind with
  | h0 => rfl
  | h1 Y r ih =>
    rw [← List.append_assoc, jn_snoc, jn_snoc]
    cases hg : (jn Y).getLast? with
    | none =>
      have e0 : jn Y = [] := List.getLast?_eq_none_iff.mp hg
      rw [e0] at ih ⊢
      rw [← ih, List.append_nil]
      show jn (X ++ [r]) = _
      rw [jn_snoc]
    | some l =>
      have hs := snoc_of hg
      have e1 : jstep (jn Y) r = if l.2 = r.2 then (jn Y).dropLast ++ [(l.1 + r.1, r.2)] else jn Y ++ [r] := by
        unfold jstep
        rw [hg]
      rw [e1]
      by_cases c : l.2 = r.2
      · rw [if_pos c, ← List.append_assoc, jn_snoc, ← ih]
        have e2 : X ++ jn Y = (X ++ (jn Y).dropLast) ++ [l] := by rw [List.append_assoc, ← hs]
        rw [e2, jn_snoc]
        obtain ⟨la, lg⟩ := l
        obtain ⟨ra, rg⟩ := r
        simp only at c
        subst c
        rw [jstep_two]
      · rw [if_neg c, ← List.append_assoc, jn_snoc, ih]
theorem jn_idem (X : List St0) : jn (jn X) = jn X := by
  have := jn_right [] X
  simpa using this
theorem jn_cong {A A' B B' : List St0} (h1 : jn A = jn A') (h2 : jn B = jn B') : jn (A ++ B) = jn (A' ++ B') := by
  rw [← jn_right A B, ← jn_right A' B', h2, jn_app A, jn_app A', h1]
theorem bk_eq {X Y : List St0} (h : jn X = jn Y) : bk X = bk Y := by
  unfold bk bkF
  have : sumD X = sumD Y := by rw [← jn_sum X, ← jn_sum Y, h]
  rw [h, this]
theorem jn_two (a b : Int) (g : List Int) (X : List St0) : jn (X ++ [(a, g), (b, g)]) = jn (X ++ [(a + b, g)]) := by
  rw [show X ++ [(a, g), (b, g)] = (X ++ [(a, g)]) ++ [(b, g)] by simp, jn_snoc, jn_snoc, jn_snoc, jstep_two]
theorem jn_hd {k : Int} {X : List St0} (hg : Good X) : jn (hd k (jn X)) = jn (hd k X) := by rw [hd_jn hg, jn_idem]
theorem jn_tl {k : Int} {X : List St0} (hg : Good X) : jn (tl k (jn X)) = jn (tl k X) := by
  induction X using snoc_ind with
  | h0 => rfl
  | h1 X r ih =>
    have gX := hg.init.1
    have hr := hg.init.2
    have ih := ih gX
    have gJ := jn_good gX
    rw [jn_snoc, tl_snoc]
    cases hl : (jn X).getLast? with
    | none =>
      have e0 : jn X = [] := List.getLast?_eq_none_iff.mp hl
      have s0 : sumD X = 0 := by rw [← jn_sum, e0]; rfl
      rw [e0] at ih
      have e1 : jstep (jn X) r = [] ++ [r] := by unfold jstep; rw [hl]; rfl
      rw [e1, tl_snoc, s0, show sumD [] = 0 from rfl]
      split
      · rw [jn_snoc, jn_snoc, ih]
      · exact ih
    | some l =>
      have hs := snoc_of hl
      have sX : sumD X = sumD (jn X).dropLast + l.1 := by rw [← jn_sum, hs, sumD_sn]; simp
      have gd : Good (jn X).dropLast := fun x hx => gJ x ((List.dropLast_sublist _).subset hx)
      have hl1 : 1 ≤ l.1 := (gJ l (by rw [hs]; simp)).1
      have e1 : jstep (jn X) r = if l.2 = r.2 then (jn X).dropLast ++ [(l.1 + r.1, r.2)] else jn X ++ [r] := by
        unfold jstep
        rw [hl]
      rw [e1]
      by_cases c : l.2 = r.2
      · rw [if_pos c, tl_snoc]
        rw [hs, tl_snoc] at ih
        obtain ⟨la, lg⟩ := l
        obtain ⟨ra, rg⟩ := r
        simp only at c sX hl1 hr ih ⊢
        subst c
        generalize (jn X).dropLast = dl at *
        by_cases c1 : k - sumD dl < la
        · rw [if_pos c1] at ih
          rw [if_pos (show k - sumD dl < la + ra by omega), if_pos (show k - sumD X < ra by omega), if_neg (show ¬ k - sumD X > 0 by omega), jn_snoc, jn_snoc, ← ih, jn_snoc, jstep_two]
          congr 2
          omega
        · rw [if_neg c1] at ih
          have ed : tl k dl = [] := tl_all gd (by omega)
          rw [ed] at ih ⊢
          by_cases c2 : k - sumD dl < la + ra
          · rw [if_pos c2, if_pos (show k - sumD X < ra by omega), if_pos (show k - sumD dl > 0 by omega), jn_snoc, jn_snoc, ih]
            congr 2
            split <;> omega
          · rw [if_neg c2, if_neg (show ¬ k - sumD X < ra by omega)]
            exact ih
      · rw [if_neg c, tl_snoc, jn_sum]
        split
        · rw [jn_snoc, jn_snoc, ih]
        · exact ih
theorem hd_tl {k : Int} {X : List St0} (hg : Good X) : jn (hd k X ++ tl k X) = jn X := by
  induction X using snoc_ind with
  | h0 => rfl
  | h1 X r ih =>
    have gX := hg.init.1
    have hr := hg.init.2
    have ih := ih gX
    rw [hd_snoc, tl_snoc]
    by_cases c1 : 0 < k - sumD X
    · have eh : hd k X = X := hd_all gX (by omega)
      have et : tl k X = [] := tl_all gX (by omega)
      rw [if_pos c1, eh, et]
      by_cases c2 : k - sumD X < r.1
      · rw [if_pos c2, if_pos c2, if_pos (by omega)]
        obtain ⟨ra, rg⟩ := r
        simp only [List.nil_append, List.append_assoc, List.singleton_append, List.cons_append]
        rw [jn_two]
        congr 3
        simp only [Prod.mk.injEq, and_true]
        omega
      · rw [if_neg c2, if_neg c2, List.append_nil]
    · rw [if_neg c1, if_pos (by omega), if_neg (by omega), ← List.append_assoc, jn_snoc, ih, jn_snoc]
      congr 1
      rw [Int.sub_zero]
theorem tl_sum {k : Int} {X : List St0} (h0 : 0 ≤ k) (hg : Good X) : sumD (tl k X) = if k < sumD X then sumD X - k else 0 := by
  have h1 := congrArg sumD (hd_tl (k := k) hg)
  rw [jn_sum, jn_sum, sumD_append, hd_sum h0 hg] at h1
  split at h1 <;> split <;> omega
theorem tl_zero {X : List St0} (hg : Good X) : tl 0 X = X := by
  induction X using snoc_ind with
  | h0 => rfl
  | h1 X r ih =>
    have := sumD_nn hg.init.1
    have hr := hg.init.2
    rw [tl_snoc, if_pos (by omega), if_neg (by omega), ih hg.init.1, Int.sub_zero]
theorem hd_of_tl {l h : Int} (h0 : 0 ≤ l) (h1 : l ≤ h) {X : List St0} (hg : Good X) : hd (h - l) (tl l X) = tl l (hd h X) := by
  induction X using snoc_ind with
  | h0 => rfl
  | h1 X r ih =>
    have gX := hg.init.1
    have hr := hg.init.2
    have ih := ih gX
    have nX := sumD_nn gX
    have st := tl_sum h0 gX
    rw [tl_snoc, hd_snoc]
    obtain ⟨ra, rg⟩ := r
    simp only at hr ⊢
    by_cases c : l ≤ sumD X
    · have st' : sumD (tl l X) = sumD X - l := by rw [st]; split <;> omega
      rw [if_pos (show l - sumD X < ra by omega), if_neg (show ¬ l - sumD X > 0 by omega), hd_snoc, ih, st']
      simp only
      by_cases c2 : 0 < h - sumD X
      · have eh : hd h X = X := hd_all gX (by omega)
        have e1 : (if h - l - (sumD X - l) < ra - 0 then h - l - (sumD X - l) else ra - 0) = (if h - sumD X < ra then h - sumD X else ra) := by split <;> split <;> omega
        rw [if_pos (show 0 < h - l - (sumD X - l) by omega), if_pos c2, tl_snoc, eh, e1]
        simp only
        have e2 : l - sumD X < (if h - sumD X < ra then h - sumD X else ra) := by split <;> omega
        rw [if_pos e2, if_neg (show ¬ l - sumD X > 0 by omega), Int.sub_zero]
      · rw [if_neg (show ¬ 0 < h - l - (sumD X - l) by omega), if_neg c2]
    · have et : tl l X = [] := tl_all gX (by omega)
      have eh : hd h X = X := hd_all gX (by omega)
      rw [et, eh, if_pos (show 0 < h - sumD X by omega), tl_snoc, et]
      simp only
      by_cases c2 : l - sumD X < ra
      · rw [if_pos c2, if_pos (show l - sumD X > 0 by omega), hd_snoc, show sumD [] = 0 from rfl]
        simp only
        by_cases c3 : l < h
        · have e1 : (if h - l - 0 < ra - (l - sumD X) then h - l - 0 else ra - (l - sumD X)) = (if h - sumD X < ra then h - sumD X else ra) - (l - sumD X) := by split <;> split <;> omega
          have e2 : l - sumD X < (if h - sumD X < ra then h - sumD X else ra) := by split <;> omega
          rw [if_pos (show 0 < h - l - 0 by omega), if_pos e2, e1]
          rfl
        · have e2 : ¬ l - sumD X < (if h - sumD X < ra then h - sumD X else ra) := by split <;> omega
          rw [if_neg (show ¬ 0 < h - l - 0 by omega), if_neg e2]
          rfl
      · have e2 : ¬ l - sumD X < (if h - sumD X < ra then h - sumD X else ra) := by split <;> omega
        rw [if_neg c2, if_neg e2]
        rfl
theorem jn_rev (X : List St0) : jn (jn X).reverse = jn X.reverse := by
  induction X using snoc_ind with
  | h0 => rfl
  | h1 X r ih =>
    have e2 : (X ++ [r]).reverse = [r] ++ X.reverse := by simp
    rw [jn_snoc, e2, ← jn_cong (A := [r]) rfl ih]
    cases hl : (jn X).getLast? with
    | none =>
      have e0 : jn X = [] := List.getLast?_eq_none_iff.mp hl
      rw [e0]
      rfl
    | some l =>
      have hs := snoc_of hl
      have e1 : jstep (jn X) r = if l.2 = r.2 then (jn X).dropLast ++ [(l.1 + r.1, r.2)] else jn X ++ [r] := by
        unfold jstep
        rw [hl]
      rw [e1]
      by_cases c : l.2 = r.2
      · rw [if_pos c]
        have e3 : (jn X).reverse = [l] ++ (jn X).dropLast.reverse := by
          rw [hs]
          simp
        rw [e3]
        obtain ⟨la, lg⟩ := l
        obtain ⟨ra, rg⟩ := r
        simp only at c
        subst c
        have e4 : ((jn X).dropLast ++ [(la + ra, lg)]).reverse = [(la + ra, lg)] ++ (jn X).dropLast.reverse := by simp
        rw [e4, ← List.append_assoc]
        refine jn_cong ?_ rfl
        have := jn_two ra la lg []
        rw [Int.add_comm ra la] at this
        simpa using this.symm
      · rw [if_neg c]
        simp
/-! ### k04: who runs on a morning -/
def onF : List St0 → Int → List Int
  | [], _ => []
  | r :: rs, s => if s ≤ r.1 then r.2 else onF rs (s - r.1)
theorem onF_app {A B : List St0} (hg : Good A) : ∀ {s : Int}, 1 ≤ s → onF (A ++ B) s = if s ≤ sumD A then onF A s else onF B (s - sumD A) := by
  induction A with
  | nil =>
    intro s hs
    rw [show sumD [] = 0 from rfl, if_neg (by omega), Int.sub_zero]
    rfl
  | cons r A ih =>
    intro s hs
    have gA : Good A := fun x hx => hg x (List.mem_cons_of_mem _ hx)
    have nA := sumD_nn gA
    have eS : sumD (r :: A) = r.1 + sumD A := by simp [sumD]
    show (if s ≤ r.1 then r.2 else onF (A ++ B) (s - r.1)) = _
    rw [eS]
    by_cases c : s ≤ r.1
    · rw [if_pos c, if_pos (show s ≤ r.1 + sumD A by omega)]
      show r.2 = if s ≤ r.1 then r.2 else onF A (s - r.1)
      rw [if_pos c]
    · rw [if_neg c, ih gA (by omega)]
      by_cases c2 : s - r.1 ≤ sumD A
      · rw [if_pos c2, if_pos (show s ≤ r.1 + sumD A by omega)]
        show _ = if s ≤ r.1 then r.2 else onF A (s - r.1)
        rw [if_neg c]
      · rw [if_neg c2, if_neg (show ¬ s ≤ r.1 + sumD A by omega)]
        congr 1
        omega
theorem onF_one {r : St0} {s : Int} (h : s ≤ r.1) : onF [r] s = r.2 := if_pos h
theorem onF_jn {X : List St0} (hg : Good X) {s : Int} (h1 : 1 ≤ s) (h2 : s ≤ sumD X) : onF (jn X) s = onF X s := by
  induction X using snoc_ind with
  | h0 => rfl
  | h1 X r ih =>
    have gX := hg.init.1
    have hr := hg.init.2
    have gJ := jn_good gX
    rw [sumD_sn] at h2
    rw [jn_snoc, onF_app gX h1]
    cases hl : (jn X).getLast? with
    | none =>
      have e0 : jn X = [] := List.getLast?_eq_none_iff.mp hl
      have s0 : sumD X = 0 := by rw [← jn_sum, e0]; rfl
      have e1 : jstep (jn X) r = [r] := by unfold jstep; rw [hl]
      rw [e1, s0, if_neg (by omega), Int.sub_zero]
    | some l =>
      have hs := snoc_of hl
      have sX : sumD X = sumD (jn X).dropLast + l.1 := by rw [← jn_sum, hs, sumD_sn]; simp
      have gd : Good (jn X).dropLast := fun x hx => gJ x ((List.dropLast_sublist _).subset hx)
      have hl1 : 1 ≤ l.1 := (gJ l (by rw [hs]; simp)).1
      have e1 : jstep (jn X) r = if l.2 = r.2 then (jn X).dropLast ++ [(l.1 + r.1, r.2)] else jn X ++ [r] := by
        unfold jstep
        rw [hl]
      rw [e1]
      by_cases c : l.2 = r.2
      · rw [if_pos c, onF_app gd h1]
        by_cases c2 : s ≤ sumD X
        · rw [if_pos c2, ← ih gX c2]
          conv => rhs; rw [hs]
          rw [onF_app gd h1]
          by_cases c3 : s ≤ sumD (jn X).dropLast
          · rw [if_pos c3, if_pos c3]
          · rw [if_neg c3, if_neg c3, onF_one (show s - _ ≤ _ by simp only; omega), onF_one (by omega)]
            exact c.symm
        · rw [if_neg c2, if_neg (by omega), onF_one (show s - _ ≤ _ by simp only; omega), onF_one (by omega)]
      · rw [if_neg c, onF_app gJ h1, jn_sum]
        by_cases c2 : s ≤ sumD X
        · rw [if_pos c2, if_pos c2, ih gX c2]
        · rw [if_neg c2, if_neg c2]
theorem onF_tl {k : Int} {X : List St0} (hg : Good X) (h0 : 0 ≤ k) {s : Int} (h1 : 1 ≤ s) (h2 : k + s ≤ sumD X) : onF (tl k X) s = onF X (k + s) := by
  have gh := (hd_good (k := k) hg).1
  have gt := (tl_good (k := k) hg).1
  have sh := hd_sum h0 hg
  have st := tl_sum h0 hg
  rw [if_pos (by omega)] at sh st
  rw [← onF_jn hg (by omega) (by omega), ← hd_tl (k := k) hg, onF_jn (good_app gh gt) (by omega) (by rw [sumD_append]; omega), onF_app gh (by omega), if_neg (by omega)]
  congr 1
  omega
theorem onF_hd {k : Int} {X : List St0} (hg : Good X) (h0 : 0 ≤ k) {s : Int} (h1 : 1 ≤ s) (h2 : s ≤ k) (h3 : k ≤ sumD X) : onF (hd k X) s = onF X s := by
  have gh := (hd_good (k := k) hg).1
  have gt := (tl_good (k := k) hg).1
  have sh := hd_sum h0 hg
  have st := tl_sum h0 hg
  have sh' : sumD (hd k X) = k := by rw [sh]; split <;> omega
  have st' : sumD (tl k X) = sumD X - k := by rw [st]; split <;> omega
  have e : onF X s = onF (hd k X ++ tl k X) s := by
    rw [← onF_jn hg h1 (by omega), ← hd_tl (k := k) hg, onF_jn (good_app gh gt) h1 (by rw [sumD_append]; omega)]
  rw [e, onF_app gh h1, if_pos (by omega)]
theorem tl_head {k : Int} {X : List St0} (hg : Good X) (h0 : 0 ≤ k) (h1 : k < sumD X) : ∃ d rest, jn (tl k (jn X)) = (d, onF X (k + 1)) :: rest := by
  rw [jn_tl hg]
  have gt := (tl_good (k := k) hg).1
  have st := tl_sum h0 hg
  rw [if_pos h1] at st
  have e := onF_tl hg h0 (s := 1) (by decide) (by omega)
  rw [← onF_jn gt (by decide) (by omega)] at e
  have gj := jn_good gt
  cases hj : jn (tl k X) with
  | nil =>
    have := jn_sum (tl k X)
    rw [hj, show sumD [] = 0 from rfl] at this
    omega
  | cons r rest =>
    rw [hj] at e gj
    have hr := (gj r List.mem_cons_self).1
    have e2 : onF (r :: rest) 1 = r.2 := if_pos hr
    rw [e2] at e
    exact ⟨r.1, rest, by rw [← e]⟩
theorem pt_snoc {l h : Int} (h1 : l ≤ h) {X : List St0} {r : St0} (hg : Good (X ++ [r])) : tl l (hd h (X ++ [r])) = if (if sumD X + r.1 < h then sumD X + r.1 else h) - (if sumD X > l then sumD X else l) > 0 then tl l (hd h X) ++ [((if sumD X + r.1 < h then sumD X + r.1 else h) - (if sumD X > l then sumD X else l), r.2)] else tl l (hd h X) := by
  have gX := hg.init.1
  have hr := hg.init.2
  rw [hd_snoc]
  by_cases c : 0 < h - sumD X
  · have eh : hd h X = X := hd_all gX (by omega)
    rw [if_pos c, tl_snoc, eh]
    simp only
    by_cases c2 : l - sumD X < (if h - sumD X < r.1 then h - sumD X else r.1)
    · have e1 : (if h - sumD X < r.1 then h - sumD X else r.1) - (if l - sumD X > 0 then l - sumD X else 0) = (if sumD X + r.1 < h then sumD X + r.1 else h) - (if sumD X > l then sumD X else l) := by split <;> split <;> split <;> split <;> omega
      have e2 : (if sumD X + r.1 < h then sumD X + r.1 else h) - (if sumD X > l then sumD X else l) > 0 := by split at c2 <;> split <;> split <;> omega
      rw [if_pos c2, if_pos e2, e1]
    · have e2 : ¬ (if sumD X + r.1 < h then sumD X + r.1 else h) - (if sumD X > l then sumD X else l) > 0 := by split at c2 <;> split <;> split <;> omega
      rw [if_neg c2, if_neg e2]
  · have e2 : ¬ (if sumD X + r.1 < h then sumD X + r.1 else h) - (if sumD X > l then sumD X else l) > 0 := by split <;> split <;> omega
    rw [if_neg c, if_neg e2]
/-! ### k04: what is asked -/
def Bk (X : List St0) : Prop := X.length ≤ 400 ∧ Good X ∧ sumD X ≤ 1000000000000000000000000000000
theorem Bk.hd {X : List St0} (b : Bk X) {k : Int} (h0 : 0 ≤ k) : Bk (hd k X) := by
  obtain ⟨b1, b2, b3⟩ := b
  obtain ⟨g, l⟩ := hd_good (k := k) b2
  exact ⟨by omega, g, by rw [hd_sum h0 b2]; split <;> omega⟩
theorem Bk.tl {X : List St0} (b : Bk X) {k : Int} (h0 : 0 ≤ k) : Bk (tl k X) := by
  obtain ⟨b1, b2, b3⟩ := b
  obtain ⟨g, l⟩ := tl_good (k := k) b2
  exact ⟨by omega, g, by rw [tl_sum h0 b2]; split <;> omega⟩
theorem Bk.jn {X : List St0} (b : Bk X) : Bk (jn X) := by
  obtain ⟨b1, b2, b3⟩ := b
  have := jn_len X
  exact ⟨by omega, jn_good b2, by rw [jn_sum]; exact b3⟩
theorem Bk.rev {X : List St0} (b : Bk X) : Bk X.reverse := by
  obtain ⟨b1, b2, b3⟩ := b
  refine ⟨by rw [List.length_reverse]; exact b1, fun x hx => b2 x (List.mem_reverse.mp hx), ?_⟩
  have : sumD X.reverse = sumD X := by
    unfold sumD
    rw [List.map_reverse]
    exact List.sum_reverse _
  rw [this]
  exact b3
theorem isbookE {X Y : List St0} (h : jn X = jn Y) (hl : Y.length ≤ 1000) (hg : Good Y) {P : D → Prop} {P2 : Exn → Prop} (hP : P (.bl true)) : w__law_is_book [bk X, .lst (Y.map fS)] P P2 := by
  rw [bk_eq h]
  exact isbook_spec hl (good_GL hg) hP
theorem head_spec2 {X : List St0} (b : Bk X) {k : Int} (h0 : 0 ≤ k) (h1 : k ≤ sumD X) {P : D → Prop} {P2 : Exn → Prop} (h : P (bk (hd k X))) : w_Book_head [bk X, .int k] P P2 :=
  head_spec b.1 b.2.1 b.2.2 h0 h1 (by rw [bk_eq (jn_hd b.2.1)]; exact h)
theorem tail_spec2 {X : List St0} (b : Bk X) {k : Int} (h0 : 0 ≤ k) (h1 : k ≤ sumD X) {P : D → Prop} {P2 : Exn → Prop} (h : P (bk (tl k X))) : w_Book_tail [bk X, .int k] P P2 :=
  tail_spec b.1 b.2.1 b.2.2 h0 h1 (by rw [bk_eq (jn_tl b.2.1)]; exact h)
theorem flip_spec {X : List St0} (b : Bk X) {P : D → Prop} {P2 : Exn → Prop} (h : P (bk X.reverse)) : w_Book_flipped [bk X] P P2 := by
  have hb : bflt (jn X).reverse = none := good_bflt b.jn.rev.1 b.jn.rev.2.1 b.jn.rev.2.2
  have e : (.tup ((jn X).map fS).reverse : D) = .tup ((jn X).reverse.map fS) := by rw [List.map_reverse]
  rw [← bk_eq (jn_rev X)] at h
  unfold w_Book_flipped wpB b_Book_flipped bk bkF
  repeat' (first | infer_instance | (with_reducible refine w_seq ?_) | fail)
  show i_BookU_initU [.tup ((jn X).map fS).reverse] _ _
  rw [e]
  refine book_init rowS rfl (fun _ => ?_) (fun a s e => ?_)
  · exact h
  · rw [hb] at e; cases e
theorem w_asgG {pe : PX} {pg : D → Dl → (Dl → Prop) → Prop} {P : PEnds} {δ : Dl} (h : pe δ (fun d => pg d δ P.nx) (P.ex δ)) : pAsgG pe pg P δ := h
theorem runon_spec {X : List St0} (b : Bk X) {s : Int} (h1 : 1 ≤ s) (h2 : s ≤ sumD X) {P : D → Prop} {P2 : Exn → Prop} (h : P (.tup ((onF X s).map .int))) : w_Book_runners_on [bk X, .int s] P P2 := by
  have key : ∀ {P : D → Prop} {P2 : Exn → Prop}, P .non → w_check_morning [bk X, .int s] P P2 := fun {P P2} h => by
    unfold w_check_morning wpB b_check_morning bk bkF
    repeat' (first | infer_instance | (with_reducible refine w_seq ?_) | fail)
    all_goals first
      | exact h
      | (exfalso; omega)
  obtain ⟨d, rest, e⟩ := tl_head b.2.1 (k := s - 1) (by omega) (by omega)
  rw [show s - 1 + 1 = s by omega, jn_tl b.2.1] at e
  unfold w_Book_runners_on wpB b_Book_runners_on
  with_reducible refine w_seq ?_
  repeat' (first | infer_instance | (with_reducible refine key ?_) | fail)
  with_reducible refine w_seq ?_
  refine w_asgG ?_
  have key2 : ∀ {Q : D → Prop} {Q2 : Exn → Prop}, Q (.tup [.int d, .tup ((onF X s).map .int)]) → (pOp fIx (pFld [(1, 0)] (pMeth 1 w_Book_tail (pVar 0) (pCons (pOp fSub (pVar 1) (pC (.int 1))) pNil))) (pC (.int 0))) (startD 4 [bk X, .int s]) Q Q2 := fun {Q Q2} hQ => by
    with_reducible refine e_op ?_
    with_reducible refine e_fld ?_
    with_reducible refine e_meth ?_
    refine e_var (d := bk X) rfl ?_
    show objK 1 _ (.obj 1 (bkF X))
    refine k_obj ?_
    repeat' (first | infer_instance | fail)
    refine tail_spec2 b (by omega) (by omega) ?_
    unfold bk bkF
    rw [e]
    repeat' (first | infer_instance | fail)
    refine o_ixT (d := fS (d, onF X s)) (by rw [List.map_cons]; exact atI_zero) ?_
    exact hQ
  refine key2 ?_
  repeat' (first | infer_instance | (with_reducible refine w_seq ?_) | fail)
  exact h
theorem on_spec {rows : List St0} {s : Int} {P : D → Prop} {P2 : Exn → Prop} (h : P (.tup ((onF rows s).map .int))) : w__law_on [.lst (rows.map fS), .int s] P P2 := by
  unfold w__law_on wpB b__law_on
  repeat' (first | infer_instance | (with_reducible refine w_seq ?_) | fail)
  show pForL _ _ _ (rows.map fS) _
  refine w_forI (fun ds δ => ∃ (rest : List St0) (l : Int) (o3 : Option S), ds = rest.map fS ∧ onF rest l = onF rows s ∧ δ = [some (.d (.lst (rows.map fS))), some (.d (.int s)), some (.d (.int l)), o3]) ?_ ?_ _ _ ⟨rows, s, none, rfl, rfl, rfl⟩
  · rintro δ ⟨rest, l, o3, e, e2, rfl⟩
    have e0 : rest = [] := List.map_eq_nil_iff.mp e.symm
    subst e0
    rw [← e2] at h
    repeat' (first | infer_instance | (with_reducible refine w_seq ?_) | fail)
    all_goals first
      | exact Nat.zero_le _
      | exact h
  · rintro d ds δ k ⟨rest, l, o3, e, e2, rfl⟩ hk
    cases rest with
    | nil => cases e
    | cons r rest =>
      rw [List.map_cons] at e
      injection e with e3 e4
      subst e3 e4
      have e5 : onF (r :: rest) l = if l ≤ r.1 then r.2 else onF rest (l - r.1) := rfl
      refine g_name ?_
      have er : fS r = .tup [.int r.1, .tup (r.2.map .int)] := rfl
      rw [er]
      repeat' (first | infer_instance | (with_reducible refine w_seq ?_) | fail)
      · rw [e5, if_pos c] at e2
        rw [← e2] at h
        exact h
      · rw [e5, if_neg c] at e2
        exact hk _ ⟨rest, _, _, rfl, e2, rfl⟩
theorem part_spec2 {rows : List St0} {lo hi : Int} (h0 : 0 ≤ lo) (h1 : lo ≤ hi) (hl : rows.length ≤ 1000) (hg : Good rows) {P : D → Prop} {P2 : Exn → Prop} (h : P (.lst ((tl lo (hd hi rows)).map fS))) :
    w__law_part [.lst (rows.map fS), .int lo, .int hi] P P2 := by
  have hz : szl = 16777216 := rfl
  unfold w__law_part wpB b__law_part
  repeat' (first | infer_instance | (with_reducible refine w_seq ?_) | fail)
  · exact Nat.zero_le _
  show pForL _ _ _ (rows.map fS) _
  refine w_forP fS rows (fun pre δ => ∃ (o5 o6 : Option S), δ = [some (.d (.lst (rows.map fS))), some (.d (.int lo)), some (.d (.int hi)), some (.own none ((tl lo (hd hi pre)).map fS)), some (.d (.int (sumD pre))), o5, o6]) rfl ?_ ?_ ⟨none, none, rfl⟩
  · rintro δ ⟨o5, o6, rfl⟩
    repeat' (first | infer_instance | (with_reducible refine w_seq ?_) | fail)
    exact h
  · rintro pre r post δ K e ⟨o5, o6, rfl⟩ hK
    have gp : Good (pre ++ [r]) := fun x hx => hg x (by
      rw [e]
      rcases List.mem_append.mp hx with hx | hx
      · exact List.mem_append_left _ hx
      · rw [List.mem_singleton.mp hx]; simp)
    have hlp : (tl lo (hd hi pre)).length < szl := by
      have := congrArg List.length e
      rw [List.length_append, List.length_cons] at this
      have g1 := hd_good (k := hi) gp.init.1
      have g2 := tl_good (k := lo) g1.1
      omega
    have fin := fun o5 o6 => hK _ ⟨o5, o6, rfl⟩
    rw [sumD_sn, pt_snoc h1 gp] at fin
    refine g_name ?_
    have er : fS r = .tup [.int r.1, .tup (r.2.map .int)] := rfl
    rw [er]
    repeat' (first | infer_instance | (with_reducible refine w_seq ?_) | fail)
    all_goals (try simp only [List.length_map])
    all_goals first
      | exact hlp
      | (simp only [List.length_cons, List.length_nil]; decide)
      | skip
    · have f := fin (some (.d (.tup [.int r.1, .tup (r.2.map .int)]))) (some (.d (.int ((if sumD pre + r.1 < hi then sumD pre + r.1 else hi) - (if sumD pre > lo then sumD pre else lo)))))
      rw [if_pos c, List.map_append] at f
      exact f
    · have f := fin (some (.d (.tup [.int r.1, .tup (r.2.map .int)]))) (some (.d (.int ((if sumD pre + r.1 < hi then sumD pre + r.1 else hi) - (if sumD pre > lo then sumD pre else lo)))))
      rw [if_neg c] at f
      exact f
theorem upto_spec {most : Int} (h1 : 0 ≤ most) (h2 : most ≤ 1000000000000000000000000000000) {P : D → Prop} {P2 : Exn → Prop} (h : ∀ r : Int, 0 ≤ r → r ≤ most → P (.int r)) : w__law_upto [.pool, .int most] P P2 := by
  unfold w__law_upto wpB b__law_upto
  repeat' (first | infer_instance | (with_reducible refine w_seq ?_) | (with_reducible refine great_spec ?_ ?_ (fun r hr0 hr1 => ?_)) | fail)
  all_goals first
    | decide
    | (split <;> omega)
    | omega
    | exact h _ hr0 hr1
    | (refine h _ hr0 ?_; split at hr1 <;> omega)
/-! ### k04: cuts -/
theorem sumD_ge {a b : List St0} (hg : Good b) : sumD a ≤ sumD (a ++ b) := by
  have := sumD_nn hg
  rw [sumD_append]
  omega
theorem sum_take_le {rows : List St0} (hg : Good rows) (j : Nat) : 0 ≤ sumD (rows.take j) ∧ sumD (rows.take j) ≤ sumD rows := by
  have h1 := sumD_nn (rows := rows.take j) fun x hx => hg x (List.take_subset j rows hx)
  have h2 := sumD_ge (a := rows.take j) (b := rows.drop j) fun x hx => hg x (List.drop_subset j rows hx)
  rw [List.take_append_drop] at h2
  omega
theorem cutr_spec {X : List St0} (b : Bk X) {P : D → Prop} {P2 : Exn → Prop} (h : ∀ r : Int, 0 ≤ r → r ≤ sumD X → P (.int r)) : w__law_cut [.pool, .lst (X.map fS), .int (sumD X)] P P2 := by
  have hz : szl = 16777216 := rfl
  have b1 := b.1
  have n0 := sumD_nn b.2.1
  have b3 := b.2.2
  unfold w__law_cut wpB b__law_cut
  repeat' (first | infer_instance | (with_reducible refine w_seq ?_) | (with_reducible refine upto_spec ?_ ?_ (fun r hr0 hr1 => ?_)) | fail)
  all_goals (try simp only [List.length_map] at *)
  all_goals first
    | omega
    | decide
    | exact h 0 (by omega) (by omega)
    | exact h (sumD X) (by omega) (by omega)
    | exact h _ hr0 hr1
    | skip
  have hz : szl = 16777216 := rfl
  refine o_slT hr0 ?_
  repeat' (first | infer_instance | (with_reducible refine l_items rfl ?_) | fail)
  refine w_lcM fS (X.take r.toNat) (fun x => D.int x.1) rfl (by rw [List.length_take]; omega) (fun x hx K hK => ?_) ?_
  · refine g_name ?_
    have er : fS x = .tup [.int x.1, .tup (x.2.map .int)] := rfl
    rw [er]
    repeat' (first | infer_instance | fail)
    exact hK
  rw [sumRows]
  repeat' (first | infer_instance | (with_reducible refine o_sumI rfl ?_) | fail)
  have := sum_take_le b.2.1 r.toNat
  exact h _ this.1 this.2
theorem part_bad {X : List St0} {k : Int} (hk : ¬ (0 ≤ k ∧ k ≤ sumD X)) {P : D → Prop} {P2 : Exn → Prop} (h : P2 ⟨21, [.int k, .str "days"]⟩) : w_check_part [bk X, .int k] P P2 := by
  unfold w_check_part wpB b_check_part
  repeat' (first | infer_instance | (with_reducible refine w_seq ?_) | fail)
  all_goals first
    | (exfalso; omega)
    | exact h
    | rfl
    | (exact fun z => by cases z)
theorem head_bad {X : List St0} {k : Int} (hk : ¬ (0 ≤ k ∧ k ≤ sumD X)) {P : D → Prop} {P2 : Exn → Prop} (h : P2 ⟨21, [.int k, .str "days"]⟩) : w_Book_head [bk X, .int k] P P2 := by
  unfold w_Book_head wpB b_Book_head
  repeat' (first | infer_instance | (with_reducible refine w_seq ?_) | (with_reducible refine part_bad hk ?_) | fail)
  all_goals exact h
theorem tail_bad {X : List St0} {k : Int} (hk : ¬ (0 ≤ k ∧ k ≤ sumD X)) {P : D → Prop} {P2 : Exn → Prop} (h : P2 ⟨21, [.int k, .str "days"]⟩) : w_Book_tail [bk X, .int k] P P2 := by
  unfold w_Book_tail wpB b_Book_tail
  repeat' (first | infer_instance | (with_reducible refine w_seq ?_) | (with_reducible refine part_bad hk ?_) | fail)
  all_goals exact h
theorem asked_b {X : List St0} {k w : Int} (hk : ¬ (0 ≤ k ∧ k ≤ sumD X)) {P : D → Prop} {P2 : Exn → Prop} (h : P (.tup [.int k, .str "days"])) : w__law_asked [bk X, .int w, .int k] P P2 := by
  unfold w__law_asked wpB b__law_asked
  repeat' (first | infer_instance | (with_reducible refine w_seq ?_) | (with_reducible refine head_bad hk ?_) | (with_reducible refine tail_bad hk ?_) | fail)
  all_goals
    dsimp only
    refine w_tryEx ?c1 (fun a' cls dx => ?_)
    case c1 => rfl
    repeat' (first | infer_instance | (with_reducible refine w_seq ?_) | fail)
  all_goals first
    | (simp only [List.length_cons, List.length_nil]; decide)
    | exact h
theorem asked_h {X : List St0} (b : Bk X) {k : Int} (h0 : 0 ≤ k) (h1 : k ≤ sumD X) {P : D → Prop} {P2 : Exn → Prop} (h : P (bk (hd k X))) : w__law_asked [bk X, .int 0, .int k] P P2 := by
  unfold w__law_asked wpB b__law_asked
  repeat' (first | infer_instance | (with_reducible refine w_seq ?_) | (with_reducible refine head_spec2 b h0 h1 ?_) | fail)
  all_goals first
    | exact h
    | (exfalso; omega)
    | trace_state
theorem asked_t {X : List St0} (b : Bk X) {k : Int} (h0 : 0 ≤ k) (h1 : k ≤ sumD X) {P : D → Prop} {P2 : Exn → Prop} (h : P (bk (tl k X))) : w__law_asked [bk X, .int 1, .int k] P P2 := by
  unfold w__law_asked wpB b__law_asked
  repeat' (first | infer_instance | (with_reducible refine w_seq ?_) | (with_reducible refine tail_spec2 b h0 h1 ?_) | fail)
  all_goals first
    | exact h
    | (exfalso; omega)
    | trace_state
def cvS (r : St0) : Int × Tp Int := (r.1, ⟨r.2⟩)
theorem cvS_inj {A B : List St0} : A.map cvS = B.map cvS ↔ A = B := ⟨fun h => by
  have : (A.map cvS).map (fun z => ((z.1, z.2.its) : St0)) = (B.map cvS).map (fun z => ((z.1, z.2.its) : St0)) := by rw [h]
  rw [List.map_map, List.map_map] at this
  have e : ∀ L : List St0, L.map ((fun z => ((z.1, z.2.its) : St0)) ∘ cvS) = L := fun L => by
    conv => rhs; rw [← List.map_id L]
    rfl
  rw [e, e] at this
  exact this, fun h => by rw [h]⟩
theorem o_eqFT {A B : List St0} {Q : D → Prop} (q : Q (.bl (decide (A = B)))) : fEq (.tup (A.map fS)) (.tup (B.map fS)) Q := by
  have e : ∀ L : List St0, (.tup (L.map fS) : D) = DTy.d (⟨L.map cvS⟩ : Tp (Int × Tp Int)) := fun L => by
    show D.tup (L.map fS) = D.tup ((L.map cvS).map DTy.d)
    rw [List.map_map]
    rfl
  rw [e, e]
  refine o_eqT (α := Tp (Int × Tp Int)) (by decide) ?_
  rw [decide_eq_decide.mpr (show (⟨A.map cvS⟩ : Tp (Int × Tp Int)) = ⟨B.map cvS⟩ ↔ A = B from ⟨fun h => cvS_inj.mp (congrArg Tp.its h), fun h => by rw [h]⟩)]
  exact q
theorem o_eqFL {A B : List St0} {Q : D → Prop} (q : Q (.bl (decide (A = B)))) : fEq (.lst (A.map fS)) (.lst (B.map fS)) Q := by
  have e : ∀ L : List St0, (.lst (L.map fS) : D) = DTy.d (L.map cvS) := fun L => by
    show D.lst (L.map fS) = D.lst ((L.map cvS).map DTy.d)
    rw [List.map_map]
    rfl
  rw [e, e]
  refine o_eqT (α := List (Int × Tp Int)) (by decide) ?_
  rw [decide_eq_decide.mpr (cvS_inj (A := A) (B := B))]
  exact q
theorem beq_spec {X Y : List St0} {P : D → Prop} {P2 : Exn → Prop} (h : P (.bl (decide (jn X = jn Y)))) : w_BookU_eqU [bk X, bk Y] P P2 := by
  unfold w_BookU_eqU wpB b_BookU_eqU
  repeat' (first | infer_instance | (with_reducible refine w_seq ?_) | (with_reducible refine o_eqFT ?_) | fail)
  all_goals exact h
theorem beq_specE {X Y : List St0} {b : Bool} (e : decide (jn X = jn Y) = b) {P : D → Prop} {P2 : Exn → Prop} (h : P (.bl b)) : w_BookU_eqU [bk X, bk Y] P P2 := beq_spec (by rw [e]; exact h)
theorem o_eqO {cs : List Nat} {w : PSp} {fs : List D} {y : D} {c : Nat} {Q : D → Prop} (h1 : (isCl c cs y).isSome = true) (h2 : noL y = true) (h : w [.obj c fs, y] (fun d => ∃ b, d = .bl b ∧ Q (.bl b)) (fun _ => False)) : fEqO c cs w (.obj c fs) y Q := ⟨rfl, h1, h2, h⟩
theorem noLL_map {X : List St0} : noLL (X.map fS) = true := by
  induction X with
  | nil => rfl
  | cons r X ih =>
    show (noL (fS r) && noLL (X.map fS)) = true
    rw [ih, Bool.and_true]
    show noLL [.int r.1, .tup (r.2.map .int)] = true
    simp [noLL, noL, noLL_ints]
theorem noL_bk {X : List St0} : noL (bk X) = true := by
  show noLL [.tup ((jn X).map fS), .int (sumD X)] = true
  simp [noLL, noL, noLL_map]
theorem o_eqBk {X Y : List St0} {b : Bool} (e : decide (jn X = jn Y) = b) {Q : D → Prop} (h : Q (.bl b)) : fEqO 1 [0, 1] w_BookU_eqU (bk X) (bk Y) Q := o_eqO rfl noL_bk (beq_specE e ⟨b, rfl, h⟩)
theorem add_specE {A B Y : List St0} (h1 : ¬ 400 < ((jn A).length + (jn B).length : Int)) (h2 : sumD A + sumD B ≤ 1000000000000000000000000000000) (e : jn (A ++ B) = jn Y) {P : D → Prop} {P2 : Exn → Prop} (gA : Good A) (gB : Good B) (h : P (bk Y)) : w_BookU_addU [bk A, bk B] P P2 := by
  refine add_spec (fun z => absurd z h1) (fun _ z => absurd z (by omega)) (fun _ _ => ⟨good_bflt (by rw [List.length_append]; omega) (good_app (jn_good gA) (jn_good gB)) (by rw [sumD_append, jn_sum, jn_sum]; exact h2), ?_⟩)
  rw [bk_eq (show jn (jn A ++ jn B) = jn Y by rw [← e]; exact jn_cong (jn_idem A) (jn_idem B))]
  exact h
theorem onF_len {X : List St0} (hg : Good X) : ∀ {s : Int}, (onF X s).length ≤ 12 := by
  induction X with
  | nil => intro s; exact Nat.zero_le _
  | cons r X ih =>
    intro s
    show (if s ≤ r.1 then r.2 else onF X (s - r.1)).length ≤ 12
    split
    · exact (hg r List.mem_cons_self).2.2
    · exact ih fun x hx => hg x (List.mem_cons_of_mem _ hx)
/-! ### k04: halves -/
theorem part_0 {rows : List St0} {k : Int} (h0 : 0 ≤ k) (hl : rows.length ≤ 1000) (hg : Good rows) {P : D → Prop} {P2 : Exn → Prop} (h : P (.lst ((hd k rows).map fS))) : w__law_part [.lst (rows.map fS), .int 0, .int k] P P2 :=
  part_spec2 (by decide) h0 hl hg (by rw [tl_zero (hd_good hg).1]; exact h)
theorem part_1 {rows : List St0} {k : Int} (h0 : 0 ≤ k) (h1 : k ≤ sumD rows) (hl : rows.length ≤ 1000) (hg : Good rows) {P : D → Prop} {P2 : Exn → Prop} (h : P (.lst ((tl k rows).map fS))) : w__law_part [.lst (rows.map fS), .int k, .int (sumD rows)] P P2 :=
  part_spec2 h0 h1 hl hg (by rw [hd_all hg (Int.le_refl _)]; exact h)
theorem okS_ints2 {g : List Int} (h : g.length ≤ 12) : okS 6 (.tup (g.map .int)) := ⟨by rw [List.length_map]; have hz : szl = 16777216 := rfl; omega, okS_ints g⟩
theorem on_specE {rows : List St0} {s : Int} {g : List Int} (e : onF rows s = g) {P : D → Prop} {P2 : Exn → Prop} (h : P (.tup (g.map .int))) : w__law_on [.lst (rows.map fS), .int s] P P2 := on_spec (by rw [e]; exact h)
theorem halves_spec {X : List St0} (b : Bk X) {k : Int} (h0 : 0 ≤ k) (h1 : k ≤ sumD X) {P : D → Prop} {P2 : Exn → Prop} (h : P (.bl true)) : w__law_halves [.pool, bk X, .lst (X.map fS), .int (sumD X), .int k] P P2 := by
  have b1 := b.1
  have b2 := b.2.1
  have b3 := b.2.2
  have bh := b.hd h0
  have bt := b.tl h0
  have gh := bh.2.1
  have gt := bt.2.1
  have sh : sumD (hd k X) = k := by rw [hd_sum h0 b2]; split <;> omega
  have st : sumD (tl k X) = sumD X - k := by rw [tl_sum h0 b2]; split <;> omega
  have hl1 : (hd k X).length ≤ 1000 := by have := bh.1; omega
  have hl2 : (tl k X).length ≤ 1000 := by have := bt.1; omega
  have e3 : decide (jn X = jn X) = true := decide_eq_true rfl
  unfold w__law_halves wpB b__law_halves
  with_reducible refine w_seq ?_
  repeat' (first | infer_instance | (with_reducible refine asked_h b h0 h1 ?_) | fail)
  with_reducible refine w_seq ?_
  repeat' (first | infer_instance | (with_reducible refine asked_t b h0 h1 ?_) | fail)
  with_reducible refine w_cut (fun δ => δ = [some (.d .pool), some (.d (bk X)), some (.d (.lst (X.map fS))), some (.d (.int (sumD X))), some (.d (.int k)), some (.d (bk (hd k X))), some (.d (bk (tl k X))), none]) ?_ (fun K hK => ?_)
  case refine_2 =>
    repeat' (first | infer_instance | (with_reducible refine part_0 h0 (by omega) b2 ?_) | (with_reducible refine part_1 h0 h1 (by omega) b2 ?_) | (with_reducible refine isbookE (X := hd k X) (Y := hd k X) rfl hl1 gh ?_) | (with_reducible refine isbookE (X := tl k X) (Y := tl k X) rfl hl2 gt ?_) | fail)
    all_goals exact hK _ rfl
  rintro δ rfl
  with_reducible refine w_cut (fun δ => δ = [some (.d .pool), some (.d (bk X)), some (.d (.lst (X.map fS))), some (.d (.int (sumD X))), some (.d (.int k)), some (.d (bk (hd k X))), some (.d (bk (tl k X))), none]) ?_ (fun K hK => ?_)
  case refine_2 =>
    repeat' (first | infer_instance | fail)
    all_goals (try simp only [List.length_map] at *)
    · repeat' (first | infer_instance | (with_reducible refine e_addO ?_) | (with_reducible refine k_add ?_) | (with_reducible refine summed_spec (fun _ => ?_) (fun z _ => absurd c z) (fun z _ => absurd c z)) | (with_reducible refine same_refl 6 _ okStr1 ?_) | fail)
      all_goals first
        | exact hK _ rfl
        | (simp only [List.length_cons, List.length_nil]; decide)
        | trace_state
    · have e3 : decide (jn X = jn X) = true := decide_eq_true rfl
      repeat' (first | infer_instance | (with_reducible refine e_addO ?_) | (with_reducible refine k_add ?_) | (with_reducible refine add_specE (Y := X) c (by omega) (hd_tl b2) gh gt ?_) | (refine o_eqBk e3 ?_) | (with_reducible refine isbookE (X := X) (Y := X) rfl (by omega) b2 ?_) | fail)
      all_goals first
        | exact hK _ rfl
        | trace_state
  rintro δ rfl
  with_reducible refine w_cut (fun δ => ∃ o7, δ = [some (.d .pool), some (.d (bk X)), some (.d (.lst (X.map fS))), some (.d (.int (sumD X))), some (.d (.int k)), some (.d (bk (hd k X))), some (.d (bk (tl k X))), o7]) ?_ (fun K hK => ?_)
  case refine_2 =>
    repeat' (first | infer_instance | (with_reducible refine w_seq ?_) | (with_reducible refine upto_spec ?_ ?_ (fun r hr0 hr1 => ?_)) | fail)
    all_goals first
      | omega
      | exact hK _ ⟨_, rfl⟩
      | skip
    have ee := onF_hd b2 h0 (s := 1 + r) (by omega) (by omega) h1
    have okT := okS_ints2 (g := onF (hd k X) (1 + r)) (onF_len bh.2.1)
    repeat' (first | infer_instance | (with_reducible refine w_seq ?_) | (with_reducible refine runon_spec bh (by omega) (by omega) ?_) | (with_reducible refine on_specE ee.symm ?_) | (with_reducible refine same_refl 6 _ okT ?_) | fail)
    all_goals first
      | exact hK _ ⟨_, rfl⟩
      | trace_state
  rintro δ ⟨o7, rfl⟩
  repeat' (first | infer_instance | (with_reducible refine w_seq ?_) | (with_reducible refine upto_spec ?_ ?_ (fun r hr0 hr1 => ?_)) | fail)
  all_goals first
    | omega
    | exact h
    | skip
  have ee := onF_tl b2 h0 (s := 1 + r) (by omega) (by omega)
  have okT := okS_ints2 (g := onF (tl k X) (1 + r)) (onF_len bt.2.1)
  repeat' (first | infer_instance | (with_reducible refine w_seq ?_) | (with_reducible refine runon_spec bt (by omega) (by omega) ?_) | (with_reducible refine on_specE ee.symm ?_) | (with_reducible refine same_refl 6 _ okT ?_) | fail)
  all_goals first
    | exact h
    | trace_state
theorem refused_spec {X : List St0} (b : Bk X) {P : D → Prop} {P2 : Exn → Prop} (h : P (.bl true)) : w__law_refused [.pool, bk X, .int (sumD X)] P P2 := by
  have n0 := sumD_nn b.2.1
  have sd : PyData.strOk ("days" : Str) = true := by decide +kernel
  have ok : ∀ i : Int, okS 6 (.tup [.int i, .str "days"]) := fun i => by
    refine ⟨by simp only [List.length_cons, List.length_nil]; decide, fun d hd => ?_⟩
    simp only [List.mem_cons, List.not_mem_nil, or_false] at hd
    rcases hd with rfl | rfl
    · trivial
    · exact sd
  unfold w__law_refused wpB b__law_refused
  with_reducible refine w_seq ?_
  repeat' (first | infer_instance | (with_reducible refine great_spec ?_ ?_ (fun r hr0 hr1 => ?_)) | fail)
  all_goals first
    | decide
    | skip
  revert r
  intro lo hl0 hl1
  with_reducible refine w_seq ?_
  repeat' (first | infer_instance | (with_reducible refine great_spec ?_ ?_ (fun r hr0 hr1 => ?_)) | fail)
  all_goals first
    | decide
    | skip
  with_reducible refine w_seq ?_
  repeat' (first | infer_instance | fail)
  all_goals first
    | (unfold b62; omega)
    | (unfold b62; decide)
    | skip
  refine w_forP (fun (i : Nat) => D.int (0 + i)) (List.range (Int.toNat 2)) (fun _ δ => ∃ o5, δ = [some (.d .pool), some (.d (bk X)), some (.d (.int (sumD X))), some (.d (.int (-1 - lo))), some (.d (.int (sumD X + 1 + r))), o5]) (rangeD_map _ _) ?_ ?_ ⟨none, rfl⟩
  · rintro δ ⟨o5, rfl⟩
    repeat' (first | infer_instance | (with_reducible refine w_seq ?_) | fail)
    exact h
  · rintro pre x post δ k e ⟨o5, rfl⟩ hk
    repeat' (first | infer_instance | (with_reducible refine w_seq ?_) | (with_reducible refine asked_b (by omega) ?_) | (with_reducible refine same_refl 6 _ (ok _) ?_) | fail)
    all_goals first
      | (simp only [List.length_cons, List.length_nil]; decide)
      | exact hk _ ⟨_, rfl⟩
      | trace_state
/-! ### k04: turned -/
theorem o_bool {b : Bool} {Q : D → Prop} (q : Q (.bl b)) : fBool [.bl b] Q := q
theorem turned_spec {X : List St0} (b : Bk X) {P : D → Prop} {P2 : Exn → Prop} (h : P (.bl true)) : w__law_turned [bk X, .lst (X.map fS)] P P2 := by
  have hz : szl = 16777216 := rfl
  have b1 := b.1
  have b2 := b.2.1
  have br := b.rev
  have gr := br.2.1
  have hlr : X.reverse.length ≤ 1000 := by have := br.1; omega
  unfold w__law_turned wpB b__law_turned
  with_reducible refine w_seq ?_
  repeat' (first | infer_instance | fail)
  all_goals (try simp only [List.length_map] at *)
  all_goals first
    | (unfold b62; omega)
    | skip
  have hz : szl = 16777216 := rfl
  refine w_lcM (fun (i : Nat) => D.int (0 + i)) (List.range (Int.toNat (X.length : Int))) (fun i => fS (X.reverse.getD i (0, []))) (rangeD_map _ _) (by rw [List.length_range]; omega) (fun i hi K hK => ?_) ?_
  · have hi' : i < X.length := by have := List.mem_range.mp hi; omega
    have ha : atI (X.map fS) ((X.length : Int) - 1 - (0 + (i : Int))) = some (fS (X.reverse.getD i (0, []))) := by
      have e : (X.length : Int) - 1 - (0 + (i : Int)) = 0 + ((X.length - 1 - i : Nat) : Int) := by omega
      rw [e, atI_nat (by rw [List.length_map]; omega), List.getElem_map]
      congr 2
      rw [List.getD_eq_getElem?_getD, List.getElem?_eq_getElem (by rw [List.length_reverse]; exact hi'), List.getElem_reverse]
      rfl
    repeat' (first | infer_instance | fail)
    all_goals (try simp only [List.length_map])
    refine o_ixL ha ?_
    exact hK
  have eb : (List.range (Int.toNat (X.length : Int))).map (fun i => fS (X.reverse.getD i (0, []))) = X.reverse.map fS := by
    apply List.ext_getElem
    · simp
    · intro i h1 h2
      rw [List.getElem_map, List.getElem_map, List.getElem_range]
      rw [List.length_map] at h2
      rw [List.getD_eq_getElem?_getD, List.getElem?_eq_getElem h2]
      rfl
  rw [eb]
  have e1 : jn X.reverse.reverse = jn X := by rw [List.reverse_reverse]
  with_reducible refine w_seq ?_
  repeat' (first | infer_instance | (with_reducible refine flip_spec b ?_) | fail)
  with_reducible refine w_seq ?_
  repeat' (first | infer_instance | (with_reducible refine isbookE (X := X.reverse) (Y := X.reverse) rfl hlr gr ?_) | (with_reducible refine flip_spec br ?_) | (with_reducible refine isbookE e1 (by omega) b2 ?_) | fail)
  refine o_eqBk (b := decide (jn X.reverse = jn X)) rfl ?_
  with_reducible refine a_nil ?_
  refine o_bool ?_
  repeat' (first | infer_instance | (with_reducible refine joined_spec hlr ?_) | (with_reducible refine joined_spec (rows := X) (by omega) ?_) | (with_reducible refine o_eqFL ?_) | fail)
  try rw [decide_eq_true rfl]
  exact h
/-! ### k04: the law -/
theorem w_asgF {pe : PX} {i : Nat} {P : PEnds} {δ : Dl} (h : pe δ (fun d => match d with | .lst ds => P.nx (δ.set i (some (if frs ds = true then .own none ds else .d (.lst ds)))) | _ => False) (P.ex δ)) : pAsgF pe i P δ := h
theorem e_callF {g : PSp} {p : PAx} {δ : Dl} {Q : D → Prop} {Q2 : Exn → Prop} (h : p δ (fun ds => ds.all argF = true ∧ g ds (fun d => ∃ es, d = .lst es ∧ noLL es = true ∧ Q (.lst es)) (fun e => noLL e.ds = true ∧ Q2 e)) Q2) : pCallF g p δ Q Q2 := h
theorem o_neFN {L : List St0} {Q : D → Prop} (h0 : L = [] → Q (.bl false)) (h1 : L ≠ [] → Q (.bl true)) : fNe (.lst (L.map fS)) (.lst []) Q := by
  have e : (.lst (L.map fS) : D) = DTy.d (L.map cvS) := by
    show D.lst (L.map fS) = D.lst ((L.map cvS).map DTy.d)
    rw [List.map_map]
    rfl
  have e0 : (.lst [] : D) = DTy.d (([] : List (Int × Tp Int))) := rfl
  rw [e, e0]
  refine o_neT (α := List (Int × Tp Int)) (by decide) ?_
  by_cases h : L = []
  · rw [decide_eq_true (by rw [h]; rfl)]
    exact h0 h
  · rw [decide_eq_false (fun z => h (List.map_eq_nil_iff.mp z))]
    exact h1 h
theorem sumc {X : List St0} (hl : X.length ≤ 400) {pg : D → Dl → (Dl → Prop) → Prop} {pe : PX} {δ : Dl} {Q : D → Prop} (hpe : ∀ (x : St0) (K : D → Prop), K (.int x.1) → pg (fS x) δ fun δ' => pe δ' K fun _ => False) (h : Q (.lst ((X.map (·.1)).map D.int))) : pLcL pg pYes pe δ Q (X.map fS) [] := by
  refine w_lcM fS X (fun x => D.int x.1) rfl (by have hz : szl = 16777216 := rfl; omega) (fun x hx K hK => hpe x K hK) ?_
  rw [sumRows]
  exact h
theorem sumD_cons (r : St0) (rs : List St0) : sumD (r :: rs) = r.1 + sumD rs := by simp [sumD]
theorem o_maxI {ns : List Int} {Q : D → Prop} (h : 0 < ns.length) (q : ∀ M, M ∈ ns → (∀ y ∈ ns, y ≤ M) → Q (.int M)) : fMaxL [.lst (ns.map .int)] Q := by
  unfold fMaxL
  simp only [intsD_map]
  exact ⟨h, q⟩
theorem o_minI {ns : List Int} {Q : D → Prop} (h : 0 < ns.length) (q : ∀ M, M ∈ ns → (∀ y ∈ ns, M ≤ y) → Q (.int M)) : fMinL [.lst (ns.map .int)] Q := by
  unfold fMinL
  simp only [intsD_map]
  exact ⟨h, q⟩
theorem bk_app {X Y : List St0} (bX : Bk X) (bY : Bk Y) (hl : X.length + Y.length ≤ 400) (hs : sumD X + sumD Y ≤ 1000000000000000000000000000000) : Bk (X ++ Y) :=
  ⟨by rw [List.length_append]; exact hl, good_app bX.2.1 bY.2.1, by rw [sumD_append]; exact hs⟩
theorem sumD_rev (X : List St0) : sumD X.reverse = sumD X := by
  unfold sumD
  rw [List.map_reverse]
  exact List.sum_reverse _
theorem o_sumX {X : List St0} {Q : D → Prop} (h : Q (.int (sumD X))) : fSumA [.lst ((X.map (·.1)).map D.int)] Q := o_sumI rfl h
def sA (ns : List Int) (X : List St0) (δ : Dl) : Prop := ∃ (Y : List St0) (o8 : Option S) (mn mo : Int), Bk Y ∧ X.length + Y.length ≤ 400 ∧ sumD X + sumD Y ≤ 1000000000000000000000000000000 ∧ (o8 = some (.own none (Y.map fS)) ∨ o8 = some (.d (.lst (Y.map fS)))) ∧
  δ = [some (.d (.script ns)), some (.d .pool), some (.d (.int mn)), some (.d (.lst (X.map fS))), some (.d (.int (sumD X))), none, some (.d (bk X)), some (.d (.int mo)), o8, none, none, none, none, none, none, none]
theorem pure_law (ns : List Int) (hns : ns.length ≤ 63) : w_law [.script ns] (fun d => d = .bl true) (fun _ => False) := by
  have hz : szl = 16777216 := rfl
  unfold w_law wpB b_law
  with_reducible refine w_seq ?_
  repeat' (first | infer_instance | (unfold w__law_pool; with_reducible refine fnew hns ?_) | fail)
  with_reducible refine w_seq ?_
  repeat' (first | infer_instance | fail)
  all_goals first
    | decide
    | skip
  with_reducible refine w_cut (fun δ => ∃ mn : Int, 0 ≤ mn ∧ mn ≤ 400 ∧ δ = [some (.d (.script ns)), some (.d .pool), some (.d (.int mn)), none, none, none, none, none, none, none, none, none, none, none, none, none]) ?_ (fun K hK => ?_)
  case refine_2 =>
    repeat' (first | infer_instance | fail)
    all_goals first
      | decide
      | exact hK _ ⟨_, by omega, by omega, rfl⟩
  rintro δ ⟨mn, hmn0, hmn1, rfl⟩
  with_reducible refine w_seq ?_
  repeat' (first | (with_reducible refine strs_spec ?_ ?_ ?_ ?_ (fun X hX1 hX2 hX3 => ?_)) | infer_instance | fail)
  all_goals first
    | omega
    | decide
    | skip
  have bX : Bk X := ⟨by omega, hX2, hX3⟩
  have gX := bX.2.1
  have nX := sumD_nn gX
  have hbX := good_bflt bX.1 gX hX3
  have hX400 : X.length ≤ 400 := bX.1
  with_reducible refine w_seq ?_
  repeat' (first | infer_instance | (with_reducible refine l_items rfl ?_) | fail)
  refine sumc hX400 (fun x K hK => ?_) ?_
  · refine g_name ?_
    have er : fS x = .tup [.int x.1, .tup (x.2.map .int)] := rfl
    rw [er]
    repeat' (first | infer_instance | fail)
    exact hK
  repeat' (first | infer_instance | (with_reducible refine o_sumX ?_) | fail)
  with_reducible refine w_seq ?_
  repeat' (first | infer_instance | (with_reducible refine book_init rowS rfl (fun _ => ?_) (fun a s e => ?_)) | fail)
  all_goals first
    | (rw [hbX] at e; cases e)
    | skip
  with_reducible refine w_cut (fun δ => ∃ mo : Int, 0 ≤ mo ∧ mo ≤ 400 - mn ∧ mo ≤ 1000000000000000000000000000000 - sumD X ∧ δ = [some (.d (.script ns)), some (.d .pool), some (.d (.int mn)), some (.d (.lst (X.map fS))), some (.d (.int (sumD X))), none, some (.d (bk X)), some (.d (.int mo)), none, none, none, none, none, none, none, none]) ?_ (fun K hK => ?_)
  case refine_2 =>
    repeat' (first | infer_instance | fail)
    all_goals first
      | decide
      | skip
    refine hK _ ⟨_, ?_, ?_, ?_, rfl⟩
    · split <;> split <;> omega
    · split <;> split <;> omega
    · split <;> split <;> omega
  rintro δ ⟨mo, hmo0, hmo1, hmo2, rfl⟩
  with_reducible refine w_cut (fun δ => ∃ (Y : List St0) (o8 : Option S), Bk Y ∧ X.length + Y.length ≤ 400 ∧ sumD X + sumD Y ≤ 1000000000000000000000000000000 ∧ (o8 = some (.own none (Y.map fS)) ∨ (o8 = some (.d (.lst (Y.map fS))) ∧ Y = [])) ∧ δ = [some (.d (.script ns)), some (.d .pool), some (.d (.int mn)), some (.d (.lst (X.map fS))), some (.d (.int (sumD X))), none, some (.d (bk X)), some (.d (.int mo)), o8, none, none, none, none, none, none, none]) ?_ (fun K hK => ?_)
  case refine_2 =>
    refine w_asgF ?_
    refine e_callF ?_
    repeat' (first | infer_instance | fail)
    · rfl
    refine strs_spec hmo0 (by omega) (by omega) (by omega) (fun Y hY1 hY2 hY3 => ⟨_, rfl, noLL_map, ?_⟩)
    by_cases hf : frs (Y.map fS) = true
    · refine hK _ ⟨Y, some (.own none (Y.map fS)), ⟨by omega, hY2, by omega⟩, by omega, by omega, .inl rfl, ?_⟩
      show List.set _ 8 (some (if frs (Y.map fS) = true then _ else _)) = _
      rw [if_pos hf]
      rfl
    · have hy0 : Y = [] := by
        cases Y with
        | nil => rfl
        | cons y Ys => exact absurd rfl hf
      refine hK _ ⟨Y, some (.d (.lst (Y.map fS))), ⟨by omega, hY2, by omega⟩, by omega, by omega, .inr ⟨rfl, hy0⟩, ?_⟩
      show List.set _ 8 (some (if frs (Y.map fS) = true then _ else _)) = _
      rw [if_neg hf]
      rfl
  rintro δ ⟨Y, o8, bY, hl8, hs8, ho8, rfl⟩
  with_reducible refine w_cut (fun δ => ∃ (Y : List St0) (o8 : Option S), Bk Y ∧ X.length + Y.length ≤ 400 ∧ sumD X + sumD Y ≤ 1000000000000000000000000000000 ∧ (o8 = some (.own none (Y.map fS)) ∨ o8 = some (.d (.lst (Y.map fS)))) ∧ δ = [some (.d (.script ns)), some (.d .pool), some (.d (.int mn)), some (.d (.lst (X.map fS))), some (.d (.int (sumD X))), none, some (.d (bk X)), some (.d (.int mo)), o8, none, none, none, none, none, none, none]) ?_ (fun K hK => ?_)
  case refine_2 =>
    rcases ho8 with rfl | ⟨rfl, rfl⟩
    · have kY := hK _ ⟨Y, _, bY, hl8, hs8, .inl rfl, rfl⟩
      repeat' (first | infer_instance | (with_reducible refine o_neFN (fun z => ?_) (fun z => ?_)) | fail)
      all_goals first
        | exact Nat.zero_le _
        | decide
        | exact kY
        | skip
      have zx : X ≠ [] := by assumption
      have zy : Y ≠ [] := by assumption
      obtain ⟨y, Ys, rfl⟩ := List.exists_cons_of_ne_nil zy
      obtain ⟨l, hl⟩ : ∃ l, X.getLast? = some l := ⟨_, List.getLast?_eq_some_getLast zx⟩
      have hlX := gX l (List.mem_of_getLast? hl)
      have e0 : atI ((y :: Ys).map fS) 0 = some (.tup [.int y.1, .tup (y.2.map .int)]) := by rw [List.map_cons]; exact atI_zero
      have e1 : atI (X.map fS) (-1) = some (.tup [.int l.1, .tup (l.2.map .int)]) := atI_last (by rw [List.getLast?_map, hl]; rfl)
      have kY2 := hK _ ⟨(y.1, l.2) :: Ys, _, ⟨bY.1, fun r hr => by
        rcases List.mem_cons.mp hr with rfl | hr
        · exact ⟨(bY.2.1 y List.mem_cons_self).1, hlX.2⟩
        · exact bY.2.1 r (List.mem_cons_of_mem _ hr), by have := bY.2.2; rw [sumD_cons] at this ⊢; exact this⟩, hl8, by rw [sumD_cons] at hs8 ⊢; exact hs8, .inl rfl, rfl⟩
      repeat' (first | infer_instance | (with_reducible refine o_ixL e0 ?_) | (with_reducible refine o_ixL e1 ?_) | fail)
      all_goals first
        | (simp only [List.length_cons, List.length_nil]; decide)
        | skip
      refine k_setM (φ := fS) (y := (y.1, l.2)) (by decide) (by simp only [List.length_cons]; omega) ?_
      exact kY2
    · have kY := hK _ ⟨[], _, bY, hl8, hs8, .inr rfl, rfl⟩
      rw [List.map_nil] at kY ⊢
      repeat' (first | infer_instance | (with_reducible refine o_neFN (fun z => ?_) (fun z => ?_)) | (with_reducible refine o_neNil0 ?_) | fail)
      all_goals first
        | exact Nat.zero_le _
        | decide
        | exact kY
        | skip
  rintro δ ⟨Y, o8, bY, hl8, hs8, ho8, rfl⟩
  have gY := bY.2.1
  have nY := sumD_nn gY
  have hbY := good_bflt bY.1 gY bY.2.2
  have hY400 : Y.length ≤ 400 := bY.1
  with_reducible refine w_cut (fun δ => ∃ (c1 c2 : Int) (o8 : Option S), 0 ≤ c1 ∧ c1 ≤ sumD X ∧ 0 ≤ c2 ∧ c2 ≤ sumD X ∧ (o8 = some (.own none (Y.map fS)) ∨ o8 = some (.d (.lst (Y.map fS)))) ∧ δ = [some (.d (.script ns)), some (.d .pool), some (.d (.int mn)), some (.d (.lst (X.map fS))), some (.d (.int (sumD X))), none, some (.d (bk X)), some (.d (.int mo)), o8, some (.d (bk Y)), none, none, none, none, none, none]) ?_ (fun K hK => ?_)
  case refine_2 =>
    rcases ho8 with rfl | rfl
    · repeat' (first | infer_instance | (with_reducible refine book_init rowS rfl (fun _ => ?_) (fun a s e => ?_)) | fail)
      all_goals first
        | (rw [hbY] at e; cases e)
        | exact hK _ ⟨0, 0, _, by omega, by omega, by omega, by omega, .inl rfl, rfl⟩
    · repeat' (first | infer_instance | (with_reducible refine book_init rowS rfl (fun _ => ?_) (fun a s e => ?_)) | fail)
      all_goals first
        | (rw [hbY] at e; cases e)
        | exact hK _ ⟨0, 0, _, by omega, by omega, by omega, by omega, .inr rfl, rfl⟩
  clear ho8
  rintro δ ⟨_, _, o8, _, _, _, _, ho8, rfl⟩
  with_reducible refine w_seq ?_
  repeat' (first | infer_instance | fail)
  refine cutr_spec bX (fun c1 h10 h11 => ?_)
  repeat' (first | infer_instance | fail)
  refine cutr_spec bX (fun c2 h20 h21 => ?_)
  repeat' (first | infer_instance | fail)
  · simp only [List.length_cons, List.length_nil]; decide
  with_reducible refine w_cut (fun δ => ∃ (o11 : Option S), δ = [some (.d (.script ns)), some (.d .pool), some (.d (.int mn)), some (.d (.lst (X.map fS))), some (.d (.int (sumD X))), none, some (.d (bk X)), some (.d (.int mo)), o8, some (.d (bk Y)), some (.d (.lst [.int c1, .int c2])), o11, none, none, none, none]) ?_ (fun K hK => ?_)
  case refine_2 =>
    with_reducible refine w_for ?_
    with_reducible refine l_seq ?_
    refine e_var (d := .lst [.int c1, .int c2]) rfl ?_
    show pForL _ _ _ [.int c1, .int c2] _
    refine w_forP D.int [c1, c2] (fun _ δ => ∃ (o11 : Option S), δ = [some (.d (.script ns)), some (.d .pool), some (.d (.int mn)), some (.d (.lst (X.map fS))), some (.d (.int (sumD X))), none, some (.d (bk X)), some (.d (.int mo)), o8, some (.d (bk Y)), some (.d (.lst [.int c1, .int c2])), o11, none, none, none, none]) rfl ?_ ?_ ⟨none, rfl⟩
    · rintro δ hδ
      exact hK _ hδ
    · rintro pre x post δ k e ⟨o11, rfl⟩ hk
      have hx : 0 ≤ x ∧ x ≤ sumD X := by
        have : x ∈ [c1, c2] := by rw [e]; simp
        simp only [List.mem_cons, List.not_mem_nil, or_false] at this
        rcases this with rfl | rfl
        · exact ⟨h10, h11⟩
        · exact ⟨h20, h21⟩
      refine g_name ?_
      repeat' (first | infer_instance | (with_reducible refine halves_spec bX hx.1 hx.2 ?_) | fail)
      exact hk _ ⟨_, rfl⟩
  rintro δ ⟨o11, rfl⟩
  have mem2 : ∀ v, v ∈ [c1, c2] → 0 ≤ v ∧ v ≤ sumD X := fun v hv => by
    simp only [List.mem_cons, List.not_mem_nil, or_false] at hv
    rcases hv with rfl | rfl
    · exact ⟨h10, h11⟩
    · exact ⟨h20, h21⟩
  with_reducible refine w_seq ?_
  repeat' (first | infer_instance | fail)
  show fMinL [.lst ([c1, c2].map D.int)] _
  refine o_minI (by simp) (fun lo hlo1 hlo2 => ?_)
  with_reducible refine w_seq ?_
  repeat' (first | infer_instance | fail)
  show fMaxL [.lst ([c1, c2].map D.int)] _
  refine o_maxI (by simp) (fun hi hhi1 hhi2 => ?_)
  have hlo0 := (mem2 lo hlo1).1
  have hhis := (mem2 hi hhi1).2
  have hlh : lo ≤ hi := hhi2 lo hlo1
  have gh := (bX.hd (k := hi) (by omega)).2.1
  have bh := bX.hd (k := hi) (by omega)
  have bt := bX.tl (k := lo) hlo0
  have bht := bh.tl (k := lo) hlo0
  have sh : sumD (hd hi X) = hi := by rw [hd_sum (by omega) gX]; split <;> omega
  have st : sumD (tl lo X) = sumD X - lo := by rw [tl_sum hlo0 gX]; split <;> omega
  have lht : (tl lo (hd hi X)).length ≤ 1000 := by have := bht.1; omega
  have ght := bht.2.1
  have e1 : jn (hd (hi - lo) (tl lo X)) = jn (tl lo (hd hi X)) := congrArg jn (hd_of_tl hlo0 hlh gX)
  with_reducible refine w_seq ?_
  repeat' (first | infer_instance | (with_reducible refine part_spec2 hlo0 hlh (by omega) gX ?_) | fail)
  with_reducible refine w_cut (fun δ => δ = [some (.d (.script ns)), some (.d .pool), some (.d (.int mn)), some (.d (.lst (X.map fS))), some (.d (.int (sumD X))), none, some (.d (bk X)), some (.d (.int mo)), o8, some (.d (bk Y)), some (.d (.lst [.int c1, .int c2])), o11, some (.d (.int lo)), some (.d (.int hi)), some (.d (.lst ((tl lo (hd hi X)).map fS))), none]) ?_ (fun K hK => ?_)
  case refine_2 =>
    repeat' (first | infer_instance | (with_reducible refine head_spec2 bX (by omega) hhis ?_) | (with_reducible refine tail_spec2 bh hlo0 (by omega) ?_) | (with_reducible refine isbookE (X := tl lo (hd hi X)) (Y := tl lo (hd hi X)) rfl lht ght ?_) | fail)
    all_goals exact hK _ rfl
  rintro δ rfl
  with_reducible refine w_cut (fun δ => δ = [some (.d (.script ns)), some (.d .pool), some (.d (.int mn)), some (.d (.lst (X.map fS))), some (.d (.int (sumD X))), none, some (.d (bk X)), some (.d (.int mo)), o8, some (.d (bk Y)), some (.d (.lst [.int c1, .int c2])), o11, some (.d (.int lo)), some (.d (.int hi)), some (.d (.lst ((tl lo (hd hi X)).map fS))), none]) ?_ (fun K hK => ?_)
  case refine_2 =>
    repeat' (first | infer_instance | (with_reducible refine tail_spec2 bX hlo0 (by omega) ?_) | (with_reducible refine head_spec2 bt (by omega) (by omega) ?_) | (with_reducible refine isbookE e1 lht ght ?_) | fail)
    all_goals exact hK _ rfl
  rintro δ rfl
  with_reducible refine w_cut (fun δ => δ = [some (.d (.script ns)), some (.d .pool), some (.d (.int mn)), some (.d (.lst (X.map fS))), some (.d (.int (sumD X))), none, some (.d (bk X)), some (.d (.int mo)), some (.d (.lst (Y.map fS))), some (.d (bk Y)), some (.d (.lst [.int c1, .int c2])), o11, some (.d (.int lo)), some (.d (.int hi)), some (.d (.lst ((tl lo (hd hi X)).map fS))), none]) ?_ (fun K hK => ?_)
  case refine_2 =>
    rcases ho8 with rfl | rfl
    · repeat' (first | infer_instance | (with_reducible refine turned_spec bX ?_) | (with_reducible refine turned_spec bY ?_) | fail)
      all_goals first
        | exact hK _ rfl
        | trace_state
    · repeat' (first | infer_instance | (with_reducible refine turned_spec bX ?_) | (with_reducible refine turned_spec bY ?_) | fail)
      all_goals first
        | exact hK _ rfl
        | trace_state
  rintro δ rfl
  clear ho8
  have bXY := bk_app bX bY hl8 hs8
  have bYX := bk_app bY bX (by omega) (by omega)
  have gXY := bXY.2.1
  have gYX := bYX.2.1
  have lXY : (X ++ Y).length ≤ 1000 := by have := bXY.1; omega
  have lYX : (Y ++ X).length ≤ 1000 := by have := bYX.1; omega
  have jX := jn_len X
  have jY := jn_len Y
  with_reducible refine w_cut (fun δ => δ = [some (.d (.script ns)), some (.d .pool), some (.d (.int mn)), some (.d (.lst (X.map fS))), some (.d (.int (sumD X))), none, some (.d (bk X)), some (.d (.int mo)), some (.d (.lst (Y.map fS))), some (.d (bk Y)), some (.d (.lst [.int c1, .int c2])), o11, some (.d (.int lo)), some (.d (.int hi)), some (.d (.lst ((tl lo (hd hi X)).map fS))), none]) ?_ (fun K hK => ?_)
  case refine_2 =>
    repeat' (first | infer_instance | (with_reducible refine e_addO ?_) | (with_reducible refine k_add ?_) | (with_reducible refine add_specE (A := X) (B := Y) (Y := X ++ Y) (by omega) (by omega) rfl gX gY ?_) | (with_reducible refine add_specE (A := Y) (B := X) (Y := Y ++ X) (by omega) (by omega) rfl gY gX ?_) | (with_reducible refine o_addL (φ := fS) (by omega) ?_) | (with_reducible refine isbookE (X := X ++ Y) (Y := X ++ Y) rfl lXY gXY ?_) | (with_reducible refine isbookE (X := Y ++ X) (Y := Y ++ X) rfl lYX gYX ?_) | fail)
    all_goals first
      | exact hK _ rfl
      | trace_state
  rintro δ rfl
  have bYr := bY.rev
  have bXr := bX.rev
  have gYr := bYr.2.1
  have gXr := bXr.2.1
  have rX := sumD_rev X
  have rY := sumD_rev Y
  have jXr := jn_len X.reverse
  have jYr := jn_len Y.reverse
  rw [List.length_reverse] at jXr jYr
  have er : decide (jn (X ++ Y).reverse = jn (Y.reverse ++ X.reverse)) = true := decide_eq_true (by rw [List.reverse_append])
  with_reducible refine w_cut (fun δ => δ = [some (.d (.script ns)), some (.d .pool), some (.d (.int mn)), some (.d (.lst (X.map fS))), some (.d (.int (sumD X))), none, some (.d (bk X)), some (.d (.int mo)), some (.d (.lst (Y.map fS))), some (.d (bk Y)), some (.d (.lst [.int c1, .int c2])), o11, some (.d (.int lo)), some (.d (.int hi)), some (.d (.lst ((tl lo (hd hi X)).map fS))), none]) ?_ (fun K hK => ?_)
  case refine_2 =>
    repeat' (first | infer_instance | (with_reducible refine e_addO ?_) | (with_reducible refine k_add ?_) | (with_reducible refine add_specE (A := X) (B := Y) (Y := X ++ Y) (by omega) (by omega) rfl gX gY ?_) | (with_reducible refine flip_spec bXY ?_) | (with_reducible refine flip_spec bX ?_) | (with_reducible refine flip_spec bY ?_) | (with_reducible refine add_specE (A := Y.reverse) (B := X.reverse) (Y := Y.reverse ++ X.reverse) (by omega) (by omega) rfl gYr gXr ?_) | (with_reducible refine o_eqBk er ?_) | fail)
    all_goals first
      | exact hK _ rfl
      | trace_state
  rintro δ rfl
  with_reducible refine w_cut (fun δ => δ = [some (.d (.script ns)), some (.d .pool), some (.d (.int mn)), some (.d (.lst (X.map fS))), some (.d (.int (sumD X))), none, some (.d (bk X)), some (.d (.int mo)), some (.d (.lst (Y.map fS))), some (.d (bk Y)), some (.d (.lst [.int c1, .int c2])), o11, some (.d (.int lo)), some (.d (.int hi)), some (.d (.lst ((tl lo (hd hi X)).map fS))), some (.d (.int (sumD Y)))]) ?_ (fun K hK => ?_)
  case refine_2 =>
    repeat' (first | infer_instance | (with_reducible refine l_items rfl ?_) | fail)
    refine sumc hY400 (fun x K hK => ?_) ?_
    · refine g_name ?_
      have er : fS x = .tup [.int x.1, .tup (x.2.map .int)] := rfl
      rw [er]
      repeat' (first | infer_instance | fail)
      exact hK
    repeat' (first | infer_instance | (with_reducible refine o_sumX ?_) | fail)
    exact hK _ rfl
  rintro δ rfl
  with_reducible refine w_cut (fun δ => δ = [some (.d (.script ns)), some (.d .pool), some (.d (.int mn)), some (.d (.lst (X.map fS))), some (.d (.int (sumD X))), none, some (.d (bk X)), some (.d (.int mo)), some (.d (.lst (Y.map fS))), some (.d (bk Y)), some (.d (.lst [.int c1, .int c2])), o11, some (.d (.int lo)), some (.d (.int hi)), some (.d (.lst ((tl lo (hd hi X)).map fS))), some (.d (.int (sumD Y)))]) ?_ (fun K hK => ?_)
  case refine_2 =>
    repeat' (first | infer_instance | (with_reducible refine cutr_spec bY (fun c hc0 hc1 => ?_)) | (with_reducible refine halves_spec bY hc0 hc1 ?_) | fail)
    all_goals first
      | exact hK _ rfl
      | trace_state
  rintro δ rfl
  with_reducible refine w_seq ?_
  repeat' (first | infer_instance | (with_reducible refine refused_spec bY ?_) | (with_reducible refine refused_spec bX ?_) | fail)
  repeat' (first | infer_instance | (with_reducible refine o_ixL0 ?_) | (with_reducible refine halves_spec bX h10 h11 ?_) | (with_reducible refine isbookE (X := X) (Y := X) rfl (by omega) gX ?_) | fail)
  all_goals first
    | rfl
    | trace_state
end Pu
set_option Elab.async false
set_option maxRecDepth 100000
set_option maxHeartbeats 2000000
set_option autoImplicit false
namespace Pu
open PySem PySem.Spec PyProof.Rows L2
theorem all_mk {P : Program} {w : World} {K : PySem.W.Frag} {h : Heap} {mg : Str → Option Value} {fa : Addr} (pure_law : ∀ ns : List Int, ns.length ≤ 63 → w_law [.script ns] (fun d => d = .bl true) (fun _ => False)) (X : K.In h) (G : h.Ns mainGlobals mg) (hfa : mg "law" = some (.ref fa))
    {a__law_pool a__law_take a__law_code a__law_great a__law_span a__law_group a__law_stretches a_ascending a_check_stretches a_join_neighbours a_BookU_initU a__law_part a__law_upto a__law_cut a__law_joined a__law_number a__law_same a__law_is_book a_BookU_eqU a_check_part a_rear_pairs a_Book_tail a_front_pairs a_Book_head a__law_asked a_BookU_addU a__law_summed a_check_morning a_Book_runners_on a__law_on a__law_halves a_Book_flipped a__law_turned a__law_refused a_law a_BadBookU_initU a_OutOfRangeU_initU A_Depot A_Book A_OutagainError A_OutOfRange A_BadDepot A_BadBook   : Addr} {oc__law_pool kV__law_pool dc__law_pool pm__law_pool cd__law_pool ct__law_pool oc__law_take kV__law_take dc__law_take pm__law_take cd__law_take ct__law_take oc__law_code kV__law_code dc__law_code pm__law_code cd__law_code ct__law_code oc__law_great kV__law_great dc__law_great pm__law_great cd__law_great ct__law_great oc__law_span kV__law_span dc__law_span pm__law_span cd__law_span ct__law_span oc__law_group kV__law_group dc__law_group pm__law_group cd__law_group ct__law_group oc__law_stretches kV__law_stretches dc__law_stretches pm__law_stretches cd__law_stretches ct__law_stretches oc_ascending kV_ascending dc_ascending pm_ascending cd_ascending ct_ascending oc_check_stretches kV_check_stretches dc_check_stretches pm_check_stretches cd_check_stretches ct_check_stretches oc_join_neighbours kV_join_neighbours dc_join_neighbours pm_join_neighbours cd_join_neighbours ct_join_neighbours oc_BookU_initU kV_BookU_initU dc_BookU_initU pm_BookU_initU cd_BookU_initU ct_BookU_initU oc__law_part kV__law_part dc__law_part pm__law_part cd__law_part ct__law_part oc__law_upto kV__law_upto dc__law_upto pm__law_upto cd__law_upto ct__law_upto oc__law_cut kV__law_cut dc__law_cut pm__law_cut cd__law_cut ct__law_cut oc__law_joined kV__law_joined dc__law_joined pm__law_joined cd__law_joined ct__law_joined oc__law_number kV__law_number dc__law_number pm__law_number cd__law_number ct__law_number oc__law_same kV__law_same dc__law_same pm__law_same cd__law_same ct__law_same oc__law_is_book kV__law_is_book dc__law_is_book pm__law_is_book cd__law_is_book ct__law_is_book oc_BookU_eqU kV_BookU_eqU dc_BookU_eqU pm_BookU_eqU cd_BookU_eqU ct_BookU_eqU oc_check_part kV_check_part dc_check_part pm_check_part cd_check_part ct_check_part oc_rear_pairs kV_rear_pairs dc_rear_pairs pm_rear_pairs cd_rear_pairs ct_rear_pairs oc_Book_tail kV_Book_tail dc_Book_tail pm_Book_tail cd_Book_tail ct_Book_tail oc_front_pairs kV_front_pairs dc_front_pairs pm_front_pairs cd_front_pairs ct_front_pairs oc_Book_head kV_Book_head dc_Book_head pm_Book_head cd_Book_head ct_Book_head oc__law_asked kV__law_asked dc__law_asked pm__law_asked cd__law_asked ct__law_asked oc_BookU_addU kV_BookU_addU dc_BookU_addU pm_BookU_addU cd_BookU_addU ct_BookU_addU oc__law_summed kV__law_summed dc__law_summed pm__law_summed cd__law_summed ct__law_summed oc_check_morning kV_check_morning dc_check_morning pm_check_morning cd_check_morning ct_check_morning oc_Book_runners_on kV_Book_runners_on dc_Book_runners_on pm_Book_runners_on cd_Book_runners_on ct_Book_runners_on oc__law_on kV__law_on dc__law_on pm__law_on cd__law_on ct__law_on oc__law_halves kV__law_halves dc__law_halves pm__law_halves cd__law_halves ct__law_halves oc_Book_flipped kV_Book_flipped dc_Book_flipped pm_Book_flipped cd_Book_flipped ct_Book_flipped oc__law_turned kV__law_turned dc__law_turned pm__law_turned cd__law_turned ct__law_turned oc__law_refused kV__law_refused dc__law_refused pm__law_refused cd__law_refused ct__law_refused oc_law kV_law dc_law pm_law cd_law ct_law oc_BadBookU_initU kV_BadBookU_initU dc_BadBookU_initU pm_BadBookU_initU cd_BadBookU_initU ct_BadBookU_initU oc_OutOfRangeU_initU kV_OutOfRangeU_initU dc_OutOfRangeU_initU pm_OutOfRangeU_initU cd_OutOfRangeU_initU ct_OutOfRangeU_initU : Value} {od__law_pool an__law_pool od__law_take an__law_take od__law_code an__law_code od__law_great an__law_great od__law_span an__law_span od__law_group an__law_group od__law_stretches an__law_stretches od_ascending an_ascending od_check_stretches an_check_stretches od_join_neighbours an_join_neighbours od_BookU_initU an_BookU_initU od__law_part an__law_part od__law_upto an__law_upto od__law_cut an__law_cut od__law_joined an__law_joined od__law_number an__law_number od__law_same an__law_same od__law_is_book an__law_is_book od_BookU_eqU an_BookU_eqU od_check_part an_check_part od_rear_pairs an_rear_pairs od_Book_tail an_Book_tail od_front_pairs an_front_pairs od_Book_head an_Book_head od__law_asked an__law_asked od_BookU_addU an_BookU_addU od__law_summed an__law_summed od_check_morning an_check_morning od_Book_runners_on an_Book_runners_on od__law_on an__law_on od__law_halves an__law_halves od_Book_flipped an_Book_flipped od__law_turned an__law_turned od__law_refused an__law_refused od_law an_law od_BadBookU_initU an_BadBookU_initU od_OutOfRangeU_initU an_OutOfRangeU_initU : Option Addr} {sl__law_pool sl__law_take sl__law_code sl__law_great sl__law_span sl__law_group sl__law_stretches sl_ascending sl_check_stretches sl_join_neighbours sl_BookU_initU sl__law_part sl__law_upto sl__law_cut sl__law_joined sl__law_number sl__law_same sl__law_is_book sl_BookU_eqU sl_check_part sl_rear_pairs sl_Book_tail sl_front_pairs sl_Book_head sl__law_asked sl_BookU_addU sl__law_summed sl_check_morning sl_Book_runners_on sl__law_on sl__law_halves sl_Book_flipped sl__law_turned sl__law_refused sl_law sl_BadBookU_initU sl_OutOfRangeU_initU : Array (Option Value)} {nm_BadBook q_BadBook : Str} {N_BadBook : Addr} {bs_BadBook bm_BadBook : List Value} {sn_BadBook : List Str} {sub_BadBook : List Value} {ab_BadBook : Bool} {col_BadBook : Option Bool} {dd_BadBook : Option Addr} {k0_BadBook k1_BadBook k2_BadBook k3_BadBook k5_BadBook : Option Value} {nm_OutOfRange q_OutOfRange : Str} {N_OutOfRange : Addr} {bs_OutOfRange bm_OutOfRange : List Value} {sn_OutOfRange : List Str} {sub_OutOfRange : List Value} {ab_OutOfRange : Bool} {col_OutOfRange : Option Bool} {dd_OutOfRange : Option Addr} {k0_OutOfRange k1_OutOfRange k2_OutOfRange k3_OutOfRange k5_OutOfRange : Option Value} {t_Depot_MOST_DRIVERS : Tok} {t_MOST_STRETCHES : Tok} {t_MOST_DAYS : Tok}
    (h_lk__law_pool : K.lookup a__law_pool = some ⟨oc__law_pool, od__law_pool, .func (PySem.W.fnOf "_law_pool" "_law_pool" (defArgs s__law_pool) (defBody s__law_pool) (defScope s__law_pool) .none kV__law_pool dc__law_pool pm__law_pool an__law_pool cd__law_pool ct__law_pool), sl__law_pool⟩)
    (h_co__law_pool : PySem.W.codeIn K cd__law_pool "_law_pool" = true)
    (h_kp__law_pool : PySem.W.keepIn K (.ref a__law_pool) = true)
    (h_ns__law_pool : PySem.W.nsIn K mainGlobals "_law_pool" = some (some (.ref a__law_pool)))
    (h_lk__law_take : K.lookup a__law_take = some ⟨oc__law_take, od__law_take, .func (PySem.W.fnOf "_law_take" "_law_take" (defArgs s__law_take) (defBody s__law_take) (defScope s__law_take) .none kV__law_take dc__law_take pm__law_take an__law_take cd__law_take ct__law_take), sl__law_take⟩)
    (h_co__law_take : PySem.W.codeIn K cd__law_take "_law_take" = true)
    (h_kp__law_take : PySem.W.keepIn K (.ref a__law_take) = true)
    (h_ns__law_take : PySem.W.nsIn K mainGlobals "_law_take" = some (some (.ref a__law_take)))
    (h_lk__law_code : K.lookup a__law_code = some ⟨oc__law_code, od__law_code, .func (PySem.W.fnOf "_law_code" "_law_code" (defArgs s__law_code) (defBody s__law_code) (defScope s__law_code) .none kV__law_code dc__law_code pm__law_code an__law_code cd__law_code ct__law_code), sl__law_code⟩)
    (h_co__law_code : PySem.W.codeIn K cd__law_code "_law_code" = true)
    (h_kp__law_code : PySem.W.keepIn K (.ref a__law_code) = true)
    (h_ns__law_code : PySem.W.nsIn K mainGlobals "_law_code" = some (some (.ref a__law_code)))
    (h_lk__law_great : K.lookup a__law_great = some ⟨oc__law_great, od__law_great, .func (PySem.W.fnOf "_law_great" "_law_great" (defArgs s__law_great) (defBody s__law_great) (defScope s__law_great) .none kV__law_great dc__law_great pm__law_great an__law_great cd__law_great ct__law_great), sl__law_great⟩)
    (h_co__law_great : PySem.W.codeIn K cd__law_great "_law_great" = true)
    (h_kp__law_great : PySem.W.keepIn K (.ref a__law_great) = true)
    (h_ns__law_great : PySem.W.nsIn K mainGlobals "_law_great" = some (some (.ref a__law_great)))
    (h_lk__law_span : K.lookup a__law_span = some ⟨oc__law_span, od__law_span, .func (PySem.W.fnOf "_law_span" "_law_span" (defArgs s__law_span) (defBody s__law_span) (defScope s__law_span) .none kV__law_span dc__law_span pm__law_span an__law_span cd__law_span ct__law_span), sl__law_span⟩)
    (h_co__law_span : PySem.W.codeIn K cd__law_span "_law_span" = true)
    (h_kp__law_span : PySem.W.keepIn K (.ref a__law_span) = true)
    (h_ns__law_span : PySem.W.nsIn K mainGlobals "_law_span" = some (some (.ref a__law_span)))
    (h_lk__law_group : K.lookup a__law_group = some ⟨oc__law_group, od__law_group, .func (PySem.W.fnOf "_law_group" "_law_group" (defArgs s__law_group) (defBody s__law_group) (defScope s__law_group) .none kV__law_group dc__law_group pm__law_group an__law_group cd__law_group ct__law_group), sl__law_group⟩)
    (h_co__law_group : PySem.W.codeIn K cd__law_group "_law_group" = true)
    (h_kp__law_group : PySem.W.keepIn K (.ref a__law_group) = true)
    (h_ns__law_group : PySem.W.nsIn K mainGlobals "_law_group" = some (some (.ref a__law_group)))
    (h_lk__law_stretches : K.lookup a__law_stretches = some ⟨oc__law_stretches, od__law_stretches, .func (PySem.W.fnOf "_law_stretches" "_law_stretches" (defArgs s__law_stretches) (defBody s__law_stretches) (defScope s__law_stretches) .none kV__law_stretches dc__law_stretches pm__law_stretches an__law_stretches cd__law_stretches ct__law_stretches), sl__law_stretches⟩)
    (h_co__law_stretches : PySem.W.codeIn K cd__law_stretches "_law_stretches" = true)
    (h_kp__law_stretches : PySem.W.keepIn K (.ref a__law_stretches) = true)
    (h_ns__law_stretches : PySem.W.nsIn K mainGlobals "_law_stretches" = some (some (.ref a__law_stretches)))
    (h_lk_ascending : K.lookup a_ascending = some ⟨oc_ascending, od_ascending, .func (PySem.W.fnOf "ascending" "ascending" (defArgs s_ascending) (defBody s_ascending) (defScope s_ascending) .none kV_ascending dc_ascending pm_ascending an_ascending cd_ascending ct_ascending), sl_ascending⟩)
    (h_co_ascending : PySem.W.codeIn K cd_ascending "ascending" = true)
    (h_kp_ascending : PySem.W.keepIn K (.ref a_ascending) = true)
    (h_ns_ascending : PySem.W.nsIn K mainGlobals "ascending" = some (some (.ref a_ascending)))
    (h_lk_check_stretches : K.lookup a_check_stretches = some ⟨oc_check_stretches, od_check_stretches, .func (PySem.W.fnOf "check_stretches" "check_stretches" (defArgs s_check_stretches) (defBody s_check_stretches) (defScope s_check_stretches) .none kV_check_stretches dc_check_stretches pm_check_stretches an_check_stretches cd_check_stretches ct_check_stretches), sl_check_stretches⟩)
    (h_co_check_stretches : PySem.W.codeIn K cd_check_stretches "check_stretches" = true)
    (h_kp_check_stretches : PySem.W.keepIn K (.ref a_check_stretches) = true)
    (h_ns_check_stretches : PySem.W.nsIn K mainGlobals "check_stretches" = some (some (.ref a_check_stretches)))
    (h_lk_join_neighbours : K.lookup a_join_neighbours = some ⟨oc_join_neighbours, od_join_neighbours, .func (PySem.W.fnOf "join_neighbours" "join_neighbours" (defArgs s_join_neighbours) (defBody s_join_neighbours) (defScope s_join_neighbours) .none kV_join_neighbours dc_join_neighbours pm_join_neighbours an_join_neighbours cd_join_neighbours ct_join_neighbours), sl_join_neighbours⟩)
    (h_co_join_neighbours : PySem.W.codeIn K cd_join_neighbours "join_neighbours" = true)
    (h_kp_join_neighbours : PySem.W.keepIn K (.ref a_join_neighbours) = true)
    (h_ns_join_neighbours : PySem.W.nsIn K mainGlobals "join_neighbours" = some (some (.ref a_join_neighbours)))
    (h_lk_BookU_initU : K.lookup a_BookU_initU = some ⟨oc_BookU_initU, od_BookU_initU, .func (PySem.W.fnOf "__init__" "Book.__init__" (defArgs s_BookU_initU) (defBody s_BookU_initU) (defScope s_BookU_initU) .none kV_BookU_initU dc_BookU_initU pm_BookU_initU an_BookU_initU cd_BookU_initU ct_BookU_initU), sl_BookU_initU⟩)
    (h_co_BookU_initU : PySem.W.codeIn K cd_BookU_initU "Book.__init__" = true)
    (h_kp_BookU_initU : PySem.W.keepIn K (.ref a_BookU_initU) = true)
    (h_mk_Book : PySem.W.makesIn K A_Book = true)
    (h_ini_Book : PySem.W.findIn K (.ref A_Book) "__init__" = some (some (.ref a_BookU_initU)))
    (h_fn_BookU_initU : PySem.W.isFn K (.ref a_BookU_initU) = true)
    (h_kc_Book : PySem.W.keepIn K (.ref A_Book) = true)
    (h_lk__law_part : K.lookup a__law_part = some ⟨oc__law_part, od__law_part, .func (PySem.W.fnOf "_law_part" "_law_part" (defArgs s__law_part) (defBody s__law_part) (defScope s__law_part) .none kV__law_part dc__law_part pm__law_part an__law_part cd__law_part ct__law_part), sl__law_part⟩)
    (h_co__law_part : PySem.W.codeIn K cd__law_part "_law_part" = true)
    (h_kp__law_part : PySem.W.keepIn K (.ref a__law_part) = true)
    (h_ns__law_part : PySem.W.nsIn K mainGlobals "_law_part" = some (some (.ref a__law_part)))
    (h_lk__law_upto : K.lookup a__law_upto = some ⟨oc__law_upto, od__law_upto, .func (PySem.W.fnOf "_law_upto" "_law_upto" (defArgs s__law_upto) (defBody s__law_upto) (defScope s__law_upto) .none kV__law_upto dc__law_upto pm__law_upto an__law_upto cd__law_upto ct__law_upto), sl__law_upto⟩)
    (h_co__law_upto : PySem.W.codeIn K cd__law_upto "_law_upto" = true)
    (h_kp__law_upto : PySem.W.keepIn K (.ref a__law_upto) = true)
    (h_ns__law_upto : PySem.W.nsIn K mainGlobals "_law_upto" = some (some (.ref a__law_upto)))
    (h_lk__law_cut : K.lookup a__law_cut = some ⟨oc__law_cut, od__law_cut, .func (PySem.W.fnOf "_law_cut" "_law_cut" (defArgs s__law_cut) (defBody s__law_cut) (defScope s__law_cut) .none kV__law_cut dc__law_cut pm__law_cut an__law_cut cd__law_cut ct__law_cut), sl__law_cut⟩)
    (h_co__law_cut : PySem.W.codeIn K cd__law_cut "_law_cut" = true)
    (h_kp__law_cut : PySem.W.keepIn K (.ref a__law_cut) = true)
    (h_ns__law_cut : PySem.W.nsIn K mainGlobals "_law_cut" = some (some (.ref a__law_cut)))
    (h_lk__law_joined : K.lookup a__law_joined = some ⟨oc__law_joined, od__law_joined, .func (PySem.W.fnOf "_law_joined" "_law_joined" (defArgs s__law_joined) (defBody s__law_joined) (defScope s__law_joined) .none kV__law_joined dc__law_joined pm__law_joined an__law_joined cd__law_joined ct__law_joined), sl__law_joined⟩)
    (h_co__law_joined : PySem.W.codeIn K cd__law_joined "_law_joined" = true)
    (h_kp__law_joined : PySem.W.keepIn K (.ref a__law_joined) = true)
    (h_ns__law_joined : PySem.W.nsIn K mainGlobals "_law_joined" = some (some (.ref a__law_joined)))
    (h_lk__law_number : K.lookup a__law_number = some ⟨oc__law_number, od__law_number, .func (PySem.W.fnOf "_law_number" "_law_number" (defArgs s__law_number) (defBody s__law_number) (defScope s__law_number) .none kV__law_number dc__law_number pm__law_number an__law_number cd__law_number ct__law_number), sl__law_number⟩)
    (h_co__law_number : PySem.W.codeIn K cd__law_number "_law_number" = true)
    (h_kp__law_number : PySem.W.keepIn K (.ref a__law_number) = true)
    (h_ns__law_number : PySem.W.nsIn K mainGlobals "_law_number" = some (some (.ref a__law_number)))
    (h_lk__law_same : K.lookup a__law_same = some ⟨oc__law_same, od__law_same, .func (PySem.W.fnOf "_law_same" "_law_same" (defArgs s__law_same) (defBody s__law_same) (defScope s__law_same) .none kV__law_same dc__law_same pm__law_same an__law_same cd__law_same ct__law_same), sl__law_same⟩)
    (h_co__law_same : PySem.W.codeIn K cd__law_same "_law_same" = true)
    (h_kp__law_same : PySem.W.keepIn K (.ref a__law_same) = true)
    (h_ns__law_same : PySem.W.nsIn K mainGlobals "_law_same" = some (some (.ref a__law_same)))
    (h_lk__law_is_book : K.lookup a__law_is_book = some ⟨oc__law_is_book, od__law_is_book, .func (PySem.W.fnOf "_law_is_book" "_law_is_book" (defArgs s__law_is_book) (defBody s__law_is_book) (defScope s__law_is_book) .none kV__law_is_book dc__law_is_book pm__law_is_book an__law_is_book cd__law_is_book ct__law_is_book), sl__law_is_book⟩)
    (h_co__law_is_book : PySem.W.codeIn K cd__law_is_book "_law_is_book" = true)
    (h_kp__law_is_book : PySem.W.keepIn K (.ref a__law_is_book) = true)
    (h_ns__law_is_book : PySem.W.nsIn K mainGlobals "_law_is_book" = some (some (.ref a__law_is_book)))
    (h_lk_BookU_eqU : K.lookup a_BookU_eqU = some ⟨oc_BookU_eqU, od_BookU_eqU, .func (PySem.W.fnOf "__eq__" "Book.__eq__" (defArgs s_BookU_eqU) (defBody s_BookU_eqU) (defScope s_BookU_eqU) .none kV_BookU_eqU dc_BookU_eqU pm_BookU_eqU an_BookU_eqU cd_BookU_eqU ct_BookU_eqU), sl_BookU_eqU⟩)
    (h_co_BookU_eqU : PySem.W.codeIn K cd_BookU_eqU "Book.__eq__" = true)
    (h_kp_BookU_eqU : PySem.W.keepIn K (.ref a_BookU_eqU) = true)
    (h_nf_Book_NoneType : PySem.W.notFirst K A_Book (.type "NoneType") = true)
    (h_nf_Book_bool : PySem.W.notFirst K A_Book (.type "bool") = true)
    (h_nf_Book_int : PySem.W.notFirst K A_Book (.type "int") = true)
    (h_nf_Book_str : PySem.W.notFirst K A_Book (.type "str") = true)
    (h_nf_Book_list : PySem.W.notFirst K A_Book (.type "list") = true)
    (h_nf_Book_tuple : PySem.W.notFirst K A_Book (.type "tuple") = true)
    (h_nfo_Book_Depot : PySem.W.notFirst K A_Book (.ref A_Depot) = true)
    (h_nfo_Book : PySem.W.notFirst K A_Book (.ref A_Book) = true)
    (h_eq_Book : PySem.W.findIn K (.ref A_Book) "__eq__" = some (some (.ref a_BookU_eqU)))
    (h_fn_BookU_eqU : PySem.W.isFn K (.ref a_BookU_eqU) = true)
    (h_lk_check_part : K.lookup a_check_part = some ⟨oc_check_part, od_check_part, .func (PySem.W.fnOf "check_part" "check_part" (defArgs s_check_part) (defBody s_check_part) (defScope s_check_part) .none kV_check_part dc_check_part pm_check_part an_check_part cd_check_part ct_check_part), sl_check_part⟩)
    (h_co_check_part : PySem.W.codeIn K cd_check_part "check_part" = true)
    (h_kp_check_part : PySem.W.keepIn K (.ref a_check_part) = true)
    (h_ns_check_part : PySem.W.nsIn K mainGlobals "check_part" = some (some (.ref a_check_part)))
    (h_lk_rear_pairs : K.lookup a_rear_pairs = some ⟨oc_rear_pairs, od_rear_pairs, .func (PySem.W.fnOf "rear_pairs" "rear_pairs" (defArgs s_rear_pairs) (defBody s_rear_pairs) (defScope s_rear_pairs) .none kV_rear_pairs dc_rear_pairs pm_rear_pairs an_rear_pairs cd_rear_pairs ct_rear_pairs), sl_rear_pairs⟩)
    (h_co_rear_pairs : PySem.W.codeIn K cd_rear_pairs "rear_pairs" = true)
    (h_kp_rear_pairs : PySem.W.keepIn K (.ref a_rear_pairs) = true)
    (h_ns_rear_pairs : PySem.W.nsIn K mainGlobals "rear_pairs" = some (some (.ref a_rear_pairs)))
    (h_lk_Book_tail : K.lookup a_Book_tail = some ⟨oc_Book_tail, od_Book_tail, .func (PySem.W.fnOf "tail" "Book.tail" (defArgs s_Book_tail) (defBody s_Book_tail) (defScope s_Book_tail) .none kV_Book_tail dc_Book_tail pm_Book_tail an_Book_tail cd_Book_tail ct_Book_tail), sl_Book_tail⟩)
    (h_co_Book_tail : PySem.W.codeIn K cd_Book_tail "Book.tail" = true)
    (h_kp_Book_tail : PySem.W.keepIn K (.ref a_Book_tail) = true)
    (h_at_Book_tail : PySem.W.findIn K (.ref A_Book) "tail" = some (some (.ref a_Book_tail)))
    (h_fn_Book_tail : PySem.W.isFn K (.ref a_Book_tail) = true)
    (h_lk_front_pairs : K.lookup a_front_pairs = some ⟨oc_front_pairs, od_front_pairs, .func (PySem.W.fnOf "front_pairs" "front_pairs" (defArgs s_front_pairs) (defBody s_front_pairs) (defScope s_front_pairs) .none kV_front_pairs dc_front_pairs pm_front_pairs an_front_pairs cd_front_pairs ct_front_pairs), sl_front_pairs⟩)
    (h_co_front_pairs : PySem.W.codeIn K cd_front_pairs "front_pairs" = true)
    (h_kp_front_pairs : PySem.W.keepIn K (.ref a_front_pairs) = true)
    (h_ns_front_pairs : PySem.W.nsIn K mainGlobals "front_pairs" = some (some (.ref a_front_pairs)))
    (h_lk_Book_head : K.lookup a_Book_head = some ⟨oc_Book_head, od_Book_head, .func (PySem.W.fnOf "head" "Book.head" (defArgs s_Book_head) (defBody s_Book_head) (defScope s_Book_head) .none kV_Book_head dc_Book_head pm_Book_head an_Book_head cd_Book_head ct_Book_head), sl_Book_head⟩)
    (h_co_Book_head : PySem.W.codeIn K cd_Book_head "Book.head" = true)
    (h_kp_Book_head : PySem.W.keepIn K (.ref a_Book_head) = true)
    (h_at_Book_head : PySem.W.findIn K (.ref A_Book) "head" = some (some (.ref a_Book_head)))
    (h_fn_Book_head : PySem.W.isFn K (.ref a_Book_head) = true)
    (h_lk__law_asked : K.lookup a__law_asked = some ⟨oc__law_asked, od__law_asked, .func (PySem.W.fnOf "_law_asked" "_law_asked" (defArgs s__law_asked) (defBody s__law_asked) (defScope s__law_asked) .none kV__law_asked dc__law_asked pm__law_asked an__law_asked cd__law_asked ct__law_asked), sl__law_asked⟩)
    (h_co__law_asked : PySem.W.codeIn K cd__law_asked "_law_asked" = true)
    (h_kp__law_asked : PySem.W.keepIn K (.ref a__law_asked) = true)
    (h_ns__law_asked : PySem.W.nsIn K mainGlobals "_law_asked" = some (some (.ref a__law_asked)))
    (h_lk_BookU_addU : K.lookup a_BookU_addU = some ⟨oc_BookU_addU, od_BookU_addU, .func (PySem.W.fnOf "__add__" "Book.__add__" (defArgs s_BookU_addU) (defBody s_BookU_addU) (defScope s_BookU_addU) .none kV_BookU_addU dc_BookU_addU pm_BookU_addU an_BookU_addU cd_BookU_addU ct_BookU_addU), sl_BookU_addU⟩)
    (h_co_BookU_addU : PySem.W.codeIn K cd_BookU_addU "Book.__add__" = true)
    (h_kp_BookU_addU : PySem.W.keepIn K (.ref a_BookU_addU) = true)
    (h_ad_Book : PySem.W.findIn K (.ref A_Book) "__add__" = some (some (.ref a_BookU_addU)))
    (h_fn_BookU_addU : PySem.W.isFn K (.ref a_BookU_addU) = true)
    (h_sf_Book : PySem.W.selfFirst K A_Book = true)
    (h_lk__law_summed : K.lookup a__law_summed = some ⟨oc__law_summed, od__law_summed, .func (PySem.W.fnOf "_law_summed" "_law_summed" (defArgs s__law_summed) (defBody s__law_summed) (defScope s__law_summed) .none kV__law_summed dc__law_summed pm__law_summed an__law_summed cd__law_summed ct__law_summed), sl__law_summed⟩)
    (h_co__law_summed : PySem.W.codeIn K cd__law_summed "_law_summed" = true)
    (h_kp__law_summed : PySem.W.keepIn K (.ref a__law_summed) = true)
    (h_ns__law_summed : PySem.W.nsIn K mainGlobals "_law_summed" = some (some (.ref a__law_summed)))
    (h_lk_check_morning : K.lookup a_check_morning = some ⟨oc_check_morning, od_check_morning, .func (PySem.W.fnOf "check_morning" "check_morning" (defArgs s_check_morning) (defBody s_check_morning) (defScope s_check_morning) .none kV_check_morning dc_check_morning pm_check_morning an_check_morning cd_check_morning ct_check_morning), sl_check_morning⟩)
    (h_co_check_morning : PySem.W.codeIn K cd_check_morning "check_morning" = true)
    (h_kp_check_morning : PySem.W.keepIn K (.ref a_check_morning) = true)
    (h_ns_check_morning : PySem.W.nsIn K mainGlobals "check_morning" = some (some (.ref a_check_morning)))
    (h_lk_Book_runners_on : K.lookup a_Book_runners_on = some ⟨oc_Book_runners_on, od_Book_runners_on, .func (PySem.W.fnOf "runners_on" "Book.runners_on" (defArgs s_Book_runners_on) (defBody s_Book_runners_on) (defScope s_Book_runners_on) .none kV_Book_runners_on dc_Book_runners_on pm_Book_runners_on an_Book_runners_on cd_Book_runners_on ct_Book_runners_on), sl_Book_runners_on⟩)
    (h_co_Book_runners_on : PySem.W.codeIn K cd_Book_runners_on "Book.runners_on" = true)
    (h_kp_Book_runners_on : PySem.W.keepIn K (.ref a_Book_runners_on) = true)
    (h_at_Book_runners_on : PySem.W.findIn K (.ref A_Book) "runners_on" = some (some (.ref a_Book_runners_on)))
    (h_fn_Book_runners_on : PySem.W.isFn K (.ref a_Book_runners_on) = true)
    (h_lk__law_on : K.lookup a__law_on = some ⟨oc__law_on, od__law_on, .func (PySem.W.fnOf "_law_on" "_law_on" (defArgs s__law_on) (defBody s__law_on) (defScope s__law_on) .none kV__law_on dc__law_on pm__law_on an__law_on cd__law_on ct__law_on), sl__law_on⟩)
    (h_co__law_on : PySem.W.codeIn K cd__law_on "_law_on" = true)
    (h_kp__law_on : PySem.W.keepIn K (.ref a__law_on) = true)
    (h_ns__law_on : PySem.W.nsIn K mainGlobals "_law_on" = some (some (.ref a__law_on)))
    (h_lk__law_halves : K.lookup a__law_halves = some ⟨oc__law_halves, od__law_halves, .func (PySem.W.fnOf "_law_halves" "_law_halves" (defArgs s__law_halves) (defBody s__law_halves) (defScope s__law_halves) .none kV__law_halves dc__law_halves pm__law_halves an__law_halves cd__law_halves ct__law_halves), sl__law_halves⟩)
    (h_co__law_halves : PySem.W.codeIn K cd__law_halves "_law_halves" = true)
    (h_kp__law_halves : PySem.W.keepIn K (.ref a__law_halves) = true)
    (h_ns__law_halves : PySem.W.nsIn K mainGlobals "_law_halves" = some (some (.ref a__law_halves)))
    (h_lk_Book_flipped : K.lookup a_Book_flipped = some ⟨oc_Book_flipped, od_Book_flipped, .func (PySem.W.fnOf "flipped" "Book.flipped" (defArgs s_Book_flipped) (defBody s_Book_flipped) (defScope s_Book_flipped) .none kV_Book_flipped dc_Book_flipped pm_Book_flipped an_Book_flipped cd_Book_flipped ct_Book_flipped), sl_Book_flipped⟩)
    (h_co_Book_flipped : PySem.W.codeIn K cd_Book_flipped "Book.flipped" = true)
    (h_kp_Book_flipped : PySem.W.keepIn K (.ref a_Book_flipped) = true)
    (h_at_Book_flipped : PySem.W.findIn K (.ref A_Book) "flipped" = some (some (.ref a_Book_flipped)))
    (h_fn_Book_flipped : PySem.W.isFn K (.ref a_Book_flipped) = true)
    (h_lk__law_turned : K.lookup a__law_turned = some ⟨oc__law_turned, od__law_turned, .func (PySem.W.fnOf "_law_turned" "_law_turned" (defArgs s__law_turned) (defBody s__law_turned) (defScope s__law_turned) .none kV__law_turned dc__law_turned pm__law_turned an__law_turned cd__law_turned ct__law_turned), sl__law_turned⟩)
    (h_co__law_turned : PySem.W.codeIn K cd__law_turned "_law_turned" = true)
    (h_kp__law_turned : PySem.W.keepIn K (.ref a__law_turned) = true)
    (h_ns__law_turned : PySem.W.nsIn K mainGlobals "_law_turned" = some (some (.ref a__law_turned)))
    (h_lk__law_refused : K.lookup a__law_refused = some ⟨oc__law_refused, od__law_refused, .func (PySem.W.fnOf "_law_refused" "_law_refused" (defArgs s__law_refused) (defBody s__law_refused) (defScope s__law_refused) .none kV__law_refused dc__law_refused pm__law_refused an__law_refused cd__law_refused ct__law_refused), sl__law_refused⟩)
    (h_co__law_refused : PySem.W.codeIn K cd__law_refused "_law_refused" = true)
    (h_kp__law_refused : PySem.W.keepIn K (.ref a__law_refused) = true)
    (h_ns__law_refused : PySem.W.nsIn K mainGlobals "_law_refused" = some (some (.ref a__law_refused)))
    (h_lk_law : K.lookup a_law = some ⟨oc_law, od_law, .func (PySem.W.fnOf "law" "law" (defArgs s_law) (defBody s_law) (defScope s_law) .none kV_law dc_law pm_law an_law cd_law ct_law), sl_law⟩)
    (h_co_law : PySem.W.codeIn K cd_law "law" = true)
    (h_kp_law : PySem.W.keepIn K (.ref a_law) = true)
    (h_ns_law : PySem.W.nsIn K mainGlobals "law" = some (some (.ref a_law)))
    (h_lk_BadBookU_initU : K.lookup a_BadBookU_initU = some ⟨oc_BadBookU_initU, od_BadBookU_initU, .func (PySem.W.fnOf "__init__" "BadBook.__init__" (defArgs s_BadBookU_initU) (defBody s_BadBookU_initU) (defScope s_BadBookU_initU) .none kV_BadBookU_initU dc_BadBookU_initU pm_BadBookU_initU an_BadBookU_initU cd_BadBookU_initU ct_BadBookU_initU), sl_BadBookU_initU⟩)
    (h_co_BadBookU_initU : PySem.W.codeIn K cd_BadBookU_initU "BadBook.__init__" = true)
    (h_kp_BadBookU_initU : PySem.W.keepIn K (.ref a_BadBookU_initU) = true)
    (h_lk_OutOfRangeU_initU : K.lookup a_OutOfRangeU_initU = some ⟨oc_OutOfRangeU_initU, od_OutOfRangeU_initU, .func (PySem.W.fnOf "__init__" "OutOfRange.__init__" (defArgs s_OutOfRangeU_initU) (defBody s_OutOfRangeU_initU) (defScope s_OutOfRangeU_initU) .none kV_OutOfRangeU_initU dc_OutOfRangeU_initU pm_OutOfRangeU_initU an_OutOfRangeU_initU cd_OutOfRangeU_initU ct_OutOfRangeU_initU), sl_OutOfRangeU_initU⟩)
    (h_co_OutOfRangeU_initU : PySem.W.codeIn K cd_OutOfRangeU_initU "OutOfRange.__init__" = true)
    (h_kp_OutOfRangeU_initU : PySem.W.keepIn K (.ref a_OutOfRangeU_initU) = true)
    (h_hn : PySem.W.specialIn K (.builtin "object.__class__") "__get__" = some (some (.builtin "getset_descriptor.__get__")))
    (h_ht : PySem.W.takesIn K (.builtin "object.__class__") = some true)
    (h_ns_Depot : PySem.W.nsIn K mainGlobals "Depot" = some (some (.ref A_Depot)))
    (h_pg_Depot : PySem.W.plainGet K A_Depot Str.empty = true)
    (h_hd_Depot : PySem.W.hasDictIn K A_Depot = true)
    (h_po_Depot : PySem.W.plainOver K A_Depot = true)
    (h_sa_Depot : PySem.W.findIn K (.ref A_Depot) "__setattr__" = some (some (.builtin "object.__setattr__")))
    (h_no_Depot_period : PySem.W.findIn K (.ref A_Depot) "period" = some none)
    (h_no_Depot_quota : PySem.W.findIn K (.ref A_Depot) "quota" = some none)
    (h_no_Depot_firsts : PySem.W.findIn K (.ref A_Depot) "firsts" = some none)
    (h_ns_Book : PySem.W.nsIn K mainGlobals "Book" = some (some (.ref A_Book)))
    (h_pg_Book : PySem.W.plainGet K A_Book Str.empty = true)
    (h_hd_Book : PySem.W.hasDictIn K A_Book = true)
    (h_po_Book : PySem.W.plainOver K A_Book = true)
    (h_sa_Book : PySem.W.findIn K (.ref A_Book) "__setattr__" = some (some (.builtin "object.__setattr__")))
    (h_no_Book_stretches : PySem.W.findIn K (.ref A_Book) "stretches" = some none)
    (h_no_Book_days : PySem.W.findIn K (.ref A_Book) "days" = some none)
    (h_kt_Depot_NoneType : PySem.W.kitOne K (.type "NoneType") (.ref A_Depot) = some false)
    (h_kt_Depot_bool : PySem.W.kitOne K (.type "bool") (.ref A_Depot) = some false)
    (h_kt_Depot_int : PySem.W.kitOne K (.type "int") (.ref A_Depot) = some false)
    (h_kt_Depot_str : PySem.W.kitOne K (.type "str") (.ref A_Depot) = some false)
    (h_kt_Depot_list : PySem.W.kitOne K (.type "list") (.ref A_Depot) = some false)
    (h_kt_Depot_tuple : PySem.W.kitOne K (.type "tuple") (.ref A_Depot) = some false)
    (h_ko_Depot_Depot : PySem.W.kitOne K (.ref A_Depot) (.ref A_Depot) = some true)
    (h_cl_Depot : PySem.W.findIn K (.ref A_Depot) "__class__" = some (some (.builtin "object.__class__")))
    (h_mro_Depot : PySem.W.mroIn K A_Depot (.type "object") = some true)
    (h_ko_Book_Depot : PySem.W.kitOne K (.ref A_Book) (.ref A_Depot) = some false)
    (h_cl_Book : PySem.W.findIn K (.ref A_Book) "__class__" = some (some (.builtin "object.__class__")))
    (h_mro_Book : PySem.W.mroIn K A_Book (.type "object") = some true)
    (h_kt_Book_NoneType : PySem.W.kitOne K (.type "NoneType") (.ref A_Book) = some false)
    (h_kt_Book_bool : PySem.W.kitOne K (.type "bool") (.ref A_Book) = some false)
    (h_kt_Book_int : PySem.W.kitOne K (.type "int") (.ref A_Book) = some false)
    (h_kt_Book_str : PySem.W.kitOne K (.type "str") (.ref A_Book) = some false)
    (h_kt_Book_list : PySem.W.kitOne K (.type "list") (.ref A_Book) = some false)
    (h_kt_Book_tuple : PySem.W.kitOne K (.type "tuple") (.ref A_Book) = some false)
    (h_ko_Depot_Book : PySem.W.kitOne K (.ref A_Depot) (.ref A_Book) = some false)
    (h_ko_Book_Book : PySem.W.kitOne K (.ref A_Book) (.ref A_Book) = some true)
    (h_ns_OutagainError : PySem.W.nsIn K mainGlobals "OutagainError" = some (some (.ref A_OutagainError)))
    (h_ns_OutOfRange : PySem.W.nsIn K mainGlobals "OutOfRange" = some (some (.ref A_OutOfRange)))
    (h_ns_BadDepot : PySem.W.nsIn K mainGlobals "BadDepot" = some (some (.ref A_BadDepot)))
    (h_ns_BadBook : PySem.W.nsIn K mainGlobals "BadBook" = some (some (.ref A_BadBook)))
    (h_xo_BadBook : K.lookup A_BadBook = some (excClassObj nm_BadBook q_BadBook A_BadBook N_BadBook bs_BadBook bm_BadBook true sn_BadBook sub_BadBook ab_BadBook col_BadBook dd_BadBook k0_BadBook k1_BadBook k2_BadBook k3_BadBook k5_BadBook "ValueError.__new__"))
    (h_ve_BadBook : PySem.HandSPX.refsVE bm_BadBook = true)
    (h_sa_BadBook : PySem.W.findIn K (.ref A_BadBook) "__setattr__" = some (some (.builtin "object.__setattr__")))
    (h_kc_BadBook : PySem.W.keepIn K (.ref A_BadBook) = true)
    (h_ini_BadBook : PySem.W.findIn K (.ref A_BadBook) "__init__" = some (some (.ref a_BadBookU_initU)))
    (h_tf_BadBook : PySem.W.typeIn K (.ref a_BadBookU_initU) = some (.type "function"))
    (h_no_BadBook_at : PySem.W.findIn K (.ref A_BadBook) "at" = some none)
    (h_no_BadBook_code : PySem.W.findIn K (.ref A_BadBook) "code" = some none)
    (h_be_BadBook : PySem.W.subIn K (.ref A_BadBook) (.type "BaseException") = some true)
    (h_ty_BadBook : PySem.W.typeIn K (.ref A_BadBook) = some (.type "type"))
    (h_xo_OutOfRange : K.lookup A_OutOfRange = some (excClassObj nm_OutOfRange q_OutOfRange A_OutOfRange N_OutOfRange bs_OutOfRange bm_OutOfRange true sn_OutOfRange sub_OutOfRange ab_OutOfRange col_OutOfRange dd_OutOfRange k0_OutOfRange k1_OutOfRange k2_OutOfRange k3_OutOfRange k5_OutOfRange "ValueError.__new__"))
    (h_ve_OutOfRange : PySem.HandSPX.refsVE bm_OutOfRange = true)
    (h_sa_OutOfRange : PySem.W.findIn K (.ref A_OutOfRange) "__setattr__" = some (some (.builtin "object.__setattr__")))
    (h_kc_OutOfRange : PySem.W.keepIn K (.ref A_OutOfRange) = true)
    (h_ini_OutOfRange : PySem.W.findIn K (.ref A_OutOfRange) "__init__" = some (some (.ref a_OutOfRangeU_initU)))
    (h_tf_OutOfRange : PySem.W.typeIn K (.ref a_OutOfRangeU_initU) = some (.type "function"))
    (h_no_OutOfRange_at : PySem.W.findIn K (.ref A_OutOfRange) "at" = some none)
    (h_no_OutOfRange_code : PySem.W.findIn K (.ref A_OutOfRange) "code" = some none)
    (h_be_OutOfRange : PySem.W.subIn K (.ref A_OutOfRange) (.type "BaseException") = some true)
    (h_ty_OutOfRange : PySem.W.typeIn K (.ref A_OutOfRange) = some (.type "type"))
    (h_rd_Depot : PySem.W.readsIn K A_Depot (.type "type") = true)
    (h_sga_Depot : PySem.W.specialIn K (.ref A_Depot) "__getattribute__" = some (some (.builtin "type.__getattribute__")))
    (h_cv_Depot_MOST_DRIVERS : PySem.W.findCls K (.ref A_Depot) (.type "type") "MOST_DRIVERS" = some (.val (.int 12 t_Depot_MOST_DRIVERS)))
    (h_g_MOST_STRETCHES : PySem.W.nsIn K mainGlobals "MOST_STRETCHES" = some (some (.int 400 t_MOST_STRETCHES)))
    (h_g_MOST_DAYS : PySem.W.nsIn K mainGlobals "MOST_DAYS" = some (some (.int 1000000000000000000000000000000 t_MOST_DAYS)))
    (h_n_abs : PySem.W.nsIn K mainGlobals "abs" = some none)
    (h_n_bool : PySem.W.nsIn K mainGlobals "bool" = some none)
    (h_n_enumerate : PySem.W.nsIn K mainGlobals "enumerate" = some none)
    (h_n_int : PySem.W.nsIn K mainGlobals "int" = some none)
    (h_n_isinstance : PySem.W.nsIn K mainGlobals "isinstance" = some none)
    (h_n_len : PySem.W.nsIn K mainGlobals "len" = some none)
    (h_n_list : PySem.W.nsIn K mainGlobals "list" = some none)
    (h_n_max : PySem.W.nsIn K mainGlobals "max" = some none)
    (h_n_min : PySem.W.nsIn K mainGlobals "min" = some none)
    (h_n_range : PySem.W.nsIn K mainGlobals "range" = some none)
    (h_n_str : PySem.W.nsIn K mainGlobals "str" = some none)
    (h_n_sum : PySem.W.nsIn K mainGlobals "sum" = some none)
    (h_n_tuple : PySem.W.nsIn K mainGlobals "tuple" = some none)
    (h_sb_OutOfRange_BadBook : PySem.W.subIn K (.ref A_OutOfRange) (.ref A_BadBook) = some false)
    (h_hd_BadBook : PySem.W.hasDictIn K A_BadBook = true)
    (h_sb_BadDepot_BadBook : PySem.W.subIn K (.ref A_BadDepot) (.ref A_BadBook) = some false)
    (h_sb_BadBook_BadBook : PySem.W.subIn K (.ref A_BadBook) (.ref A_BadBook) = some true)
    (h_sb_OutOfRange_OutOfRange : PySem.W.subIn K (.ref A_OutOfRange) (.ref A_OutOfRange) = some true)
    (h_hd_OutOfRange : PySem.W.hasDictIn K A_OutOfRange = true)
    (h_sb_BadDepot_OutOfRange : PySem.W.subIn K (.ref A_BadDepot) (.ref A_OutOfRange) = some false)
    (h_sb_BadBook_OutOfRange : PySem.W.subIn K (.ref A_BadBook) (.ref A_OutOfRange) = some false)
    (h_ga_OutOfRange : PySem.W.findIn K (.ref A_OutOfRange) "__getattribute__" = some (some (.builtin "BaseException.__getattribute__")))
    (h_gg_OutOfRange : PySem.W.findIn K (.ref A_OutOfRange) "__getattr__" = some none)
    (h_ga_BadDepot : PySem.W.findIn K (.ref A_BadDepot) "__getattribute__" = some (some (.builtin "BaseException.__getattribute__")))
    (h_gg_BadDepot : PySem.W.findIn K (.ref A_BadDepot) "__getattr__" = some none)
    (h_be_BadDepot : PySem.W.subIn K (.ref A_BadDepot) (.type "BaseException") = some true)
    (h_hd_BadDepot : PySem.W.hasDictIn K A_BadDepot = true)
    (h_no_BadDepot_code : PySem.W.findIn K (.ref A_BadDepot) "code" = some none)
    (h_ga_BadBook : PySem.W.findIn K (.ref A_BadBook) "__getattribute__" = some (some (.builtin "BaseException.__getattribute__")))
    (h_gg_BadBook : PySem.W.findIn K (.ref A_BadBook) "__getattr__" = some none)
    (h_no_BadDepot_at : PySem.W.findIn K (.ref A_BadDepot) "at" = some none)
    : ∃ fd : FuncData, (∀ (s : Shared) (v : Value), BindsTo s fd ⟨[v], []⟩ [("script", v)]) ∧ ∀ base : Heap, K.In base → base.Ns mainGlobals mg → FnOk P w K mg base (L2.CX P w) 11 fa fd ["script"] (spLaw K) := by
  have e := hfa.symm.trans (PySem.W.mg_of X G h_ns_law)
  cases e
  have M_Depot : mg (cname 0) = some (.ref A_Depot) := PySem.W.mg_of X G h_ns_Depot
  have C_Depot : Cls K A_Depot := ⟨h_pg_Depot, h_hd_Depot, h_po_Depot, h_sa_Depot⟩
  have M_Book : mg (cname 1) = some (.ref A_Book) := PySem.W.mg_of X G h_ns_Book
  have C_Book : Cls K A_Book := ⟨h_pg_Book, h_hd_Book, h_po_Book, h_sa_Book⟩
  have I_Depot : IsC K mg 0 A_Depot [0, 1] := ⟨M_Depot, all6 h_kt_Depot_NoneType h_kt_Depot_bool h_kt_Depot_int h_kt_Depot_str h_kt_Depot_list h_kt_Depot_tuple, fun c hc => by
    simp only [List.mem_cons, List.not_mem_nil, or_false] at hc
    rcases hc with rfl | rfl
    · exact at1 M_Depot ⟨h_ko_Depot_Depot, C_Depot, h_cl_Depot, h_mro_Depot⟩
    · exact at1 M_Book ⟨h_ko_Book_Depot, C_Book, h_cl_Book, h_mro_Book⟩, h_hn, h_ht⟩
  have I_Book : IsC K mg 1 A_Book [0, 1] := ⟨M_Book, all6 h_kt_Book_NoneType h_kt_Book_bool h_kt_Book_int h_kt_Book_str h_kt_Book_list h_kt_Book_tuple, fun c hc => by
    simp only [List.mem_cons, List.not_mem_nil, or_false] at hc
    rcases hc with rfl | rfl
    · exact at1 M_Depot ⟨h_ko_Depot_Book, C_Depot, h_cl_Depot, h_mro_Depot⟩
    · exact at1 M_Book ⟨h_ko_Book_Book, C_Book, h_cl_Book, h_mro_Book⟩, h_hn, h_ht⟩
  have M_OutagainError : mg (cname 20) = some (.ref A_OutagainError) := PySem.W.mg_of X G h_ns_OutagainError
  have M_OutOfRange : mg (cname 21) = some (.ref A_OutOfRange) := PySem.W.mg_of X G h_ns_OutOfRange
  have M_BadDepot : mg (cname 22) = some (.ref A_BadDepot) := PySem.W.mg_of X G h_ns_BadDepot
  have M_BadBook : mg (cname 23) = some (.ref A_BadBook) := PySem.W.mg_of X G h_ns_BadBook
  have T : Tx K mg _ _ _ _ _ _ _ _ _ _ _ _ _ _ _ _ _ _ _ _ _ _ _ _ _ _ _ _ _ _ _ _ _ _ _ _ _ _ _ _ _ _ _ _ _ _ _ _ _ _ _ _ _ _ _ _ _ _ _ _ _ _ _ _ _ _ _ _ _ _ _ _ _ _ _ _ _ _ _ _ := {
    F__law_pool := (fun_mk (st := s__law_pool) h_lk__law_pool h_co__law_pool h_kp__law_pool),
    B__law_pool := ((fun_mk (st := s__law_pool) h_lk__law_pool h_co__law_pool h_kp__law_pool).binds (ps := ["script"]) fun _ _ _ _ _ _ us hl => match us, hl with | [_], _ => rfl),
    G__law_pool := (PySem.W.mg_of X G h_ns__law_pool),
    K__law_pool := (h_kp__law_pool),
    F__law_take := (fun_mk (st := s__law_take) h_lk__law_take h_co__law_take h_kp__law_take),
    B__law_take := ((fun_mk (st := s__law_take) h_lk__law_take h_co__law_take h_kp__law_take).binds (ps := ["pool", "limit"]) fun _ _ _ _ _ _ us hl => match us, hl with | [_, _], _ => rfl),
    G__law_take := (PySem.W.mg_of X G h_ns__law_take),
    K__law_take := (h_kp__law_take),
    F__law_code := (fun_mk (st := s__law_code) h_lk__law_code h_co__law_code h_kp__law_code),
    B__law_code := ((fun_mk (st := s__law_code) h_lk__law_code h_co__law_code h_kp__law_code).binds (ps := ["pool"]) fun _ _ _ _ _ _ us hl => match us, hl with | [_], _ => rfl),
    G__law_code := (PySem.W.mg_of X G h_ns__law_code),
    K__law_code := (h_kp__law_code),
    F__law_great := (fun_mk (st := s__law_great) h_lk__law_great h_co__law_great h_kp__law_great),
    B__law_great := ((fun_mk (st := s__law_great) h_lk__law_great h_co__law_great h_kp__law_great).binds (ps := ["pool", "most"]) fun _ _ _ _ _ _ us hl => match us, hl with | [_, _], _ => rfl),
    G__law_great := (PySem.W.mg_of X G h_ns__law_great),
    K__law_great := (h_kp__law_great),
    F__law_span := (fun_mk (st := s__law_span) h_lk__law_span h_co__law_span h_kp__law_span),
    B__law_span := ((fun_mk (st := s__law_span) h_lk__law_span h_co__law_span h_kp__law_span).binds (ps := ["pool", "great"]) fun _ _ _ _ _ _ us hl => match us, hl with | [_, _], _ => rfl),
    G__law_span := (PySem.W.mg_of X G h_ns__law_span),
    K__law_span := (h_kp__law_span),
    F__law_group := (fun_mk (st := s__law_group) h_lk__law_group h_co__law_group h_kp__law_group),
    B__law_group := ((fun_mk (st := s__law_group) h_lk__law_group h_co__law_group h_kp__law_group).binds (ps := ["code"]) fun _ _ _ _ _ _ us hl => match us, hl with | [_], _ => rfl),
    G__law_group := (PySem.W.mg_of X G h_ns__law_group),
    K__law_group := (h_kp__law_group),
    F__law_stretches := (fun_mk (st := s__law_stretches) h_lk__law_stretches h_co__law_stretches h_kp__law_stretches),
    B__law_stretches := ((fun_mk (st := s__law_stretches) h_lk__law_stretches h_co__law_stretches h_kp__law_stretches).binds (ps := ["pool", "many", "most"]) fun _ _ _ _ _ _ us hl => match us, hl with | [_, _, _], _ => rfl),
    G__law_stretches := (PySem.W.mg_of X G h_ns__law_stretches),
    K__law_stretches := (h_kp__law_stretches),
    F_ascending := (fun_mk (st := s_ascending) h_lk_ascending h_co_ascending h_kp_ascending),
    B_ascending := ((fun_mk (st := s_ascending) h_lk_ascending h_co_ascending h_kp_ascending).binds (ps := ["drivers", "size"]) fun _ _ _ _ _ _ us hl => match us, hl with | [_, _], _ => rfl),
    G_ascending := (PySem.W.mg_of X G h_ns_ascending),
    K_ascending := (h_kp_ascending),
    F_check_stretches := (fun_mk (st := s_check_stretches) h_lk_check_stretches h_co_check_stretches h_kp_check_stretches),
    B_check_stretches := ((fun_mk (st := s_check_stretches) h_lk_check_stretches h_co_check_stretches h_kp_check_stretches).binds (ps := ["stretches"]) fun _ _ _ _ _ _ us hl => match us, hl with | [_], _ => rfl),
    G_check_stretches := (PySem.W.mg_of X G h_ns_check_stretches),
    K_check_stretches := (h_kp_check_stretches),
    F_join_neighbours := (fun_mk (st := s_join_neighbours) h_lk_join_neighbours h_co_join_neighbours h_kp_join_neighbours),
    B_join_neighbours := ((fun_mk (st := s_join_neighbours) h_lk_join_neighbours h_co_join_neighbours h_kp_join_neighbours).binds (ps := ["pairs"]) fun _ _ _ _ _ _ us hl => match us, hl with | [_], _ => rfl),
    G_join_neighbours := (PySem.W.mg_of X G h_ns_join_neighbours),
    K_join_neighbours := (h_kp_join_neighbours),
    F_BookU_initU := (fun_mk (st := s_BookU_initU) h_lk_BookU_initU h_co_BookU_initU h_kp_BookU_initU),
    B_BookU_initU := ((fun_mk (st := s_BookU_initU) h_lk_BookU_initU h_co_BookU_initU h_kp_BookU_initU).binds (ps := ["self", "stretches"]) fun _ _ _ _ _ _ us hl => match us, hl with | [_, _], _ => rfl),
    mk_Book := (⟨h_mk_Book, h_ini_Book, h_fn_BookU_initU, h_kc_Book⟩),
    F__law_part := (fun_mk (st := s__law_part) h_lk__law_part h_co__law_part h_kp__law_part),
    B__law_part := ((fun_mk (st := s__law_part) h_lk__law_part h_co__law_part h_kp__law_part).binds (ps := ["rows", "low", "high"]) fun _ _ _ _ _ _ us hl => match us, hl with | [_, _, _], _ => rfl),
    G__law_part := (PySem.W.mg_of X G h_ns__law_part),
    K__law_part := (h_kp__law_part),
    F__law_upto := (fun_mk (st := s__law_upto) h_lk__law_upto h_co__law_upto h_kp__law_upto),
    B__law_upto := ((fun_mk (st := s__law_upto) h_lk__law_upto h_co__law_upto h_kp__law_upto).binds (ps := ["pool", "most"]) fun _ _ _ _ _ _ us hl => match us, hl with | [_, _], _ => rfl),
    G__law_upto := (PySem.W.mg_of X G h_ns__law_upto),
    K__law_upto := (h_kp__law_upto),
    F__law_cut := (fun_mk (st := s__law_cut) h_lk__law_cut h_co__law_cut h_kp__law_cut),
    B__law_cut := ((fun_mk (st := s__law_cut) h_lk__law_cut h_co__law_cut h_kp__law_cut).binds (ps := ["pool", "rows", "span"]) fun _ _ _ _ _ _ us hl => match us, hl with | [_, _, _], _ => rfl),
    G__law_cut := (PySem.W.mg_of X G h_ns__law_cut),
    K__law_cut := (h_kp__law_cut),
    F__law_joined := (fun_mk (st := s__law_joined) h_lk__law_joined h_co__law_joined h_kp__law_joined),
    B__law_joined := ((fun_mk (st := s__law_joined) h_lk__law_joined h_co__law_joined h_kp__law_joined).binds (ps := ["rows"]) fun _ _ _ _ _ _ us hl => match us, hl with | [_], _ => rfl),
    G__law_joined := (PySem.W.mg_of X G h_ns__law_joined),
    K__law_joined := (h_kp__law_joined),
    F__law_number := (fun_mk (st := s__law_number) h_lk__law_number h_co__law_number h_kp__law_number),
    B__law_number := ((fun_mk (st := s__law_number) h_lk__law_number h_co__law_number h_kp__law_number).binds (ps := ["got"]) fun _ _ _ _ _ _ us hl => match us, hl with | [_], _ => rfl),
    G__law_number := (PySem.W.mg_of X G h_ns__law_number),
    K__law_number := (h_kp__law_number),
    F__law_same := (fun_mk (st := s__law_same) h_lk__law_same h_co__law_same h_kp__law_same),
    B__law_same := ((fun_mk (st := s__law_same) h_lk__law_same h_co__law_same h_kp__law_same).binds (ps := ["got", "due"]) fun _ _ _ _ _ _ us hl => match us, hl with | [_, _], _ => rfl),
    G__law_same := (PySem.W.mg_of X G h_ns__law_same),
    K__law_same := (h_kp__law_same),
    F__law_is_book := (fun_mk (st := s__law_is_book) h_lk__law_is_book h_co__law_is_book h_kp__law_is_book),
    B__law_is_book := ((fun_mk (st := s__law_is_book) h_lk__law_is_book h_co__law_is_book h_kp__law_is_book).binds (ps := ["book", "rows"]) fun _ _ _ _ _ _ us hl => match us, hl with | [_, _], _ => rfl),
    G__law_is_book := (PySem.W.mg_of X G h_ns__law_is_book),
    K__law_is_book := (h_kp__law_is_book),
    F_BookU_eqU := (fun_mk (st := s_BookU_eqU) h_lk_BookU_eqU h_co_BookU_eqU h_kp_BookU_eqU),
    B_BookU_eqU := ((fun_mk (st := s_BookU_eqU) h_lk_BookU_eqU h_co_BookU_eqU h_kp_BookU_eqU).binds (ps := ["self", "other"]) fun _ _ _ _ _ _ us hl => match us, hl with | [_, _], _ => rfl),
    eq_Book := (⟨I_Book, h_eq_Book, h_fn_BookU_eqU, all6 h_nf_Book_NoneType h_nf_Book_bool h_nf_Book_int h_nf_Book_str h_nf_Book_list h_nf_Book_tuple, fun c hc => by
        simp only [List.mem_cons, List.not_mem_nil, or_false] at hc
        rcases hc with rfl | rfl
        · exact at1 M_Depot h_nfo_Book_Depot
        · exact at1 M_Book h_nfo_Book⟩),
    F_check_part := (fun_mk (st := s_check_part) h_lk_check_part h_co_check_part h_kp_check_part),
    B_check_part := ((fun_mk (st := s_check_part) h_lk_check_part h_co_check_part h_kp_check_part).binds (ps := ["book", "days"]) fun _ _ _ _ _ _ us hl => match us, hl with | [_, _], _ => rfl),
    G_check_part := (PySem.W.mg_of X G h_ns_check_part),
    K_check_part := (h_kp_check_part),
    F_rear_pairs := (fun_mk (st := s_rear_pairs) h_lk_rear_pairs h_co_rear_pairs h_kp_rear_pairs),
    B_rear_pairs := ((fun_mk (st := s_rear_pairs) h_lk_rear_pairs h_co_rear_pairs h_kp_rear_pairs).binds (ps := ["pairs", "many"]) fun _ _ _ _ _ _ us hl => match us, hl with | [_, _], _ => rfl),
    G_rear_pairs := (PySem.W.mg_of X G h_ns_rear_pairs),
    K_rear_pairs := (h_kp_rear_pairs),
    F_Book_tail := (fun_mk (st := s_Book_tail) h_lk_Book_tail h_co_Book_tail h_kp_Book_tail),
    B_Book_tail := ((fun_mk (st := s_Book_tail) h_lk_Book_tail h_co_Book_tail h_kp_Book_tail).binds (ps := ["self", "days"]) fun _ _ _ _ _ _ us hl => match us, hl with | [_, _], _ => rfl),
    me_Book_tail := (⟨M_Book, C_Book, ⟨h_at_Book_tail, h_fn_Book_tail, h_kp_Book_tail⟩, by decide⟩),
    F_front_pairs := (fun_mk (st := s_front_pairs) h_lk_front_pairs h_co_front_pairs h_kp_front_pairs),
    B_front_pairs := ((fun_mk (st := s_front_pairs) h_lk_front_pairs h_co_front_pairs h_kp_front_pairs).binds (ps := ["pairs", "many"]) fun _ _ _ _ _ _ us hl => match us, hl with | [_, _], _ => rfl),
    G_front_pairs := (PySem.W.mg_of X G h_ns_front_pairs),
    K_front_pairs := (h_kp_front_pairs),
    F_Book_head := (fun_mk (st := s_Book_head) h_lk_Book_head h_co_Book_head h_kp_Book_head),
    B_Book_head := ((fun_mk (st := s_Book_head) h_lk_Book_head h_co_Book_head h_kp_Book_head).binds (ps := ["self", "days"]) fun _ _ _ _ _ _ us hl => match us, hl with | [_, _], _ => rfl),
    me_Book_head := (⟨M_Book, C_Book, ⟨h_at_Book_head, h_fn_Book_head, h_kp_Book_head⟩, by decide⟩),
    F__law_asked := (fun_mk (st := s__law_asked) h_lk__law_asked h_co__law_asked h_kp__law_asked),
    B__law_asked := ((fun_mk (st := s__law_asked) h_lk__law_asked h_co__law_asked h_kp__law_asked).binds (ps := ["book", "way", "split"]) fun _ _ _ _ _ _ us hl => match us, hl with | [_, _, _], _ => rfl),
    G__law_asked := (PySem.W.mg_of X G h_ns__law_asked),
    K__law_asked := (h_kp__law_asked),
    F_BookU_addU := (fun_mk (st := s_BookU_addU) h_lk_BookU_addU h_co_BookU_addU h_kp_BookU_addU),
    B_BookU_addU := ((fun_mk (st := s_BookU_addU) h_lk_BookU_addU h_co_BookU_addU h_kp_BookU_addU).binds (ps := ["self", "other"]) fun _ _ _ _ _ _ us hl => match us, hl with | [_, _], _ => rfl),
    ad_Book := (⟨M_Book, h_ad_Book, h_fn_BookU_addU, h_sf_Book⟩),
    F__law_summed := (fun_mk (st := s__law_summed) h_lk__law_summed h_co__law_summed h_kp__law_summed),
    B__law_summed := ((fun_mk (st := s__law_summed) h_lk__law_summed h_co__law_summed h_kp__law_summed).binds (ps := ["front", "back"]) fun _ _ _ _ _ _ us hl => match us, hl with | [_, _], _ => rfl),
    G__law_summed := (PySem.W.mg_of X G h_ns__law_summed),
    K__law_summed := (h_kp__law_summed),
    F_check_morning := (fun_mk (st := s_check_morning) h_lk_check_morning h_co_check_morning h_kp_check_morning),
    B_check_morning := ((fun_mk (st := s_check_morning) h_lk_check_morning h_co_check_morning h_kp_check_morning).binds (ps := ["book", "morning"]) fun _ _ _ _ _ _ us hl => match us, hl with | [_, _], _ => rfl),
    G_check_morning := (PySem.W.mg_of X G h_ns_check_morning),
    K_check_morning := (h_kp_check_morning),
    F_Book_runners_on := (fun_mk (st := s_Book_runners_on) h_lk_Book_runners_on h_co_Book_runners_on h_kp_Book_runners_on),
    B_Book_runners_on := ((fun_mk (st := s_Book_runners_on) h_lk_Book_runners_on h_co_Book_runners_on h_kp_Book_runners_on).binds (ps := ["self", "morning"]) fun _ _ _ _ _ _ us hl => match us, hl with | [_, _], _ => rfl),
    me_Book_runners_on := (⟨M_Book, C_Book, ⟨h_at_Book_runners_on, h_fn_Book_runners_on, h_kp_Book_runners_on⟩, by decide⟩),
    F__law_on := (fun_mk (st := s__law_on) h_lk__law_on h_co__law_on h_kp__law_on),
    B__law_on := ((fun_mk (st := s__law_on) h_lk__law_on h_co__law_on h_kp__law_on).binds (ps := ["rows", "start"]) fun _ _ _ _ _ _ us hl => match us, hl with | [_, _], _ => rfl),
    G__law_on := (PySem.W.mg_of X G h_ns__law_on),
    K__law_on := (h_kp__law_on),
    F__law_halves := (fun_mk (st := s__law_halves) h_lk__law_halves h_co__law_halves h_kp__law_halves),
    B__law_halves := ((fun_mk (st := s__law_halves) h_lk__law_halves h_co__law_halves h_kp__law_halves).binds (ps := ["pool", "book", "rows", "span", "split"]) fun _ _ _ _ _ _ us hl => match us, hl with | [_, _, _, _, _], _ => rfl),
    G__law_halves := (PySem.W.mg_of X G h_ns__law_halves),
    K__law_halves := (h_kp__law_halves),
    F_Book_flipped := (fun_mk (st := s_Book_flipped) h_lk_Book_flipped h_co_Book_flipped h_kp_Book_flipped),
    B_Book_flipped := ((fun_mk (st := s_Book_flipped) h_lk_Book_flipped h_co_Book_flipped h_kp_Book_flipped).binds (ps := ["self"]) fun _ _ _ _ _ _ us hl => match us, hl with | [_], _ => rfl),
    me_Book_flipped := (⟨M_Book, C_Book, ⟨h_at_Book_flipped, h_fn_Book_flipped, h_kp_Book_flipped⟩, by decide⟩),
    F__law_turned := (fun_mk (st := s__law_turned) h_lk__law_turned h_co__law_turned h_kp__law_turned),
    B__law_turned := ((fun_mk (st := s__law_turned) h_lk__law_turned h_co__law_turned h_kp__law_turned).binds (ps := ["book", "rows"]) fun _ _ _ _ _ _ us hl => match us, hl with | [_, _], _ => rfl),
    G__law_turned := (PySem.W.mg_of X G h_ns__law_turned),
    K__law_turned := (h_kp__law_turned),
    F__law_refused := (fun_mk (st := s__law_refused) h_lk__law_refused h_co__law_refused h_kp__law_refused),
    B__law_refused := ((fun_mk (st := s__law_refused) h_lk__law_refused h_co__law_refused h_kp__law_refused).binds (ps := ["pool", "book", "span"]) fun _ _ _ _ _ _ us hl => match us, hl with | [_, _, _], _ => rfl),
    G__law_refused := (PySem.W.mg_of X G h_ns__law_refused),
    K__law_refused := (h_kp__law_refused),
    F_law := (fun_mk (st := s_law) h_lk_law h_co_law h_kp_law),
    B_law := ((fun_mk (st := s_law) h_lk_law h_co_law h_kp_law).binds (ps := ["script"]) fun _ _ _ _ _ _ us hl => match us, hl with | [_], _ => rfl),
    G_law := (PySem.W.mg_of X G h_ns_law),
    K_law := (h_kp_law),
    F_BadBookU_initU := (fun_mk (st := s_BadBookU_initU) h_lk_BadBookU_initU h_co_BadBookU_initU h_kp_BadBookU_initU),
    B_BadBookU_initU := ((fun_mk (st := s_BadBookU_initU) h_lk_BadBookU_initU h_co_BadBookU_initU h_kp_BadBookU_initU).binds (ps := ["self", "at", "code"]) fun _ _ _ _ _ _ us hl => match us, hl with | [_, _, _], _ => rfl),
    F_OutOfRangeU_initU := (fun_mk (st := s_OutOfRangeU_initU) h_lk_OutOfRangeU_initU h_co_OutOfRangeU_initU h_kp_OutOfRangeU_initU),
    B_OutOfRangeU_initU := ((fun_mk (st := s_OutOfRangeU_initU) h_lk_OutOfRangeU_initU h_co_OutOfRangeU_initU h_kp_OutOfRangeU_initU).binds (ps := ["self", "at", "code"]) fun _ _ _ _ _ _ us hl => match us, hl with | [_, _, _], _ => rfl),
    m_Depot := (M_Depot),
    fa_Depot_period := (at1 M_Depot ⟨C_Depot, h_no_Depot_period⟩),
    fa_Depot_quota := (at1 M_Depot ⟨C_Depot, h_no_Depot_quota⟩),
    fa_Depot_firsts := (at1 M_Depot ⟨C_Depot, h_no_Depot_firsts⟩),
    is_Depot := (I_Depot),
    m_Book := (M_Book),
    fa_Book_stretches := (at1 M_Book ⟨C_Book, h_no_Book_stretches⟩),
    fa_Book_days := (at1 M_Book ⟨C_Book, h_no_Book_days⟩),
    is_Book := (I_Book),
    m_OutagainError := (M_OutagainError),
    m_OutOfRange := (M_OutOfRange),
    m_BadDepot := (M_BadDepot),
    m_BadBook := (M_BadBook),
    ex_BadBook := (⟨M_BadBook, ⟨⟨_, _, _, _, _, _, _, _, _, _, _, _, _, _, _, h_xo_BadBook, h_ve_BadBook⟩, h_sa_BadBook, h_be_BadBook, h_ty_BadBook, h_kc_BadBook⟩, h_ini_BadBook, h_tf_BadBook, fun f hf => by
        have hf' : f ∈ (["at", "code"] : List Str) := hf
        simp only [List.mem_cons, List.not_mem_nil, or_false] at hf'
        rcases hf' with rfl | rfl
        · exact h_no_BadBook_at
        · exact h_no_BadBook_code⟩),
    ex_OutOfRange := (⟨M_OutOfRange, ⟨⟨_, _, _, _, _, _, _, _, _, _, _, _, _, _, _, h_xo_OutOfRange, h_ve_OutOfRange⟩, h_sa_OutOfRange, h_be_OutOfRange, h_ty_OutOfRange, h_kc_OutOfRange⟩, h_ini_OutOfRange, h_tf_OutOfRange, fun f hf => by
        have hf' : f ∈ (["at", "code"] : List Str) := hf
        simp only [List.mem_cons, List.not_mem_nil, or_false] at hf'
        rcases hf' with rfl | rfl
        · exact h_no_OutOfRange_at
        · exact h_no_OutOfRange_code⟩),
    fld_stretches := (fun c j h => by
        have hm := lookup_mem h
        simp only [List.mem_cons, Prod.mk.injEq, List.not_mem_nil, or_false] at hm
        rcases hm with ⟨rfl, rfl⟩
        · exact ⟨by decide, rfl, at1 M_Book ⟨C_Book, h_no_Book_stretches⟩⟩),
    fld_days := (fun c j h => by
        have hm := lookup_mem h
        simp only [List.mem_cons, Prod.mk.injEq, List.not_mem_nil, or_false] at hm
        rcases hm with ⟨rfl, rfl⟩
        · exact ⟨by decide, rfl, at1 M_Book ⟨C_Book, h_no_Book_days⟩⟩),
    cv_Depot_MOST_DRIVERS := (⟨M_Depot, ⟨.type "type", .int 12 t_Depot_MOST_DRIVERS, ⟨h_rd_Depot, h_sga_Depot⟩, ⟨h_cv_Depot_MOST_DRIVERS, ⟨_, rfl⟩⟩⟩⟩),
    g_MOST_STRETCHES := (⟨_, PySem.W.mg_of X G h_g_MOST_STRETCHES⟩),
    g_MOST_DAYS := (⟨_, PySem.W.mg_of X G h_g_MOST_DAYS⟩),
    n_abs := (PySem.W.mg_none_of X G h_n_abs),
    n_bool := (PySem.W.mg_none_of X G h_n_bool),
    n_enumerate := (PySem.W.mg_none_of X G h_n_enumerate),
    n_int := (PySem.W.mg_none_of X G h_n_int),
    n_isinstance := (PySem.W.mg_none_of X G h_n_isinstance),
    n_len := (PySem.W.mg_none_of X G h_n_len),
    n_list := (PySem.W.mg_none_of X G h_n_list),
    n_max := (PySem.W.mg_none_of X G h_n_max),
    n_min := (PySem.W.mg_none_of X G h_n_min),
    n_range := (PySem.W.mg_none_of X G h_n_range),
    n_str := (PySem.W.mg_none_of X G h_n_str),
    n_sum := (PySem.W.mg_none_of X G h_n_sum),
    n_tuple := (PySem.W.mg_none_of X G h_n_tuple),
    ca_BadBook := (fun c b h => by
        unfold c_BadBook at h
        split at h
        · cases h; exact at1 M_OutOfRange (exm_of h_be_BadBook h_hd_BadBook h_ty_BadBook h_sb_OutOfRange_BadBook)
        · cases h; exact at1 M_BadDepot (exm_of h_be_BadBook h_hd_BadBook h_ty_BadBook h_sb_BadDepot_BadBook)
        · cases h; exact at1 M_BadBook (exm_of h_be_BadBook h_hd_BadBook h_ty_BadBook h_sb_BadBook_BadBook)
        · cases h),
    ca_OutOfRange := (fun c b h => by
        unfold c_OutOfRange at h
        split at h
        · cases h; exact at1 M_OutOfRange (exm_of h_be_OutOfRange h_hd_OutOfRange h_ty_OutOfRange h_sb_OutOfRange_OutOfRange)
        · cases h; exact at1 M_BadDepot (exm_of h_be_OutOfRange h_hd_OutOfRange h_ty_OutOfRange h_sb_BadDepot_OutOfRange)
        · cases h; exact at1 M_BadBook (exm_of h_be_OutOfRange h_hd_OutOfRange h_ty_OutOfRange h_sb_BadBook_OutOfRange)
        · cases h),
    xf_code := (fun c j h => by
        have hm := lookup_mem h
        simp only [List.mem_cons, Prod.mk.injEq, List.not_mem_nil, or_false] at hm
        rcases hm with ⟨rfl, rfl⟩ | ⟨rfl, rfl⟩ | ⟨rfl, rfl⟩
        · exact ⟨by decide, rfl, at1 M_OutOfRange ⟨⟨h_ga_OutOfRange, h_gg_OutOfRange, h_be_OutOfRange, h_hd_OutOfRange⟩, h_no_OutOfRange_code⟩⟩
        · exact ⟨by decide, rfl, at1 M_BadDepot ⟨⟨h_ga_BadDepot, h_gg_BadDepot, h_be_BadDepot, h_hd_BadDepot⟩, h_no_BadDepot_code⟩⟩
        · exact ⟨by decide, rfl, at1 M_BadBook ⟨⟨h_ga_BadBook, h_gg_BadBook, h_be_BadBook, h_hd_BadBook⟩, h_no_BadBook_code⟩⟩),
    xf_at := (fun c j h => by
        have hm := lookup_mem h
        simp only [List.mem_cons, Prod.mk.injEq, List.not_mem_nil, or_false] at hm
        rcases hm with ⟨rfl, rfl⟩ | ⟨rfl, rfl⟩ | ⟨rfl, rfl⟩
        · exact ⟨by decide, rfl, at1 M_OutOfRange ⟨⟨h_ga_OutOfRange, h_gg_OutOfRange, h_be_OutOfRange, h_hd_OutOfRange⟩, h_no_OutOfRange_at⟩⟩
        · exact ⟨by decide, rfl, at1 M_BadDepot ⟨⟨h_ga_BadDepot, h_gg_BadDepot, h_be_BadDepot, h_hd_BadDepot⟩, h_no_BadDepot_at⟩⟩
        · exact ⟨by decide, rfl, at1 M_BadBook ⟨⟨h_ga_BadBook, h_gg_BadBook, h_be_BadBook, h_hd_BadBook⟩, h_no_BadBook_at⟩⟩) }
  exact ⟨_, fun s v => .of_eq rfl, fun base _ _ => law_imp (ok_law T) pure_law⟩
end Pu
open PySem PySem.W PyProof.Rows
set_option maxRecDepth 100000 in
set_option maxHeartbeats 0 in
theorem PySem.Challenge.cw_outagain_k04_head_and_tail_holds : PySem.Challenge.rw_outagain_k04_head_and_tail.Holds := by
  w_on; o_law; k_head; (case hw => w_witness2)
  k_fill
  refine L2.walk_of (l := PySem.Challenge.rw_outagain_k04_head_and_tail) (n := 63) (k := 11) (x := "script") (CX := fun w => L2.CX PySem.Challenge.rw_outagain_k04_head_and_tail.prog w) (sp := fun w => Pu.spLaw _) rfl (by decide) rfl ⟨rfl, by decide, by decide⟩ (fun w h Y => PySem.W.kIn_of Y) ?F (fun _ _ a ns hl _ hS => ⟨a, ns, rfl, hS, hl, fun _ => rfl⟩) (fun w H s e s' => Pu.cx_none H s e s')
  case F =>
    intro w mg fa h KX G hmg
    refine' Pu.all_mk Pu.pure_law KX G hmg ?h_lk__law_pool ?h_co__law_pool ?h_kp__law_pool ?h_ns__law_pool ?h_lk__law_take ?h_co__law_take ?h_kp__law_take ?h_ns__law_take ?h_lk__law_code ?h_co__law_code ?h_kp__law_code ?h_ns__law_code ?h_lk__law_great ?h_co__law_great ?h_kp__law_great ?h_ns__law_great ?h_lk__law_span ?h_co__law_span ?h_kp__law_span ?h_ns__law_span ?h_lk__law_group ?h_co__law_group ?h_kp__law_group ?h_ns__law_group ?h_lk__law_stretches ?h_co__law_stretches ?h_kp__law_stretches ?h_ns__law_stretches ?h_lk_ascending ?h_co_ascending ?h_kp_ascending ?h_ns_ascending ?h_lk_check_stretches ?h_co_check_stretches ?h_kp_check_stretches ?h_ns_check_stretches ?h_lk_join_neighbours ?h_co_join_neighbours ?h_kp_join_neighbours ?h_ns_join_neighbours ?h_lk_BookU_initU ?h_co_BookU_initU ?h_kp_BookU_initU ?h_mk_Book ?h_ini_Book ?h_fn_BookU_initU ?h_kc_Book ?h_lk__law_part ?h_co__law_part ?h_kp__law_part ?h_ns__law_part ?h_lk__law_upto ?h_co__law_upto ?h_kp__law_upto ?h_ns__law_upto ?h_lk__law_cut ?h_co__law_cut ?h_kp__law_cut ?h_ns__law_cut ?h_lk__law_joined ?h_co__law_joined ?h_kp__law_joined ?h_ns__law_joined ?h_lk__law_number ?h_co__law_number ?h_kp__law_number ?h_ns__law_number ?h_lk__law_same ?h_co__law_same ?h_kp__law_same ?h_ns__law_same ?h_lk__law_is_book ?h_co__law_is_book ?h_kp__law_is_book ?h_ns__law_is_book ?h_lk_BookU_eqU ?h_co_BookU_eqU ?h_kp_BookU_eqU ?h_nf_Book_NoneType ?h_nf_Book_bool ?h_nf_Book_int ?h_nf_Book_str ?h_nf_Book_list ?h_nf_Book_tuple ?h_nfo_Book_Depot ?h_nfo_Book ?h_eq_Book ?h_fn_BookU_eqU ?h_lk_check_part ?h_co_check_part ?h_kp_check_part ?h_ns_check_part ?h_lk_rear_pairs ?h_co_rear_pairs ?h_kp_rear_pairs ?h_ns_rear_pairs ?h_lk_Book_tail ?h_co_Book_tail ?h_kp_Book_tail ?h_at_Book_tail ?h_fn_Book_tail ?h_lk_front_pairs ?h_co_front_pairs ?h_kp_front_pairs ?h_ns_front_pairs ?h_lk_Book_head ?h_co_Book_head ?h_kp_Book_head ?h_at_Book_head ?h_fn_Book_head ?h_lk__law_asked ?h_co__law_asked ?h_kp__law_asked ?h_ns__law_asked ?h_lk_BookU_addU ?h_co_BookU_addU ?h_kp_BookU_addU ?h_ad_Book ?h_fn_BookU_addU ?h_sf_Book ?h_lk__law_summed ?h_co__law_summed ?h_kp__law_summed ?h_ns__law_summed ?h_lk_check_morning ?h_co_check_morning ?h_kp_check_morning ?h_ns_check_morning ?h_lk_Book_runners_on ?h_co_Book_runners_on ?h_kp_Book_runners_on ?h_at_Book_runners_on ?h_fn_Book_runners_on ?h_lk__law_on ?h_co__law_on ?h_kp__law_on ?h_ns__law_on ?h_lk__law_halves ?h_co__law_halves ?h_kp__law_halves ?h_ns__law_halves ?h_lk_Book_flipped ?h_co_Book_flipped ?h_kp_Book_flipped ?h_at_Book_flipped ?h_fn_Book_flipped ?h_lk__law_turned ?h_co__law_turned ?h_kp__law_turned ?h_ns__law_turned ?h_lk__law_refused ?h_co__law_refused ?h_kp__law_refused ?h_ns__law_refused ?h_lk_law ?h_co_law ?h_kp_law ?h_ns_law ?h_lk_BadBookU_initU ?h_co_BadBookU_initU ?h_kp_BadBookU_initU ?h_lk_OutOfRangeU_initU ?h_co_OutOfRangeU_initU ?h_kp_OutOfRangeU_initU ?h_hn ?h_ht ?h_ns_Depot ?h_pg_Depot ?h_hd_Depot ?h_po_Depot ?h_sa_Depot ?h_no_Depot_period ?h_no_Depot_quota ?h_no_Depot_firsts ?h_ns_Book ?h_pg_Book ?h_hd_Book ?h_po_Book ?h_sa_Book ?h_no_Book_stretches ?h_no_Book_days ?h_kt_Depot_NoneType ?h_kt_Depot_bool ?h_kt_Depot_int ?h_kt_Depot_str ?h_kt_Depot_list ?h_kt_Depot_tuple ?h_ko_Depot_Depot ?h_cl_Depot ?h_mro_Depot ?h_ko_Book_Depot ?h_cl_Book ?h_mro_Book ?h_kt_Book_NoneType ?h_kt_Book_bool ?h_kt_Book_int ?h_kt_Book_str ?h_kt_Book_list ?h_kt_Book_tuple ?h_ko_Depot_Book ?h_ko_Book_Book ?h_ns_OutagainError ?h_ns_OutOfRange ?h_ns_BadDepot ?h_ns_BadBook ?h_xo_BadBook ?h_ve_BadBook ?h_sa_BadBook ?h_kc_BadBook ?h_ini_BadBook ?h_tf_BadBook ?h_no_BadBook_at ?h_no_BadBook_code ?h_be_BadBook ?h_ty_BadBook ?h_xo_OutOfRange ?h_ve_OutOfRange ?h_sa_OutOfRange ?h_kc_OutOfRange ?h_ini_OutOfRange ?h_tf_OutOfRange ?h_no_OutOfRange_at ?h_no_OutOfRange_code ?h_be_OutOfRange ?h_ty_OutOfRange ?h_rd_Depot ?h_sga_Depot ?h_cv_Depot_MOST_DRIVERS ?h_g_MOST_STRETCHES ?h_g_MOST_DAYS ?h_n_abs ?h_n_bool ?h_n_enumerate ?h_n_int ?h_n_isinstance ?h_n_len ?h_n_list ?h_n_max ?h_n_min ?h_n_range ?h_n_str ?h_n_sum ?h_n_tuple ?h_sb_OutOfRange_BadBook ?h_hd_BadBook ?h_sb_BadDepot_BadBook ?h_sb_BadBook_BadBook ?h_sb_OutOfRange_OutOfRange ?h_hd_OutOfRange ?h_sb_BadDepot_OutOfRange ?h_sb_BadBook_OutOfRange ?h_ga_OutOfRange ?h_gg_OutOfRange ?h_ga_BadDepot ?h_gg_BadDepot ?h_be_BadDepot ?h_hd_BadDepot ?h_no_BadDepot_code ?h_ga_BadBook ?h_gg_BadBook ?h_no_BadDepot_at
    (case h_ns__law_pool => k_is)
    (case h_ns__law_take => k_is)
    (case h_ns__law_code => k_is)
    (case h_ns__law_great => k_is)
    (case h_ns__law_span => k_is)
    (case h_ns__law_group => k_is)
    (case h_ns__law_stretches => k_is)
    (case h_ns_ascending => k_is)
    (case h_ns_check_stretches => k_is)
    (case h_ns_join_neighbours => k_is)
    (case h_ns__law_part => k_is)
    (case h_ns__law_upto => k_is)
    (case h_ns__law_cut => k_is)
    (case h_ns__law_joined => k_is)
    (case h_ns__law_number => k_is)
    (case h_ns__law_same => k_is)
    (case h_ns__law_is_book => k_is)
    (case h_ns_check_part => k_is)
    (case h_ns_rear_pairs => k_is)
    (case h_ns_front_pairs => k_is)
    (case h_ns__law_asked => k_is)
    (case h_ns__law_summed => k_is)
    (case h_ns_check_morning => k_is)
    (case h_ns__law_on => k_is)
    (case h_ns__law_halves => k_is)
    (case h_ns__law_turned => k_is)
    (case h_ns__law_refused => k_is)
    (case h_ns_law => k_is)
    (case h_ns_Depot => k_is)
    (case h_ns_Book => k_is)
    (case h_ns_OutagainError => k_is)
    (case h_ns_OutOfRange => k_is)
    (case h_ns_BadDepot => k_is)
    (case h_ns_BadBook => k_is)
    (case h_g_MOST_STRETCHES => k_is)
    (case h_g_MOST_DAYS => k_is)
    (case h_n_abs => k_is)
    (case h_n_bool => k_is)
    (case h_n_enumerate => k_is)
    (case h_n_int => k_is)
    (case h_n_isinstance => k_is)
    (case h_n_len => k_is)
    (case h_n_list => k_is)
    (case h_n_max => k_is)
    (case h_n_min => k_is)
    (case h_n_range => k_is)
    (case h_n_str => k_is)
    (case h_n_sum => k_is)
    (case h_n_tuple => k_is)
    (case h_ini_Book => k_is)
    (case h_eq_Book => k_is)
    (case h_at_Book_tail => k_is)
    (case h_at_Book_head => k_is)
    (case h_ad_Book => k_is)
    (case h_at_Book_runners_on => k_is)
    (case h_at_Book_flipped => k_is)
    (case h_ini_BadBook => k_is)
    (case h_ini_OutOfRange => k_is)
    (case h_lk__law_pool => k_is)
    (case h_lk__law_take => k_is)
    (case h_lk__law_code => k_is)
    (case h_lk__law_great => k_is)
    (case h_lk__law_span => k_is)
    (case h_lk__law_group => k_is)
    (case h_lk__law_stretches => k_is)
    (case h_lk_ascending => k_is)
    (case h_lk_check_stretches => k_is)
    (case h_lk_join_neighbours => k_is)
    (case h_lk_BookU_initU => k_is)
    (case h_lk__law_part => k_is)
    (case h_lk__law_upto => k_is)
    (case h_lk__law_cut => k_is)
    (case h_lk__law_joined => k_is)
    (case h_lk__law_number => k_is)
    (case h_lk__law_same => k_is)
    (case h_lk__law_is_book => k_is)
    (case h_lk_BookU_eqU => k_is)
    (case h_lk_check_part => k_is)
    (case h_lk_rear_pairs => k_is)
    (case h_lk_Book_tail => k_is)
    (case h_lk_front_pairs => k_is)
    (case h_lk_Book_head => k_is)
    (case h_lk__law_asked => k_is)
    (case h_lk_BookU_addU => k_is)
    (case h_lk__law_summed => k_is)
    (case h_lk_check_morning => k_is)
    (case h_lk_Book_runners_on => k_is)
    (case h_lk__law_on => k_is)
    (case h_lk__law_halves => k_is)
    (case h_lk_Book_flipped => k_is)
    (case h_lk__law_turned => k_is)
    (case h_lk__law_refused => k_is)
    (case h_lk_law => k_is)
    (case h_lk_BadBookU_initU => k_is)
    (case h_lk_OutOfRangeU_initU => k_is)
    (case h_xo_BadBook => k_is)
    (case h_xo_OutOfRange => k_is)
    (case h_co__law_pool => k_is)
    (case h_kp__law_pool => k_is)
    (case h_co__law_take => k_is)
    (case h_kp__law_take => k_is)
    (case h_co__law_code => k_is)
    (case h_kp__law_code => k_is)
    (case h_co__law_great => k_is)
    (case h_kp__law_great => k_is)
    (case h_co__law_span => k_is)
    (case h_kp__law_span => k_is)
    (case h_co__law_group => k_is)
    (case h_kp__law_group => k_is)
    (case h_co__law_stretches => k_is)
    (case h_kp__law_stretches => k_is)
    (case h_co_ascending => k_is)
    (case h_kp_ascending => k_is)
    (case h_co_check_stretches => k_is)
    (case h_kp_check_stretches => k_is)
    (case h_co_join_neighbours => k_is)
    (case h_kp_join_neighbours => k_is)
    (case h_co_BookU_initU => k_is)
    (case h_kp_BookU_initU => k_is)
    (case h_mk_Book => k_is)
    (case h_fn_BookU_initU => k_is)
    (case h_kc_Book => k_is)
    (case h_co__law_part => k_is)
    (case h_kp__law_part => k_is)
    (case h_co__law_upto => k_is)
    (case h_kp__law_upto => k_is)
    (case h_co__law_cut => k_is)
    (case h_kp__law_cut => k_is)
    (case h_co__law_joined => k_is)
    (case h_kp__law_joined => k_is)
    (case h_co__law_number => k_is)
    (case h_kp__law_number => k_is)
    (case h_co__law_same => k_is)
    (case h_kp__law_same => k_is)
    (case h_co__law_is_book => k_is)
    (case h_kp__law_is_book => k_is)
    (case h_co_BookU_eqU => k_is)
    (case h_kp_BookU_eqU => k_is)
    (case h_nf_Book_NoneType => k_is)
    (case h_nf_Book_bool => k_is)
    (case h_nf_Book_int => k_is)
    (case h_nf_Book_str => k_is)
    (case h_nf_Book_list => k_is)
    (case h_nf_Book_tuple => k_is)
    (case h_nfo_Book_Depot => k_is)
    (case h_nfo_Book => k_is)
    (case h_fn_BookU_eqU => k_is)
    (case h_co_check_part => k_is)
    (case h_kp_check_part => k_is)
    (case h_co_rear_pairs => k_is)
    (case h_kp_rear_pairs => k_is)
    (case h_co_Book_tail => k_is)
    (case h_kp_Book_tail => k_is)
    (case h_fn_Book_tail => k_is)
    (case h_co_front_pairs => k_is)
    (case h_kp_front_pairs => k_is)
    (case h_co_Book_head => k_is)
    (case h_kp_Book_head => k_is)
    (case h_fn_Book_head => k_is)
    (case h_co__law_asked => k_is)
    (case h_kp__law_asked => k_is)
    (case h_co_BookU_addU => k_is)
    (case h_kp_BookU_addU => k_is)
    (case h_fn_BookU_addU => k_is)
    (case h_sf_Book => k_is)
    (case h_co__law_summed => k_is)
    (case h_kp__law_summed => k_is)
    (case h_co_check_morning => k_is)
    (case h_kp_check_morning => k_is)
    (case h_co_Book_runners_on => k_is)
    (case h_kp_Book_runners_on => k_is)
    (case h_fn_Book_runners_on => k_is)
    (case h_co__law_on => k_is)
    (case h_kp__law_on => k_is)
    (case h_co__law_halves => k_is)
    (case h_kp__law_halves => k_is)
    (case h_co_Book_flipped => k_is)
    (case h_kp_Book_flipped => k_is)
    (case h_fn_Book_flipped => k_is)
    (case h_co__law_turned => k_is)
    (case h_kp__law_turned => k_is)
    (case h_co__law_refused => k_is)
    (case h_kp__law_refused => k_is)
    (case h_co_law => k_is)
    (case h_kp_law => k_is)
    (case h_co_BadBookU_initU => k_is)
    (case h_kp_BadBookU_initU => k_is)
    (case h_co_OutOfRangeU_initU => k_is)
    (case h_kp_OutOfRangeU_initU => k_is)
    (case h_hn => k_is)
    (case h_ht => k_is)
    (case h_pg_Depot => k_is)
    (case h_hd_Depot => k_is)
    (case h_po_Depot => k_is)
    (case h_sa_Depot => k_is)
    (case h_no_Depot_period => k_is)
    (case h_no_Depot_quota => k_is)
    (case h_no_Depot_firsts => k_is)
    (case h_pg_Book => k_is)
    (case h_hd_Book => k_is)
    (case h_po_Book => k_is)
    (case h_sa_Book => k_is)
    (case h_no_Book_stretches => k_is)
    (case h_no_Book_days => k_is)
    (case h_kt_Depot_NoneType => (first | k_is | kit_is))
    (case h_kt_Depot_bool => (first | k_is | kit_is))
    (case h_kt_Depot_int => (first | k_is | kit_is))
    (case h_kt_Depot_str => (first | k_is | kit_is))
    (case h_kt_Depot_list => (first | k_is | kit_is))
    (case h_kt_Depot_tuple => (first | k_is | kit_is))
    (case h_ko_Depot_Depot => (first | k_is | kit_is))
    (case h_cl_Depot => k_is)
    (case h_mro_Depot => k_is)
    (case h_ko_Book_Depot => (first | k_is | kit_is))
    (case h_cl_Book => k_is)
    (case h_mro_Book => k_is)
    (case h_kt_Book_NoneType => (first | k_is | kit_is))
    (case h_kt_Book_bool => (first | k_is | kit_is))
    (case h_kt_Book_int => (first | k_is | kit_is))
    (case h_kt_Book_str => (first | k_is | kit_is))
    (case h_kt_Book_list => (first | k_is | kit_is))
    (case h_kt_Book_tuple => (first | k_is | kit_is))
    (case h_ko_Depot_Book => (first | k_is | kit_is))
    (case h_ko_Book_Book => (first | k_is | kit_is))
    (case h_ve_BadBook => (first | decide +kernel | k_is))
    (case h_sa_BadBook => k_is)
    (case h_kc_BadBook => k_is)
    (case h_tf_BadBook => k_is)
    (case h_no_BadBook_at => k_is)
    (case h_no_BadBook_code => k_is)
    (case h_be_BadBook => k_is)
    (case h_ty_BadBook => k_is)
    (case h_ve_OutOfRange => (first | decide +kernel | k_is))
    (case h_sa_OutOfRange => k_is)
    (case h_kc_OutOfRange => k_is)
    (case h_tf_OutOfRange => k_is)
    (case h_no_OutOfRange_at => k_is)
    (case h_no_OutOfRange_code => k_is)
    (case h_be_OutOfRange => k_is)
    (case h_ty_OutOfRange => k_is)
    (case h_rd_Depot => k_is)
    (case h_sga_Depot => k_is)
    (case h_cv_Depot_MOST_DRIVERS => k_is)
    (case h_sb_OutOfRange_BadBook => k_is)
    (case h_hd_BadBook => k_is)
    (case h_sb_BadDepot_BadBook => k_is)
    (case h_sb_BadBook_BadBook => k_is)
    (case h_sb_OutOfRange_OutOfRange => k_is)
    (case h_hd_OutOfRange => k_is)
    (case h_sb_BadDepot_OutOfRange => k_is)
    (case h_sb_BadBook_OutOfRange => k_is)
    (case h_ga_OutOfRange => k_is)
    (case h_gg_OutOfRange => k_is)
    (case h_ga_BadDepot => k_is)
    (case h_gg_BadDepot => k_is)
    (case h_be_BadDepot => k_is)
    (case h_hd_BadDepot => k_is)
    (case h_no_BadDepot_code => k_is)
    (case h_ga_BadBook => k_is)
    (case h_gg_BadBook => k_is)
    (case h_no_BadDepot_at => k_is)
