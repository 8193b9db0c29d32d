import PyProof.Rows.All
import Wide.All
import OpenK.AllK
import Wide.FinOn
import HandS.ForMost
import HandS.ForExc
import HandS.Walk
import HandS.Wide
import HandS.TupAny
import HandS.Strs
import HandS.More
import HandS.SetFor
import HandS.Conv
import HandS.Style
import HandS.IsInst
import HandS.Flow
import HandS.Deep
import HandS.SortInts
import HandS.SortRule
import HandS.NoneIn
import KE.GoesEnum
import KE.GoesMore
import HandS.Property
import HandS.ClsMeth
import HandS.CallSlots
import HandS.ExcInit
import HandS.ExcField
import HandS.TryOnly
import HandS.TryMany
import HandS.ExcIs
import KE.KExcIs
import HandS.OwnEq
import KE.KTupSum
import KE.GoesZip
import HandS.Comp
import PySem.Challenge.RW_outagain_k18_crews_seen
set_option Elab.async false
set_option linter.all false
set_option maxRecDepth 100000
set_option maxHeartbeats 2000000
set_option autoImplicit false
namespace Pu
open PySem L2

inductive D where
  | non | bl (b : Bool) | int (i : Int) | str (x : Str) | lst (ds : List D) | tup (ds : List D)
  | obj (c : Nat) (ds : List D) | pool | cls (c : Nat) | script (ns : List Int) | pin (a : Addr) (ns : List Int)
  /-- a list that is only looked at -/
  | vw (ds : List D)
deriving Inhabited

def ctab : Nat → Str × List Str
  | 0 => ("Depot", ["period", "quota", "firsts"])
  | 1 => ("Book", ["stretches", "days"])
  | 2 => ("After", ["days", "passes", "longs", "nexts", "_depot"])
  | 20 => ("OutagainError", [])
  | 21 => ("OutOfRange", ["at", "code"])
  | 22 => ("BadDepot", ["at", "code"])
  | 23 => ("BadBook", ["at", "code"])
  | 24 => ("BadLives", ["at", "code"])
  | 25 => ("BadPasses", ["at", "code"])
  | 26 => ("BadCrews", ["at", "code"])
  | 27 => ("BadWish", ["at", "code"])
  | 28 => ("BadBounds", ["at", "code"])
  | 29 => ("BadNotes", ["at", "code"])
  | 30 => ("BadLists", ["at", "code"])
  | 31 => ("BadLine", ["at", "code"])
  | 32 => ("NoBook", ["reason"])
  | 33 => ("GoalLost", ["reason"])
  | 34 => ("NothingLeft", [])
  | _ => ("", [])
def cname (c : Nat) : Str := (ctab c).1
def cfs (c : Nat) : List Str := (ctab c).2

inductive GO where
  | fz (o : HO) | pool (l : Addr) (ns : List Int) | vw (xs : List V)
abbrev Gp := Addr → Option GO
def updG (G : Gp) (a : Addr) (g : GO) : Gp := fun b => if b = a then some g else G b
theorem updG_same {G : Gp} {a : Addr} {g : GO} : updG G a g a = some g := by unfold updG; rw [if_pos rfl]
theorem updG_ne {G : Gp} {a b : Addr} {g : GO} (h : b ≠ a) : updG G a g b = G b := by unfold updG; rw [if_neg h]
structure Ctx where
  K : PySem.W.Frag
  mg : Str → Option Value

def KL (K : PySem.W.Frag) (a : Addr) (xs : List V) : Prop :=
  ∃ (o : Obj) (its : Array Value) (n : Nat), K.lookup a = some o ∧ o.cls = .type "list" ∧ o.dict = none ∧ o.data = .seq its n ∧ its.size ≤ sizeLine ∧ Vals xs its.toList
def KT (K : PySem.W.Frag) (a : Addr) (xs : List V) : Prop :=
  ∃ (o : Obj) (its : Array Value) (n : Nat), K.lookup a = some o ∧ o.cls = .type "tuple" ∧ o.dict = none ∧ o.data = .seq its n ∧ its.size ≤ sizeLine ∧ Vals xs its.toList
def LkG (G : Gp) (a : Addr) (xs : List V) : Prop := G a = some (.fz (.lst xs)) ∨ G a = some (.vw xs)
def LsG (C : Ctx) (G : Gp) (a : Addr) (xs : List V) : Prop := LkG G a xs ∨ (∃ o, G a = some (.fz (.frz o (.lst xs)))) ∨ KL C.K a xs
def LfG (G : Gp) (a : Addr) (xs : List V) : Prop := G a = some (.fz (.lst xs))
def TpG (C : Ctx) (G : Gp) (a : Addr) (xs : List V) : Prop := (∃ o, G a = some (.fz (.frz o (.tup xs))) ∧ o.dict = none) ∨ KT C.K a xs
def mkF (c : Nat) (vs : List V) : List (Str × V) := (cfs c).zip vs

mutual
inductive R (C : Ctx) (G : Gp) : V → D → Prop
  | non : R C G .non .non
  | bl (b) : R C G (.bl b) (.bl b)
  | int (i) : R C G (.int i) (.int i)
  | str (x) : R C G (.str x) (.str x)
  | lst {a xs ds} : LfG G a xs → RAll C G xs ds → R C G (.ref a) (.lst ds)
  | script {a} {ns : List Int} : LsG C G a (ns.map V.int) → R C G (.ref a) (.script ns)
  | tup {a xs ds} : TpG C G a xs → RAll C G xs ds → R C G (.ref a) (.tup ds)
  | obj {a A dx vs c ds} : C.mg (cname c) = some (.ref A) → G a = some (.fz (.ins A dx (mkF c vs))) → RAll C G vs ds → ds.length = (cfs c).length → R C G (.ref a) (.obj c ds)
  | pool {a l ns} : G a = some (.pool l ns) → R C G (.ref a) .pool
  | pin {a ns} : LkG G a (ns.map V.int) → R C G (.ref a) (.pin a ns)
  | vw {a xs ds} : G a = some (.vw xs) → RAll C G xs ds → R C G (.ref a) (.vw ds)
  | cls {A c} : C.mg (cname c) = some (.ref A) → R C G (.ref A) (.cls c)
inductive RAll (C : Ctx) (G : Gp) : List V → List D → Prop
  | nil : RAll C G [] []
  | cons {v d vs ds} : R C G v d → RAll C G vs ds → RAll C G (v :: vs) (d :: ds)
end

section
variable {C : Ctx} {G G' : Gp}
theorem LkG.mono {a xs} (k : ∀ a g, G a = some g → G' a = some g) (h : LkG G a xs) : LkG G' a xs := h.imp (k _ _) (k _ _)
theorem LsG.mono {a xs} (k : ∀ a g, G a = some g → G' a = some g) (h : LsG C G a xs) : LsG C G' a xs := by
  rcases h with h | ⟨o, h⟩ | h
  · exact .inl (h.mono k)
  · exact .inr (.inl ⟨o, k _ _ h⟩)
  · exact .inr (.inr h)
theorem TpG.mono {a xs} (k : ∀ a g, G a = some g → G' a = some g) (h : TpG C G a xs) : TpG C G' a xs := by
  rcases h with ⟨o, h, hd⟩ | h
  · exact .inl ⟨o, k _ _ h, hd⟩
  · exact .inr h
mutual
theorem R.mono (k : ∀ a g, G a = some g → G' a = some g) : ∀ {v d}, R C G v d → R C G' v d
  | _, _, .non => .non
  | _, _, .bl b => .bl b
  | _, _, .int i => .int i
  | _, _, .str x => .str x
  | _, _, .lst h r => .lst (k _ _ h) (RAll.mono k r)
  | _, _, .script h => .script (h.mono k)
  | _, _, .tup h r => .tup (h.mono k) (RAll.mono k r)
  | _, _, .obj h g r l => .obj h (k _ _ g) (RAll.mono k r) l
  | _, _, .pool g => .pool (k _ _ g)
  | _, _, .pin g => .pin (g.mono k)
  | _, _, .vw h r => .vw (k _ _ h) (RAll.mono k r)
  | _, _, .cls h => .cls h
theorem RAll.mono (k : ∀ a g, G a = some g → G' a = some g) : ∀ {vs ds}, RAll C G vs ds → RAll C G' vs ds
  | _, _, .nil => .nil
  | _, _, .cons r t => .cons (R.mono k r) (RAll.mono k t)
end
theorem RAll.length : ∀ {vs ds}, RAll C G vs ds → vs.length = ds.length
  | _, _, .nil => rfl
  | _, _, .cons _ t => congrArg (· + 1) (RAll.length t)
theorem RAll.append : ∀ {vs ds ws es}, RAll C G vs ds → RAll C G ws es → RAll C G (vs ++ ws) (ds ++ es)
  | _, _, _, _, .nil, s => s
  | _, _, _, _, .cons r t, s => .cons r (RAll.append t s)
theorem RAll.get : ∀ {vs ds} {i : Nat} {d : D}, RAll C G vs ds → ds[i]? = some d → ∃ v, vs[i]? = some v ∧ R C G v d
  | _, _, i, d, .nil, e => by simp at e
  | _, _, 0, d, .cons (v := v) r _, e => by
    have : _ = d := Option.some.inj e
    subst this
    exact ⟨v, rfl, r⟩
  | _, _, i + 1, d, .cons r t, e => by
    obtain ⟨v, h1, h2⟩ := RAll.get (i := i) (d := d) t (by simpa using e)
    exact ⟨v, by simpa using h1, h2⟩
theorem RAll.getV : ∀ {vs ds} {i : Nat} {v : V}, RAll C G vs ds → vs[i]? = some v → ∃ d, ds[i]? = some d ∧ R C G v d
  | _, _, i, d, .nil, e => by simp at e
  | _, _, 0, v, .cons (d := d) r _, e => by
    have : _ = v := Option.some.inj e
    subst this
    exact ⟨d, rfl, r⟩
  | _, _, i + 1, d, .cons r t, e => by
    obtain ⟨v, h1, h2⟩ := RAll.getV (i := i) (v := d) t (by simpa using e)
    exact ⟨v, by simpa using h1, h2⟩
theorem RAll.set {v : V} {d : D} (r : R C G v d) : ∀ {vs ds} (i : Nat), RAll C G vs ds → RAll C G (vs.set i v) (ds.set i d)
  | _, _, _, .nil => .nil
  | _, _, 0, .cons _ t => .cons r t
  | _, _, i + 1, .cons q t => .cons q (RAll.set r i t)
theorem RAll.take : ∀ {vs ds} (n : Nat), RAll C G vs ds → RAll C G (vs.take n) (ds.take n)
  | _, _, 0, _ => by simpa using RAll.nil
  | _, _, _ + 1, .nil => .nil
  | _, _, n + 1, .cons r t => .cons r (RAll.take n t)
theorem RAll.drop : ∀ {vs ds} (n : Nat), RAll C G vs ds → RAll C G (vs.drop n) (ds.drop n)
  | _, _, 0, r => r
  | _, _, _ + 1, .nil => .nil
  | _, _, n + 1, .cons _ t => RAll.drop n t
theorem RAll.one {v d} (r : R C G v d) : RAll C G [v] [d] := .cons r .nil
theorem RAll.reverse : ∀ {vs ds}, RAll C G vs ds → RAll C G vs.reverse ds.reverse
  | _, _, .nil => .nil
  | _, _, .cons r t => by simp only [List.reverse_cons]; exact RAll.append (RAll.reverse t) (.one r)
theorem RAll.dropLast : ∀ {vs ds}, RAll C G vs ds → RAll C G vs.dropLast ds.dropLast
  | _, _, h => by rw [List.dropLast_eq_take, List.dropLast_eq_take, h.length]; exact h.take _
theorem RAll.eraseIdx : ∀ {vs ds} (i : Nat), RAll C G vs ds → RAll C G (vs.eraseIdx i) (ds.eraseIdx i)
  | _, _, _, .nil => .nil
  | _, _, 0, .cons _ t => t
  | _, _, i + 1, .cons r t => .cons r (RAll.eraseIdx i t)
theorem RAll.int : ∀ {vs : List V} {ns : List Int}, RAll C G vs (ns.map D.int) → vs = ns.map V.int
  | _, [], .nil => rfl
  | _, n :: ns, .cons r t => by
    cases r
    rw [List.map_cons, RAll.int t]
theorem RAll.ints : ∀ (ns : List Int), RAll C G (ns.map V.int) (ns.map D.int)
  | [] => .nil
  | n :: ns => .cons (.int n) (RAll.ints ns)
end

def PoolAt (H : Hp) (a l : Addr) (ns : List Int) : Prop :=
  ns.length ≤ 63 ∧ ∃ s0 s1 s2 s3 : Int, H a = some (.lst [.int s0, .int s1, .int s2, .int s3, .ref l]) ∧ 0 ≤ s0 ∧ 0 ≤ s1 ∧ s1 < 2147483629 ∧ 0 ≤ s2 ∧ 0 ≤ s3 ∧ s3 ≤ ns.length
def GOk (G : Gp) (H : Hp) (a : Addr) : GO → Prop
  | .fz o => H a = some o
  | .pool l ns => PoolAt H a l ns ∧ LkG G l (ns.map V.int)
  | .vw xs => H a = some (.lst xs)
structure Ok (G : Gp) (H : Hp) : Prop where
  at_ : ∀ a g, G a = some g → GOk G H a g
theorem Ok.vw {G : Gp} {H : Hp} {a : Addr} {xs : List V} (k : Ok G H) (h : G a = some (.vw xs)) : H a = some (.lst xs) := k.at_ a _ h
theorem Ok.fz {G : Gp} {H : Hp} {a : Addr} {o : HO} (k : Ok G H) (h : G a = some (.fz o)) : H a = some o := k.at_ a _ h
theorem Ok.lk {G : Gp} {H : Hp} {a : Addr} {xs : List V} (k : Ok G H) (h : LkG G a xs) : H a = some (.lst xs) := h.elim k.fz k.vw
structure Ext (G : Gp) (H : Hp) (G' : Gp) (H' : Hp) : Prop where
  g : ∀ a o, G a = some o → G' a = some o
  ok : Ok G' H'
  h : ∀ a o, H a = some o → G a = none → H' a = some o ∧ G' a = none
theorem Ext.refl {G : Gp} {H : Hp} (k : Ok G H) : Ext G H G H := ⟨fun _ _ h => h, k, fun _ _ h g => ⟨h, g⟩⟩
theorem Ext.trans {G G1 G2 : Gp} {H H1 H2 : Hp} (a : Ext G H G1 H1) (b : Ext G1 H1 G2 H2) : Ext G H G2 H2 :=
  ⟨fun x o h => b.g x o (a.g x o h), b.ok, fun x o h g => let ⟨h1, g1⟩ := a.h x o h g; b.h x o h1 g1⟩
theorem Ok.none_of {G : Gp} {H : Hp} (k : Ok G H) {a : Addr} (h : H a = none) : G a = none := by
  cases e : G a with
  | none => rfl
  | some g =>
    have x := k.at_ a g e
    cases g with
    | fz o =>
      have x' : H a = some o := x
      rw [h] at x'; cases x'
    | pool l ns =>
      obtain ⟨⟨_, _, _, _, _, x', _⟩, _⟩ : PoolAt H a l ns ∧ _ := x
      rw [h] at x'; cases x'
    | vw xs =>
      have x' : H a = some (.lst xs) := x
      rw [h] at x'; cases x'
theorem Ext.back {G G1 : Gp} {H H1 : Hp} (x : Ext G H G1 H1) {p : Addr} (h : H1 p = none) : H p = none := by
  cases e : H p with
  | none => rfl
  | some o =>
    cases eg : G p with
    | none => rw [(x.h p o e eg).1] at h; cases h
    | some g =>
      have z := x.ok.none_of h
      rw [x.g p g eg] at z; cases z
theorem Ext.new {G : Gp} {H : Hp} (k : Ok G H) {p : Addr} {o : HO} (hp : H p = none) : Ext G H G (upd H p o) := by
  refine ⟨fun _ _ h => h, ⟨fun a g h => ?_⟩, fun a u h g => ⟨by rw [upd_ne (ne_of_none h hp)]; exact h, g⟩⟩
  have x := k.at_ a g h
  have hne : a ≠ p := fun e => by rw [e, k.none_of hp] at h; cases h
  cases g with
  | fz u =>
    show upd H p o a = some u
    rw [upd_ne hne]; exact x
  | pool l ns =>
    obtain ⟨⟨hl, s0, s1, s2, s3, x', r⟩, y⟩ : PoolAt H a l ns ∧ _ := x
    exact ⟨⟨hl, s0, s1, s2, s3, by rw [upd_ne hne]; exact x', r⟩, y⟩
  | vw u =>
    show upd H p o a = some _
    rw [upd_ne hne]; exact x
theorem Ok.fzG {G : Gp} {H : Hp} (k : Ok G H) {p : Addr} {o : HO} (hp : H p = some o) (gp : G p = none) : Ok (updG G p (.fz o)) H := by
  refine ⟨fun a g h => ?_⟩
  by_cases e : a = p
  · subst e
    rw [updG_same] at h
    cases h
    exact hp
  · rw [updG_ne e] at h
    have x := k.at_ a g h
    cases g with
    | fz u => exact x
    | pool l ns =>
      obtain ⟨x', y⟩ : PoolAt H a l ns ∧ LkG _ _ _ := x
      refine ⟨x', ?_⟩
      unfold LkG
      rw [updG_ne (fun z => by rw [z] at y; rcases y with y | y <;> (rw [gp] at y; cases y))]
      exact y
    | vw u => exact x
theorem updG_keep {G : Gp} {p : Addr} {g : GO} (gp : G p = none) : ∀ a o, G a = some o → updG G p g a = some o := fun a o h => by
  rw [updG_ne (fun z => by rw [z, gp] at h; cases h)]; exact h
theorem Ext.share {G G1 : Gp} {H H1 : Hp} (x : Ext G H G1 H1) {p : Addr} {o : HO} (hn : H p = none) (hp : H1 p = some o) (gp : G1 p = none) : Ext G H (updG G1 p (.fz o)) H1 := by
  refine ⟨fun a u h => updG_keep gp a u (x.g a u h), x.ok.fzG hp gp, fun a u h g => ?_⟩
  obtain ⟨h1, g1⟩ := x.h a u h g
  exact ⟨h1, by rw [updG_ne (ne_of_none h hn)]; exact g1⟩
theorem Ext.newG {G : Gp} {H : Hp} (k : Ok G H) {p : Addr} {o : HO} (hp : H p = none) : Ext G H (updG G p (.fz o)) (upd H p o) :=
  (Ext.new k hp).share hp upd_same (k.none_of hp)
theorem Ext.write {G0 G : Gp} {H0 H : Hp} (x : Ext G0 H0 G H) {p : Addr} {o : HO} (hn : H0 p = none) (gp : G p = none) : Ext G0 H0 G (upd H p o) := by
  refine ⟨x.g, ⟨fun a g h => ?_⟩, fun a u h g => ?_⟩
  · have y := x.ok.at_ a g h
    have hne : a ≠ p := fun e => by rw [e, gp] at h; cases h
    cases g with
    | fz u =>
      show upd H p o a = some u
      rw [upd_ne hne]; exact y
    | pool l ns =>
      obtain ⟨⟨hl, s0, s1, s2, s3, x', r⟩, y'⟩ : PoolAt H a l ns ∧ _ := y
      exact ⟨⟨hl, s0, s1, s2, s3, by rw [upd_ne hne]; exact x', r⟩, y'⟩
    | vw u =>
      show upd H p o a = some _
      rw [upd_ne hne]; exact y
  · obtain ⟨h1, g1⟩ := x.h a u h g
    exact ⟨by rw [upd_ne (ne_of_none h hn)]; exact h1, g1⟩

section
variable {C : Ctx} {G G' : Gp} {H H' : Hp}
theorem LsG.seq {a xs} (k : Ok G H) (h : LsG C G a xs) : SqL C.K H a xs := by
  rcases h with h | ⟨o, h⟩ | h
  · exact .inl (.inl (k.lk h))
  · exact .inl (.inr ⟨o, k.fz h⟩)
  · exact .inr h
theorem TpG.seq {a xs} (k : Ok G H) (h : TpG C G a xs) : SqT C.K H a xs := by
  rcases h with ⟨o, h, _⟩ | ⟨o, its, n, h1, h2, _, h3⟩
  · exact .inl (.inr ⟨o, k.fz h⟩)
  · exact .inr ⟨o, its, n, h1, h2, h3⟩
theorem Ext.newT {p : Addr} {o : Obj} {xs : List V} {ds : List D} (k : Ok G H) (hp : H p = none) (hd : o.dict = none) (r : RAll C G xs ds) :
    Ext G H (updG G p (.fz (.frz o (.tup xs)))) (upd H p (.frz o (.tup xs))) ∧ R C (updG G p (.fz (.frz o (.tup xs)))) (.ref p) (.tup ds) :=
  ⟨Ext.newG k hp, .tup (.inl ⟨o, updG_same, hd⟩) (r.mono (updG_keep (k.none_of hp)))⟩
def RV (C : Ctx) (G : Gp) (H : Hp) (v : V) (d : D) : Prop :=
  R C G v d ∨ ∃ a xs ds, v = .ref a ∧ d = .lst ds ∧ H a = some (.lst xs) ∧ G a = none ∧ RAll C G xs ds
theorem RV.lst {v ds} (k : Ok G H) (r : RV C G H v (.lst ds)) : ∃ a xs, v = .ref a ∧ H a = some (.lst xs) ∧ RAll C G xs ds := by
  rcases r with r | ⟨a, xs, ds', rfl, e, h, g, r⟩
  · cases r with
    | lst h r => exact ⟨_, _, rfl, k.fz h, r⟩
  · cases e
    exact ⟨a, xs, rfl, h, r⟩
theorem RV.vw {v ds} (k : Ok G H) (r : RV C G H v (.vw ds)) : ∃ a xs, v = .ref a ∧ H a = some (.lst xs) ∧ RAll C G xs ds := by
  rcases r with r | ⟨a, xs, ds', rfl, e, h, g, r⟩
  · cases r with
    | vw h r => exact ⟨_, _, rfl, k.vw h, r⟩
  · cases e
theorem RV.tup {v ds} (k : Ok G H) (r : RV C G H v (.tup ds)) : ∃ a xs, v = .ref a ∧ SqT C.K H a xs ∧ RAll C G xs ds := by
  rcases r with r | ⟨a, xs, ds', rfl, e, h, g, r⟩
  · cases r with
    | tup h r => exact ⟨_, _, rfl, h.seq k, r⟩
  · cases e
theorem RV.ext {v d} (x : Ext G H G' H') (r : RV C G H v d) : RV C G' H' v d := by
  rcases r with r | ⟨a, xs, ds', rfl, e, h, g, r⟩
  · exact .inl (r.mono x.g)
  · obtain ⟨h1, g1⟩ := x.h _ _ h g
    exact .inr ⟨a, xs, ds', rfl, e, h1, g1, r.mono x.g⟩
theorem RV.scal {v d} (r : RV C G H v d) (n : ∀ ds, d ≠ .lst ds) : R C G v d := by
  rcases r with r | ⟨a, xs, ds', rfl, e, h, g, r⟩
  · exact r
  · exact absurd e (n _)
end

structure Exn where
  c : Nat
  ds : List D
def XR (C : Ctx) (G : Gp) (cls : Value) (d : Option Addr) (e : Exn) : Prop :=
  ∃ A, C.mg (cname e.c) = some (.ref A) ∧ cls = .ref A ∧ e.ds.length = (cfs e.c).length ∧
    ((e.ds = [] ∧ d = none) ∨ ∃ dd vs, d = some dd ∧ G dd = some (.fz (.xd ((mkF e.c vs).reverse))) ∧ RAll C G vs e.ds)
theorem XR.ext {C : Ctx} {G G' : Gp} {cls : Value} {d : Option Addr} {e : Exn} (k : ∀ a g, G a = some g → G' a = some g) (r : XR C G cls d e) : XR C G' cls d e := by
  obtain ⟨A, h1, h2, h3, h4⟩ := r
  refine ⟨A, h1, h2, h3, ?_⟩
  rcases h4 with h4 | ⟨dd, vs, e1, e2, e3⟩
  · exact .inl h4
  · exact .inr ⟨dd, vs, e1, k _ _ e2, e3.mono k⟩

inductive S where
  | d (d : D) | own (oa : Option Addr) (ds : List D) | slf (a : Addr) (c : Nat) (ds : List D) | exc (a : Addr) (cls : Value) (dx : Option Addr) (e : Exn)
  /-- data whose lists nobody else knows: those at P -/
  | tree (P : Addr → Prop) (d : D)
abbrev Dl := List (Option S)
inductive SR1 (C : Ctx) (H0 : Hp) (G : Gp) (H : Hp) : V → S → Prop
  | d {v d} : R C G v d → SR1 C H0 G H v (.d d)
  | own {a oa xs ds} : (∀ b, oa = some b → b = a) → H a = some (.lst xs) → G a = none → H0 a = none → RAll C G xs ds → SR1 C H0 G H (.ref a) (.own oa ds)
  | slf {a A dx vs c ds} : C.mg (cname c) = some (.ref A) → H a = some (.ins A dx (mkF c vs)) → G a = none → H0 a = none → RAll C G vs ds → ds.length ≤ (cfs c).length → SR1 C H0 G H (.ref a) (.slf a c ds)
  | exc {a cls dx e} : XR C G cls dx e → SR1 C H0 G H (.ref a) (.exc a cls dx e)
  | tree {v d P Gp} : (∀ a g, Gp a = some g → (P a ∧ ∃ xs, g = .fz (.lst xs) ∧ H a = some (.lst xs)) ∨ (G a = some g ∧ ∀ xs, g ≠ .fz (.lst xs))) → (∀ a, P a → H0 a = none ∧ G a = none ∧ ∃ xs, H a = some (.lst xs)) → R C Gp v d → SR1 C H0 G H v (.tree P d)
def S.isOwn : S → Bool
  | .d _ => false
  | .own _ _ => true
  | .slf _ _ _ => true
  | .exc _ _ _ _ => false
  | .tree _ _ => false
def S.fp : S → V → Addr → Prop
  | .own _ _, v, a => v = .ref a
  | .slf _ _ _, v, a => v = .ref a
  | .tree P _, _, a => P a
  | _, _, _ => False
structure SRel (C : Ctx) (H0 : Hp) (G : Gp) (H : Hp) (σ : St) (δ : Dl) : Prop where
  len : σ.length = δ.length
  at_ : ∀ (i : Nat) (s : S), δ[i]? = some (some s) → ∃ v, σ[i]? = some (some v) ∧ SR1 C H0 G H v s
  apart : ∀ (i j : Nat) (s s' : S) (v v' : V), i ≠ j → δ[i]? = some (some s) → δ[j]? = some (some s') → s.isOwn = true → s'.isOwn = true → σ[i]? = some (some v) → σ[j]? = some (some v') → v ≠ v'
  apT : ∀ (i j : Nat) (P : Addr → Prop) (d : D) (s' : S) (v' : V) (a : Addr), i ≠ j → δ[i]? = some (some (.tree P d)) → δ[j]? = some (some s') → σ[j]? = some (some v') → P a → s'.fp v' a → False
section
variable {C : Ctx} {G G' G0 : Gp} {H H' H0 : Hp} {σ : St} {δ : Dl}
theorem SR1.ext {v s} (x : Ext G H G' H') (r : SR1 C H0 G H v s) : SR1 C H0 G' H' v s := by
  cases r with
  | d r => exact .d (r.mono x.g)
  | own ha h g n r =>
    obtain ⟨h1, g1⟩ := x.h _ _ h g
    exact .own ha h1 g1 n (r.mono x.g)
  | slf m h g n r l =>
    obtain ⟨h1, g1⟩ := x.h _ _ h g
    exact .slf m h1 g1 n (r.mono x.g) l
  | exc r => exact .exc (r.ext x.g)
  | tree h1 h2 r =>
    refine .tree (fun a g e => ?_) (fun a p => ?_) r
    · rcases h1 a g e with ⟨p, xs, rfl, hx⟩ | ⟨g1, n⟩
      · exact .inl ⟨p, xs, rfl, (x.h _ _ hx (h2 a p).2.1).1⟩
      · exact .inr ⟨x.g _ _ g1, n⟩
    · obtain ⟨n, g, xs, hx⟩ := h2 a p
      obtain ⟨y1, y2⟩ := x.h _ _ hx g
      exact ⟨n, y2, xs, y1⟩
theorem SRel.ext (x : Ext G H G' H') (s : SRel C H0 G H σ δ) : SRel C H0 G' H' σ δ :=
  ⟨s.len, fun i t h => let ⟨v, e, r⟩ := s.at_ i t h; ⟨v, e, r.ext x⟩, s.apart, s.apT⟩
theorem SRel.rvD {i : Nat} {e : D} (t : SRel C H0 G H σ δ) (h : δ[i]? = some (some (.d e))) : ∃ v, σ[i]? = some (some v) ∧ R C G v e := by
  obtain ⟨v, e, r⟩ := t.at_ i _ h
  refine ⟨v, e, ?_⟩
  cases r with
  | d r => exact r
theorem SRel.rvO {i : Nat} {oa : Option Addr} {ds : List D} (t : SRel C H0 G H σ δ) (h : δ[i]? = some (some (.own oa ds))) : ∃ v, σ[i]? = some (some v) ∧ RV C G H v (.lst ds) := by
  obtain ⟨v, e, r⟩ := t.at_ i _ h
  refine ⟨v, e, ?_⟩
  cases r with
  | own _ hx gx nx rx => exact .inr ⟨_, _, _, rfl, rfl, hx, gx, rx⟩
theorem SRel.setN {i : Nat} {o : Option V} (t : SRel C H0 G H σ δ) : SRel C H0 G H (σ.set i o) (δ.set i none) := by
  have key : ∀ (j : Nat) (s : S), (δ.set i none)[j]? = some (some s) → j ≠ i ∧ δ[j]? = some (some s) := fun j s h => by
    by_cases e : i = j
    · subst e
      by_cases hl : i < δ.length
      · rw [List.getElem?_set_self hl] at h; cases h
      · rw [List.getElem?_eq_none (by simpa using hl)] at h; cases h
    · rw [List.getElem?_set_ne e] at h
      exact ⟨fun z => e z.symm, h⟩
  refine ⟨by rw [List.length_set, List.length_set, t.len], fun j s h => ?_, fun j k s s' v v' n h1 h2 o1 o2 e1 e2 => ?_, fun j k P d s' v' a n h1 h2 e2 pa f => ?_⟩
  · obtain ⟨n, h⟩ := key j s h
    obtain ⟨v, e, r⟩ := t.at_ j s h
    exact ⟨v, by rw [List.getElem?_set_ne (Ne.symm n)]; exact e, r⟩
  · obtain ⟨n1, h1⟩ := key j s h1
    obtain ⟨n2, h2⟩ := key k s' h2
    rw [List.getElem?_set_ne (Ne.symm n1)] at e1
    rw [List.getElem?_set_ne (Ne.symm n2)] at e2
    exact t.apart j k s s' v v' n h1 h2 o1 o2 e1 e2
  · obtain ⟨n1, h1⟩ := key j _ h1
    obtain ⟨n2, h2⟩ := key k s' h2
    rw [List.getElem?_set_ne (Ne.symm n2)] at e2
    exact t.apT j k P d s' v' a n h1 h2 e2 pa f
theorem SRel.set {i : Nat} {v : V} {s : S} (t : SRel C H0 G H σ δ) (r : SR1 C H0 G H v s) (ap : s.isOwn = true → ∀ (j : Nat) (s' : S), δ[j]? = some (some s') → s'.isOwn = true → j ≠ i → σ[j]? ≠ some (some v))
    (ap2 : ∀ (j : Nat) (s' : S) (v' : V) (a : Addr), δ[j]? = some (some s') → σ[j]? = some (some v') → j ≠ i → s'.fp v' a → s.fp v a → False) :
    SRel C H0 G H (σ.set i (some v)) (δ.set i (some s)) := by
  have key : ∀ (j : Nat) (u : S), (δ.set i (some s))[j]? = some (some u) → (j = i ∧ u = s ∧ i < δ.length) ∨ (j ≠ i ∧ δ[j]? = some (some u)) := fun j u h => by
    by_cases e : i = j
    · subst e
      by_cases hl : i < δ.length
      · rw [List.getElem?_set_self hl] at h
        exact .inl ⟨rfl, (Option.some.inj (Option.some.inj h)).symm, hl⟩
      · rw [List.getElem?_eq_none (by simpa using hl)] at h; cases h
    · rw [List.getElem?_set_ne e] at h
      exact .inr ⟨fun z => e z.symm, h⟩
  refine ⟨by rw [List.length_set, List.length_set, t.len], fun j u h => ?_, fun j k u u' v1 v2 n h1 h2 o1 o2 e1 e2 => ?_, fun j k P d u v2 a n h1 h2 e2 pa f => ?_⟩
  · rcases key j u h with ⟨rfl, rfl, hl⟩ | ⟨n, h⟩
    · exact ⟨v, List.getElem?_set_self (by rw [t.len]; exact hl), r⟩
    · obtain ⟨v', e, r'⟩ := t.at_ j u h
      exact ⟨v', by rw [List.getElem?_set_ne (Ne.symm n)]; exact e, r'⟩
  · rcases key j u h1 with ⟨ej, eu, hl⟩ | ⟨n1, g1⟩
    · rcases key k u' h2 with ⟨ek, _, _⟩ | ⟨n2, g2⟩
      · exact absurd (ej.trans ek.symm) n
      · rw [ej, List.getElem?_set_self (by rw [t.len]; exact hl)] at e1
        rw [List.getElem?_set_ne (Ne.symm n2)] at e2
        have ev : v = v1 := Option.some.inj (Option.some.inj e1)
        intro z
        exact ap (by rw [← eu]; exact o1) k u' g2 o2 n2 (by rw [ev, z]; exact e2)
    · rcases key k u' h2 with ⟨ek, eu, hl⟩ | ⟨n2, g2⟩
      · rw [ek, List.getElem?_set_self (by rw [t.len]; exact hl)] at e2
        rw [List.getElem?_set_ne (Ne.symm n1)] at e1
        have ev : v = v2 := Option.some.inj (Option.some.inj e2)
        intro z
        exact ap (by rw [← eu]; exact o2) j u g1 o1 n1 (by rw [ev, ← z]; exact e1)
      · rw [List.getElem?_set_ne (Ne.symm n1)] at e1
        rw [List.getElem?_set_ne (Ne.symm n2)] at e2
        exact t.apart j k u u' v1 v2 n g1 g2 o1 o2 e1 e2
  · rcases key j _ h1 with ⟨ej, eu, hl⟩ | ⟨n1, g1⟩
    · rcases key k u h2 with ⟨ek, _, _⟩ | ⟨n2, g2⟩
      · exact absurd (ej.trans ek.symm) n
      · rw [List.getElem?_set_ne (Ne.symm n2)] at e2
        exact ap2 k u v2 a g2 e2 n2 f (by rw [← eu]; exact pa)
    · obtain ⟨v1, e1, _⟩ := t.at_ j _ g1
      rcases key k u h2 with ⟨ek, eu, hl⟩ | ⟨n2, g2⟩
      · rw [ek, List.getElem?_set_self (by rw [t.len]; exact hl)] at e2
        have ev : v = v2 := Option.some.inj (Option.some.inj e2)
        exact ap2 j _ v1 a g1 e1 n1 (by exact pa) (by rw [← eu, ev]; exact f)
      · rw [List.getElem?_set_ne (Ne.symm n2)] at e2
        exact t.apT j k P d u v2 a n g1 g2 e2 pa f
theorem SRel.setD {i : Nat} {v : V} {d : D} (t : SRel C H0 G H σ δ) (r : R C G v d) : SRel C H0 G H (σ.set i (some v)) (δ.set i (some (.d d))) :=
  t.set (.d r) (fun z => by cases z) (fun _ _ _ _ _ _ _ _ f => f.elim)
end
def wipeD (δ : Dl) : List Nat → Dl
  | [] => δ
  | v :: vs => (wipeD δ vs).set v none
theorem SRel.wipe {C : Ctx} {G : Gp} {H H0 : Hp} {σ : St} {δ : Dl} (t : SRel C H0 G H σ δ) : ∀ vs : List Nat, SRel C H0 G H (wipe σ vs) (wipeD δ vs)
  | [] => t
  | v :: vs => (SRel.wipe t vs).setN

structure Stt (C : Ctx) (G0 : Gp) (H0 : Hp) (σ : St) (δ : Dl) (G : Gp) (H : Hp) : Prop where
  ext : Ext G0 H0 G H
  sr : SRel C H0 G H σ δ
theorem Stt.ok {C : Ctx} {G0 G : Gp} {H0 H : Hp} {σ : St} {δ : Dl} (t : Stt C G0 H0 σ δ G H) : Ok G H := t.ext.ok
theorem Stt.step {C : Ctx} {G0 G G' : Gp} {H0 H H' : Hp} {σ : St} {δ : Dl} (t : Stt C G0 H0 σ δ G H) (x : Ext G H G' H') : Stt C G0 H0 σ δ G' H' := ⟨t.ext.trans x, t.sr.ext x⟩

def EOk (C : Ctx) (G : Gp) (H : Hp) (E : XK) (P : Exn → Prop) : Prop :=
  ∀ G' H' cls d e, Ext G H G' H' → XR C G' cls d e → P e → E cls d H'
theorem EOk.ext {C : Ctx} {G G' : Gp} {H H' : Hp} {E : XK} {P : Exn → Prop} (h : EOk C G H E P) (x : Ext G H G' H') : EOk C G' H' E P :=
  fun G2 H2 cls d e y r p => h G2 H2 cls d e (x.trans y) r p
abbrev PX := Dl → (D → Prop) → (Exn → Prop) → Prop
abbrev PAx := Dl → (List D → Prop) → (Exn → Prop) → Prop
abbrev PTx := Dl → (Bool → Prop) → (Exn → Prop) → Prop
abbrev PLx := Dl → (List D → Prop) → (Exn → Prop) → Prop
structure PEnds where
  nx : Dl → Prop
  rt : Dl → D → Prop
  bk : Dl → Prop
  ct : Dl → Prop
  ex : Dl → Exn → Prop
abbrev PSx := PEnds → Dl → Prop
abbrev PSp := List D → (D → Prop) → (Exn → Prop) → Prop

abbrev cx (X : Cx) : Ctx := ⟨X.K, X.mg⟩

structure LX (X : Cx) (E : St → XK) (e : Expr) (te : TE) (pe : PX) : Prop where
  py : PE X e te
  le : ∀ {δ : Dl} {σ : St} {G : Gp} {H H0 : Hp} {Q : VK} {P : D → Prop} {P2 : Exn → Prop}, Ok G H → SRel (cx X) H0 G H σ δ → EOk (cx X) G H (E σ) P2 → pe δ P P2 →
    (∀ v d G' H', Ext G H G' H' → R (cx X) G' v d → P d → Q v H') → te σ H Q
structure LV (X : Cx) (E : St → XK) (e : Expr) (te : TE) (pe : PX) : Prop where
  py : PE X e te
  le : ∀ {δ : Dl} {σ : St} {G : Gp} {H H0 : Hp} {Q : VK} {P : D → Prop} {P2 : Exn → Prop}, Ok G H → SRel (cx X) H0 G H σ δ → EOk (cx X) G H (E σ) P2 → pe δ P P2 →
    (∀ v d G' H', Ext G H G' H' → RV (cx X) G' H' v d → P d → Q v H') → te σ H Q
structure LO (X : Cx) (E : St → XK) (e : Expr) (te : TE) (pe : PX) : Prop where
  py : PE X e te
  le : ∀ {δ : Dl} {σ : St} {G : Gp} {H H0 : Hp} {Q : VK} {P : D → Prop} {P2 : Exn → Prop}, Ok G H → SRel (cx X) H0 G H σ δ → EOk (cx X) G H (E σ) P2 → pe δ P P2 →
    (∀ p xs ds G' H', Ext G H G' H' → H p = none → H' p = some (.lst xs) → G' p = none → RAll (cx X) G' xs ds → P (.lst ds) → Q (.ref p) H') → te σ H Q
structure LA (X : Cx) (E : St → XK) (es : List Expr) (ta : TA) (pa : PAx) : Prop where
  py : PA X es ta
  le : ∀ {δ : Dl} {σ : St} {G : Gp} {H H0 : Hp} {Q : List V → Hp → Prop} {P : List D → Prop} {P2 : Exn → Prop}, Ok G H → SRel (cx X) H0 G H σ δ → EOk (cx X) G H (E σ) P2 → pa δ P P2 →
    (∀ vs ds G' H', Ext G H G' H' → RAll (cx X) G' vs ds → P ds → Q vs H') → ta σ H Q
structure LT (X : Cx) (E : St → XK) (e : Expr) (tt : TT) (pt : PTx) : Prop where
  py : PT X e tt
  le : ∀ {δ : Dl} {σ : St} {G : Gp} {H H0 : Hp} {Q : Bool → Hp → Prop} {P : Bool → Prop} {P2 : Exn → Prop}, Ok G H → SRel (cx X) H0 G H σ δ → EOk (cx X) G H (E σ) P2 → pt δ P P2 →
    (∀ b G' H', Ext G H G' H' → P b → Q b H') → tt σ H Q
structure EndsR (C : Ctx) (G0 : Gp) (H0 : Hp) (E : St → XK) (Dn : Ends) (P : PEnds) : Prop where
  nx : ∀ {σ : St} {δ : Dl} {G : Gp} {H : Hp}, Stt C G0 H0 σ δ G H → P.nx δ → Dn.nx σ H
  rt : ∀ {σ : St} {δ : Dl} {v : V} {d : D} {G : Gp} {H : Hp}, Stt C G0 H0 σ δ G H → R C G v d → P.rt δ d → Dn.rt v H
  bk : ∀ {σ : St} {δ : Dl} {G : Gp} {H : Hp}, Stt C G0 H0 σ δ G H → P.bk δ → Dn.bk σ H
  ct : ∀ {σ : St} {δ : Dl} {G : Gp} {H : Hp}, Stt C G0 H0 σ δ G H → P.ct δ → Dn.ct σ H
  ex : ∀ {σ : St} {δ : Dl} {G : Gp} {H : Hp}, Stt C G0 H0 σ δ G H → EOk C G H (E σ) (P.ex δ)
structure LS (X : Cx) (E : St → XK) (st : Stmt) (ts : TS) (ps : PSx) : Prop where
  py : PS X st ts
  le : ∀ {G0 : Gp} {H0 : Hp} {Dn : Ends} {P : PEnds} {δ : Dl} {σ : St} {G : Gp} {H : Hp}, EndsR (cx X) G0 H0 E Dn P → Stt (cx X) G0 H0 σ δ G H → ps P δ → ts Dn σ H
structure LSs (X : Cx) (E : St → XK) (st : List Stmt) (ts : TS) (ps : PSx) : Prop where
  py : PSs X st ts
  le : ∀ {G0 : Gp} {H0 : Hp} {Dn : Ends} {P : PEnds} {δ : Dl} {σ : St} {G : Gp} {H : Hp}, EndsR (cx X) G0 H0 E Dn P → Stt (cx X) G0 H0 σ δ G H → ps P δ → ts Dn σ H
def Out (js : List Nat) (σ σ' : St) : Prop := σ'.length = σ.length ∧ ∀ i, i ∉ js → σ'[i]? = σ[i]?
structure LG (X : Cx) (tg : Expr) (g : TG) (pg : D → Dl → (Dl → Prop) → Prop) (js : List Nat) : Prop where
  py : PG X tg g
  le : ∀ {δ : Dl} {σ : St} {G : Gp} {H H0 : Hp} {v : V} {d : D} {P : Dl → Prop} {Q : St → Hp → Prop}, Ok G H → SRel (cx X) H0 G H σ δ → R (cx X) G v d → pg d δ P →
    (∀ σ' δ', SRel (cx X) H0 G H σ' δ' → Out js σ σ' → P δ' → Q σ' H) → g v σ H Q
theorem Out.refl {js : List Nat} {σ : St} : Out js σ σ := ⟨rfl, fun _ _ => rfl⟩
theorem Out.set {i : Nat} {σ : St} {o : Option V} : Out [i] σ (σ.set i o) := ⟨List.length_set, fun j h => List.getElem?_set_ne (fun e => h (by rw [e]; exact List.mem_singleton_self _))⟩
theorem Out.trans {js ks : List Nat} {σ σ1 σ2 : St} (a : Out js σ σ1) (b : Out ks σ1 σ2) : Out (js ++ ks) σ σ2 :=
  ⟨b.1.trans a.1, fun i h => (b.2 i fun m => h (List.mem_append_right _ m)).trans (a.2 i fun m => h (List.mem_append_left _ m))⟩
theorem wipe_at {σ : St} {i : Nat} : ∀ {vs : List Nat}, i ∈ vs → (wipe σ vs)[i]? = if i < σ.length then some none else none
  | [], h => by cases h
  | v :: vs, h => by
    unfold wipe
    by_cases e : v = i
    · subst e
      by_cases hl : v < σ.length
      · rw [List.getElem?_set_self (by rw [wipe_length]; exact hl), if_pos hl]
      · rw [List.getElem?_eq_none (by rw [List.length_set, wipe_length]; omega), if_neg hl]
    · rw [List.getElem?_set_ne e]
      exact wipe_at (by rcases List.mem_cons.mp h with h | h; exact absurd h.symm e; exact h)
theorem Out.wipe {js vs : List Nat} {σ σ' : St} (o : Out js σ σ') (h : ∀ i ∈ js, i ∈ vs) : wipe σ' vs = wipe σ vs := by
  apply List.ext_getElem?
  intro i
  by_cases m : i ∈ vs
  · rw [wipe_at m, wipe_at m, o.1]
  · rw [wipe_out m, wipe_out m]
    exact o.2 i fun z => m (h i z)
end Pu
set_option Elab.async false
set_option linter.all false
set_option maxRecDepth 100000
set_option maxHeartbeats 2000000
set_option autoImplicit false
namespace Pu
open PySem PySem.Spec PyProof.Rows L2
section
variable {X : Cx}
theorem layN {pins : List (Addr × Obj)} {σ : L2.St} {H : Hp} {s : Shared} {xs : List V} {its : List Value} {Q : VK} {h : Heap} {tk : Nat} (I : Inv X pins σ H s) (k : ∀ b u, s.heap.get? b = some u → h.get? b = some u) (r : Vals xs its) (z : xs.length ≤ sizeLine) (le : s.heap.objs.size ≤ h.objs.size)
    (q : ∀ p o, H p = none → o.dict = none → Q (.ref p) (upd H p (.frz o (.tup xs)))) : EP X pins σ Q (.ref h.objs.size) { s with heap := h.push { cls := .type "tuple", data := .seq its.toArray }, toks := tk } := by
  have hn : H h.objs.size = none := I.hok.fresh le
  refine ⟨.ref h.objs.size, upd H h.objs.size (.frz { cls := .type "tuple", data := .seq its.toArray } (.tup xs)), ?_, rfl, q _ _ hn rfl⟩
  have at_ : (h.push { cls := .type "tuple", data := .seq its.toArray }).get? h.objs.size = some { cls := .type "tuple", data := .seq its.toArray } := Heap.get?_push_size _ rfl
  exact I.laid (t' := tk) (fun b u e => Heap.get?_push_of_some _ (k b u e)) le ⟨at_, z, its, r, _, at_, rfl, _, rfl⟩
def tTupN (t : TA) : TE := fun σ H Q => t σ H fun xs H1 => xs.length ≤ sizeLine ∧ ∀ p o, H1 p = none → o.dict = none → Q (.ref p) (upd H1 p (.frz o (.tup xs)))
theorem pe_tupN {es : List Expr} {x1 : Nat} {pos : Pos} {t : TA} (h : PA X es t) : PE X (.Tuple es x1 pos) (tTupN t) :=
  ⟨fun pins s σ H Q I hq => wpAny_Tuple_spliced (thn (h.run pos pins s σ H _ I hq) fun us s1 ⟨xs, H1, I1, r, z, q⟩ =>
    ⟨by rw [← r.length] <;> exact z, layN (tk := s1.toks) (h := s1.heap) I1 (fun _ _ e => e) r z (Nat.le_refl _) q⟩)⟩
def rTupN (K : PySem.W.Frag) : List V → Hp → VK → Prop := fun xs H Q => ∃ a ys, xs = [.ref a] ∧ ((SqL K H a ys ∧ ∀ p o, H p = none → o.dict = none → Q (.ref p) (upd H p (.frz o (.tup ys)))) ∨ (SqT K H a ys ∧ Q (.ref a) H))
theorem call_tupN : CallR X (.type "tuple") (rTupN X.K) := fun pins s σ H xs us Q I r ⟨a, ys, e, h⟩ => by
  subst e
  obtain ⟨u, rfl, rx⟩ := vals1 r
  cases rx
  rcases h with ⟨hs, q⟩ | ⟨hs, q⟩
  · obtain ⟨its, rv, pl, z⟩ := I.list hs
    have el := rv.length
    exact call_tuple_list pl.isList (fun h1 kp => layN (s := { s with heap := h1, toks := s.toks }) (tk := s.toks) (h := h1) (I.kept (h' := h1) (t' := s.toks) kp) (fun _ _ e => e) rv z (Nat.le_refl _) q) (by simp only [List.size_toArray]; omega)
  · obtain ⟨its, rv, pl, z⟩ := I.tuple hs
    exact call_tuple_same pl ⟨.ref a, H, I, rfl, q⟩
def rCatN (K : PySem.W.Frag) : R2 := fun x y H Q => ∃ a b xs ys, x = .ref a ∧ y = .ref b ∧ SqT K H a xs ∧ SqT K H b ys ∧ xs.length + ys.length ≤ sizeLine ∧
  (xs = [] → Q (.ref b) H) ∧ (xs ≠ [] → ys = [] → Q (.ref a) H) ∧ (xs ≠ [] → ys ≠ [] → ∀ p o, H p = none → o.dict = none → Q (.ref p) (upd H p (.frz o (.tup (xs ++ ys)))))
theorem op_catN : OpR X (binaryOp .Add) (rCatN X.K) := fun pins s σ H x y v u Q I rx ry ⟨a, b, xs, ys, ex, ey, ha, hb, hz, q0, q1, q2⟩ => by
  subst ex ey
  cases rx
  cases ry
  obtain ⟨its, r1, p1, z1⟩ := I.tuple ha
  obtain ⟨jts, r2, p2, z2⟩ := I.tuple hb
  by_cases hx : xs = []
  · cases hx
    cases r1
    exact cat_tup0 p1 p2 ⟨.ref b, H, I, rfl, q0 rfl⟩
  · refine HT.cat_tup p1 p2 (fun w => hx (r1.nil_iff.mp w)) (fun w => ⟨.ref a, H, I, rfl, q1 hx (r2.nil_iff.mp w)⟩) (fun w => ?_) (by rw [← r1.length, ← r2.length] <;> exact hz)
    exact layN (tk := s.toks) (h := s.heap) I (fun _ _ e => e) (r1.append r2) (by rw [List.length_append] <;> exact hz) (Nat.le_refl _) (q2 hx fun w => by cases w; cases r2; exact absurd rfl ‹_›)
def rSlN (K : PySem.W.Frag) : V → Option Int → Option Int → Hp → VK → Prop := fun x lo hi H Q => ∃ a xs, x = .ref a ∧ SqT K H a xs ∧
  (HT.sIx xs.length 0 lo = 0 ∧ HT.sIx xs.length xs.length hi = xs.length → Q (.ref a) H) ∧ (¬ (HT.sIx xs.length 0 lo = 0 ∧ HT.sIx xs.length xs.length hi = xs.length) → ∀ p o, H p = none → o.dict = none → Q (.ref p) (upd H p (.frz o (.tup (cutV xs lo hi)))))
theorem sl_tupN : SlR X (rSlN X.K) := fun pins s σ H x v vl vu lo hi sl Q I rx hs pl pu ⟨a, xs, ex, hx, q1, q2⟩ => by
  subst ex
  cases rx
  obtain ⟨its, r, ht, hz⟩ := I.tuple hx
  have hlen : its.toArray.size = xs.length := by rw [List.size_toArray] <;> exact r.length.symm
  refine ⟨"tuple", _, PyProof.Rows.slot_tuple_getitem.lookup, ht.typeIs, ?_⟩
  by_cases hw : HT.sIx xs.length 0 lo = 0 ∧ HT.sIx xs.length xs.length hi = xs.length
  · exact getItem_tuple_whole ht hs pl pu (by rw [hlen] <;> exact hw) ⟨.ref a, H, I, rfl, q1 hw⟩
  · refine HT.getItem_tuple_cut ht hs pl pu (by rw [hlen] <;> exact hw) ?_ (by rw [hlen] <;> exact hz)
    rw [hlen]
    exact layN (tk := s.toks) (h := s.heap) I (fun _ _ e => e) ((r.drop (HT.sIx xs.length 0 lo)).take (HT.sIx xs.length xs.length hi - HT.sIx xs.length 0 lo)) (Nat.le_trans (cutV_length xs lo hi) hz) (Nat.le_refl _) (q2 hw)
def Nd (K : PySem.W.Frag) (H : Hp) (a : Addr) (T : String) (xs : List V) : Prop :=
  (T = "list" ∧ SqL K H a xs) ∨ (T = "tuple" ∧ ((∃ o, H a = some (.frz o (.tup xs)) ∧ o.dict = none) ∨ ∃ (o : Obj) (its : Array Value) (n : Nat), K.lookup a = some o ∧ o.cls = .type "tuple" ∧ o.dict = none ∧ o.data = .seq its n ∧ its.size ≤ sizeLine ∧ Vals xs its.toList))
theorem Nd.is {pins : List (Addr × Obj)} {σ : L2.St} {H : Hp} {s : Shared} {T : String} {a : Addr} {xs : List V} (I : Inv X pins σ H s) (h : Nd X.K H a T xs) :
    ∃ (its : Array Value) (n : Nat) (sl : Array (Option Value)), s.heap.get? a = some ⟨.type T, none, .seq its n, sl⟩ ∧ Vals xs its.toList := by
  rcases h with ⟨rfl, h⟩ | ⟨rfl, h | h⟩
  · obtain ⟨its, r, ⟨⟨c, d, dt, sl⟩, n, e, hc, hd, hs⟩, _⟩ := I.list h
    simp only at hc hd hs
    subst hc hd hs
    exact ⟨its.toArray, n, sl, e, by simpa using r⟩
  · obtain ⟨⟨c, d, dt, sl⟩, h, hd⟩ := h
    obtain ⟨e, z, its, r, o', e', hc, n, hs⟩ := (show ObjOk X.prog X.w H s.heap a (.frz _ (.tup xs)) from I.hok a _ h)
    have eo := Option.some.inj (e.symm.trans e')
    subst eo
    simp only at hc hd hs
    subst hc hd hs
    exact ⟨its.toArray, n, sl, e, by simpa using r⟩
  · obtain ⟨⟨c, d, dt, sl⟩, its, n, hk, hc, hd, hs, z, r⟩ := h
    simp only at hc hd hs
    subst hc hd hs
    exact ⟨its, n, sl, I.kIn a _ hk, r⟩
def tCnt (K : PySem.W.Frag) (to te : TE) : TE := fun σ H Q => to σ H fun x H1 => ∃ (a : Addr) (T : String) (ns : List Int), x = .ref a ∧ Nd K H1 a T (ns.map V.int) ∧ te σ H1 fun y H2 => ∃ k : Int, [y] = [V.int k] ∧ Nd K H2 a T (ns.map V.int) ∧ Q (.int (ns.count k : Nat)) H2
theorem pe_cnt {o e : Expr} {to te : TE} {apos cpos : Pos} (ho : PE X o to) (he : PE X e te) (hbase : attributeBase o "count" X.env (eval o X.env) = eval o X.env := by rfl)
    (hfew : ((backTo cpos (starEach [e] X.env)).all (fun x => !x.1) && (backToKw cpos (keywordEach [] X.env)).all (fun x => x.1.isSome) && decide ([e].length + ([] : List Keyword).length + (if ([] : List Keyword).isEmpty then 0 else 1) < 30)) = true := by rfl)
    (hline : (apos.endLine == cpos.line) = true := by rfl) (hs : starEach [e] X.env = (false, eval e X.env) :: starEach [] X.env := by rfl) :
    PE X (.Call (.Attribute o "count" apos) [e] [] cpos) (tCnt X.K to te) := by
  refine ⟨fun pins s σ H Q I h => wpAny_Call_method_late hbase hfew hline rfl (thn (ho.run pins s σ H _ I h) fun v s1 ⟨x, H1, I1, r1, a, T, ns, ex, nd, q⟩ => ?_)⟩
  subst ex
  cases r1
  have hA := (pa_cons he pa_nil hs).run cpos pins s1 σ H1 (fun ys H2 => ∃ k : Int, ys = [V.int k] ∧ Nd X.K H2 a T (ns.map V.int) ∧ Q (.int (ns.count k : Nat)) H2) I1 q
  obtain ⟨its, n, sl, at1, rv1⟩ := nd.is I1
  have run : ∀ (id : String), (∀ us s2 ys H2, Inv X pins σ H2 s2 → Vals ys us → (∃ k : Int, ys = [V.int k] ∧ Nd X.K H2 a T (ns.map V.int) ∧ Q (.int (ns.count k : Nat)) H2) → wpAny (model X.prog X.w) X.A (call (.builtin id) (.ref a :: us)) (EP X pins σ Q) X.xe s2) →
      wpAny (model X.prog X.w) X.A (callWith cpos (.builtin id) [.ref a] (backTo cpos (starEach [e] X.env)) []) (EP X pins σ Q) X.xe s1 := fun id hm => by
    rw [hs] at hA ⊢
    exact Calls.callWith_builtin rfl (Calls.evalArgs_plain (thn hA fun us s2 ⟨vs, H2, I2, r2, q2⟩ => hm us s2 vs H2 I2 r2 q2))
  have one : ∀ {us : List Value} {s2 : Shared} {ys : List V} {H2 : Hp}, Inv X pins σ H2 s2 → Vals ys us → (∃ k : Int, ys = [V.int k] ∧ Nd X.K H2 a T (ns.map V.int) ∧ Q (.int (ns.count k : Nat)) H2) →
      ∃ (k : Int) (t : Tok) (its : Array Value) (n : Nat) (sl : Array (Option Value)), us = [.int k t] ∧ s2.heap.get? a = some ⟨.type T, none, .seq its n, sl⟩ ∧ Vals (ns.map V.int) its.toList ∧ Q (.int (ns.count k : Nat)) H2 := fun I2 r2 ⟨k, ek, n2, q2⟩ => by
    subst ek
    obtain ⟨u, rfl, t, rfl⟩ := r2.one
    obtain ⟨its, n, sl, e2, rv⟩ := n2.is I2
    exact ⟨k, t, its, n, sl, rfl, e2, rv, q2⟩
  rcases nd with ⟨rfl, _⟩ | ⟨rfl, _⟩
  · refine ⟨"list", "list.count", PySem.F.plainAttrs_list, PySem.F.slot_list_count, PySem.F.type_list_count, ⟨_, at1, rfl⟩, fun b eb => by cases eb; exact ⟨_, at1, rfl⟩, run _ fun us s2 ys H2 I2 r2 w => ?_⟩
    obtain ⟨k, t, its, n, sl, rfl, at2, rv, q2⟩ := one I2 r2 w
    have hi := ints_of_vals rv
    refine call_meets PySem.F.slot_list_count ⟨_, at2, rfl⟩ PySem.F.entry_list_count (PySem.F.args_list_count_2 _ _) (SeqAt.list_countAt a its n none sl (.int k t) (eqk k)) ⟨at2, fun y hy => (eqk_gives hi y (by simpa using hy)).at _ _, ?_⟩
    exact ⟨.int (ns.count k : Nat), H2, I2.tok _, ⟨s2.toks, by rw [eqk_count hi]⟩, q2⟩
  · refine ⟨"tuple", "tuple.count", PySem.F.plainAttrs_tuple, PySem.F.slot_tuple_count, PySem.F.type_tuple_count, ⟨_, at1, rfl⟩, fun b eb => by cases eb; exact ⟨_, at1, rfl⟩, run _ fun us s2 ys H2 I2 r2 w => ?_⟩
    obtain ⟨k, t, its, n, sl, rfl, at2, rv, q2⟩ := one I2 r2 w
    have hi := ints_of_vals rv
    refine call_meets PySem.F.slot_tuple_count ⟨_, at2, rfl⟩ PySem.F.entry_tuple_count (PySem.F.args_tuple_count_2 _ _) (SeqAt.tuple_countAt a its n none sl (.int k t) (eqk k)) ⟨at2, fun y hy => (eqk_gives hi y (by simpa using hy)).at _ _, ?_⟩
    exact ⟨.int (ns.count k : Nat), H2, I2.tok _, ⟨s2.toks, by rw [eqk_count hi]⟩, q2⟩
end
end Pu
set_option Elab.async false
set_option linter.all false
set_option maxRecDepth 100000
set_option maxHeartbeats 2000000
set_option autoImplicit false
namespace Pu
open PySem L2

def pVar (i : Nat) : PX := fun δ P _ => match δ[i]? with | some (some (.d d)) => P d | _ => False
def pVarV (i : Nat) : PX := fun δ P _ => match δ[i]? with | some (some (.d d)) => P d | some (some (.own _ ds)) => P (.lst ds) | _ => False
def pC (d : D) : PX := fun _ P _ => P d
abbrev POp := D → D → (D → Prop) → Prop
def pOp (f : POp) (pa pb : PX) : PX := fun δ P P2 => pa δ (fun x => pb δ (fun y => f x y P) P2) P2
abbrev PUn := D → (D → Prop) → Prop
def pUn (f : PUn) (pa : PX) : PX := fun δ P P2 => pa δ (fun x => f x P) P2

section
variable {X : Cx} {E : St → XK}
theorem LX.v {e : Expr} {te : TE} {pe : PX} (h : LX X E e te pe) : LV X E e te pe :=
  ⟨h.py, fun k s x p q => h.le k s x p fun v d G' H' y r pd => q v d G' H' y (.inl r) pd⟩
theorem LO.x {e : Expr} {te : TE} {pe : PX} (h : LO X E e te pe) : LX X E e te pe :=
  ⟨h.py, fun k s x p q => h.le k s x p fun a xs ds G' H' y hn hp gp r pd =>
    q (.ref a) (.lst ds) _ H' (y.share hn hp gp) (.lst (by show updG G' a _ a = _; exact updG_same) (r.mono (updG_keep gp))) pd⟩
theorem LO.v {e : Expr} {te : TE} {pe : PX} (h : LO X E e te pe) : LV X E e te pe := h.x.v

theorem lx_var (i : Nat) {x : Str} {pos : Pos} (hN : X.N[i]? = some x := by rfl) (hv : Vis X.env.scope x := by first | exact Or.inl rfl | exact Or.inr (Or.inl rfl) | exact Or.inr (Or.inr rfl))
    (hd : (x == ("__debug__" : Str)) = false := by decide) (hcd : (x == ("__classdict__" : Str)) = false := by decide) : LX X E (.Name x pos) (tVar i) (pVar i) := by
  refine ⟨pe_var hN hv hd hcd, fun {δ σ G H H0 Q P P2} k s x p q => ?_⟩
  unfold pVar at p
  split at p
  · rename_i d hd'
    obtain ⟨v, e, r⟩ := s.at_ i _ hd'
    cases r with
    | d r => exact ⟨v, e, q v d G H (.refl k) r p⟩
  · exact p.elim
theorem lv_var (i : Nat) {x : Str} {pos : Pos} (hN : X.N[i]? = some x := by rfl) (hv : Vis X.env.scope x := by first | exact Or.inl rfl | exact Or.inr (Or.inl rfl) | exact Or.inr (Or.inr rfl))
    (hd : (x == ("__debug__" : Str)) = false := by decide) (hcd : (x == ("__classdict__" : Str)) = false := by decide) : LV X E (.Name x pos) (tVar i) (pVarV i) := by
  refine ⟨pe_var hN hv hd hcd, fun {δ σ G H H0 Q P P2} k s x p q => ?_⟩
  unfold pVarV at p
  split at p
  · rename_i d hd'
    obtain ⟨v, e, r⟩ := s.rvD hd'
    exact ⟨v, e, q v _ G H (.refl k) (.inl r) p⟩
  · rename_i oa d hd'
    obtain ⟨v, e, r⟩ := s.rvO hd'
    exact ⟨v, e, q v _ G H (.refl k) r p⟩
  · exact p.elim
theorem lx_int {i : Int} {j : Nat} {pos : Pos} : LX X E (.Constant (.int i) j pos) (tC (.int i)) (pC (.int i)) := ⟨pe_int, fun k s x p q => q _ _ _ _ (.refl k) (.int i) p⟩
theorem lx_bl {b : Bool} {j : Nat} {pos : Pos} : LX X E (.Constant (.bool b) j pos) (tC (.bl b)) (pC (.bl b)) := ⟨pe_bl, fun k s x p q => q _ _ _ _ (.refl k) (.bl b) p⟩
theorem lx_non {j : Nat} {pos : Pos} : LX X E (.Constant .none j pos) (tC .non) (pC .non) := ⟨pe_non, fun k s x p q => q _ _ _ _ (.refl k) .non p⟩
theorem lx_str {x : Str} {j : Nat} {pos : Pos} : LX X E (.Constant (.str x) j pos) (tC (.str x)) (pC (.str x)) := ⟨pe_str, fun k s y p q => q _ _ _ _ (.refl k) (.str x) p⟩
theorem lx_glob {x : Str} {v : V} {u : Value} {d : D} {pos : Pos} (hg : Gl X x) (hm : X.mg x = some u) (r : RelV v u) (hR : ∀ G, R (cx X) G v d) (hd : (x == ("__debug__" : Str)) = false := by decide) :
    LX X E (.Name x pos) (tC v) (pC d) := ⟨pe_glob hg hm r hd, fun k s y p q => q _ _ _ _ (.refl k) (hR _) p⟩

structure OL (X : Cx) (r : R2) (f : POp) : Prop where
  le : ∀ {G : Gp} {H : Hp} {x y : V} {dx dy : D} {Q : VK} {P : D → Prop}, Ok G H → RV (cx X) G H x dx → RV (cx X) G H y dy → f dx dy P →
    (∀ v d G' H', Ext G H G' H' → R (cx X) G' v d → P d → Q v H') → r x y H Q
structure UL (X : Cx) (r : V → Hp → VK → Prop) (f : PUn) : Prop where
  le : ∀ {G : Gp} {H : Hp} {x : V} {dx : D} {Q : VK} {P : D → Prop}, Ok G H → RV (cx X) G H x dx → f dx P →
    (∀ v d G' H', Ext G H G' H' → R (cx X) G' v d → P d → Q v H') → r x H Q
theorem op_le {r : R2} {f : POp} {a b : Expr} {ta tb : TE} {pa pb : PX} (ol : OL X r f) (ha : LV X E a ta pa) (hb : LV X E b tb pb) {δ : Dl} {σ : St} {G : Gp} {H H0 : Hp} {Q : VK} {P : D → Prop} {P2 : Exn → Prop}
    (k : Ok G H) (s : SRel (cx X) H0 G H σ δ) (x : EOk (cx X) G H (E σ) P2) (p : pOp f pa pb δ P P2) (q : ∀ v d G' H', Ext G H G' H' → R (cx X) G' v d → P d → Q v H') : tOp r ta tb σ H Q := by
  refine ha.le k s x p fun v d G1 H1 y1 r1 p1 => ?_
  refine hb.le y1.ok (s.ext y1) (x.ext y1) p1 fun u d2 G2 H2 y2 r2 p2 => ?_
  exact ol.le y2.ok (r1.ext y2) r2 p2 fun w d3 G3 H3 y3 r3 p3 => q w d3 G3 H3 ((y1.trans y2).trans y3) r3 p3
theorem lx_bin {op : Operator} {r : R2} {f : POp} {a b : Expr} {ta tb : TE} {pa pb : PX} {pos : Pos} (ho : OpR X (binaryOp op) r) (ol : OL X r f) (ha : LV X E a ta pa) (hb : LV X E b tb pb) : LX X E (.BinOp a op b pos) (tOp r ta tb) (pOp f pa pb) :=
  ⟨pe_op ho ha.py hb.py, op_le ol ha hb⟩
theorem lx_cmp {op : CmpOp} {r : R2} {f : POp} {a b : Expr} {ta tb : TE} {pa pb : PX} {pos : Pos} (ho : OpR X (compareOp op) r) (ol : OL X r f) (ha : LV X E a ta pa) (hb : LV X E b tb pb) (hm : behindInMarks op b = false) : LX X E (.Compare a [op] [b] pos) (tOp r ta tb) (pOp f pa pb) :=
  ⟨pe_cmpR ho ha.py hb.py hm, op_le ol ha hb⟩
theorem lx_un {op : UnaryOp} {r : V → Hp → VK → Prop} {f : PUn} {a : Expr} {ta : TE} {pa : PX} {pos : Pos} (ho : UnR X (unaryOp op) r) (ol : UL X r f) (ha : LV X E a ta pa) : LX X E (.UnaryOp op a pos) (tUn r ta) (pUn f pa) :=
  ⟨pe_un ho ha.py, fun k s x p q => ha.le k s x p fun v d G1 H1 y1 r1 p1 => ol.le y1.ok r1 p1 fun w d3 G3 H3 y3 r3 p3 => q w d3 G3 H3 (y1.trans y3) r3 p3⟩
theorem OL.or {r r' : R2} {f f' : POp} (h : OL X r f) (h' : OL X r' f') : OL X (fun x y H Q => r x y H Q ∨ r' x y H Q) (fun x y P => f x y P ∨ f' x y P) :=
  ⟨fun k rx ry p q => by
    rcases p with p | p
    · exact .inl (h.le k rx ry p q)
    · exact .inr (h'.le k rx ry p q)⟩
theorem RV.int {C : Ctx} {G : Gp} {H : Hp} {v : V} {i : Int} (r : RV C G H v (.int i)) : v = .int i := by
  cases r.scal (fun _ z => by cases z) with
  | int i => rfl
theorem RV.bl {C : Ctx} {G : Gp} {H : Hp} {v : V} {i : Bool} (r : RV C G H v (.bl i)) : v = .bl i := by
  cases r.scal (fun _ z => by cases z) with
  | bl i => rfl
theorem RV.str {C : Ctx} {G : Gp} {H : Hp} {v : V} {i : Str} (r : RV C G H v (.str i)) : v = .str i := by
  cases r.scal (fun _ z => by cases z) with
  | str i => rfl
def fI (C : Int → Int → Prop) (g : Int → Int → D) : POp := fun x y P => match x, y with | .int i, .int j => C i j ∧ P (g i j) | _, _ => False
theorem ol_I {C : Int → Int → Prop} {g : Int → Int → V} {gd : Int → Int → D} (hR : ∀ Cx G i j, R Cx G (g i j) (gd i j)) : OL X (rI C g) (fI C gd) := by
  refine ⟨fun {G H x y dx dy Q P} k rx ry p q => ?_⟩
  unfold fI at p
  split at p
  · exact ⟨_, _, rx.int, ry.int, p.1, q _ _ _ _ (.refl k) (hR _ _ _ _) p.2⟩
  · exact p.elim
def fI0 (g : Int → Int → D) : POp := fun x y P => match x, y with | .int i, .int j => P (g i j) | _, _ => False
theorem ol_I0 {g : Int → Int → V} {gd : Int → Int → D} (hR : ∀ Cx G i j, R Cx G (g i j) (gd i j)) : OL X (rI0 g) (fI0 gd) := by
  refine ⟨fun {G H x y dx dy Q P} k rx ry p q => ?_⟩
  unfold fI0 at p
  split at p
  · exact ⟨_, _, rx.int, ry.int, q _ _ _ _ (.refl k) (hR _ _ _ _) p⟩
  · exact p.elim
abbrev fLt : POp := fI0 fun i j => .bl (decide (i < j))
abbrev fLe : POp := fI0 fun i j => .bl (decide (i ≤ j))
abbrev fGt : POp := fI0 fun i j => .bl (decide (j < i))
abbrev fGe : POp := fI0 fun i j => .bl (decide (j ≤ i))
abbrev fSub : POp := fI0 fun i j => .int (i - j)
abbrev fMod : POp := fI (fun _ j => 0 < j) fun i j => .int (i % j)
abbrev fDiv : POp := fI CDivW fun i j => .int (i / j)
abbrev fPow : POp := fI CPow fun i j => .int (i ^ j.toNat)
theorem ol_lt : OL X (rI0 fun i j => .bl (decide (i < j))) fLt := ol_I0 fun _ _ _ _ => .bl _
theorem ol_le : OL X (rI0 fun i j => .bl (decide (i ≤ j))) fLe := ol_I0 fun _ _ _ _ => .bl _
theorem ol_gt : OL X (rI0 fun i j => .bl (decide (j < i))) fGt := ol_I0 fun _ _ _ _ => .bl _
theorem ol_ge : OL X (rI0 fun i j => .bl (decide (j ≤ i))) fGe := ol_I0 fun _ _ _ _ => .bl _
theorem ol_sub : OL X (rI0 fun i j => .int (i - j)) fSub := ol_I0 fun _ _ _ _ => .int _
theorem ol_mod : OL X (rI (fun _ j => 0 < j) fun i j => .int (i % j)) fMod := ol_I fun _ _ _ _ => .int _
theorem ol_div : OL X (rI CDivW fun i j => .int (i / j)) fDiv := ol_I fun _ _ _ _ => .int _
theorem ol_pow : OL X (rI CPow fun i j => .int (i ^ j.toNat)) fPow := ol_I fun _ _ _ _ => .int _

abbrev szl : Nat := 16777216
def fAdd : POp := fun x y P => match x, y with
  | .int i, .int j => P (.int (i + j))
  | .lst a, .lst b => a.length + b.length ≤ szl ∧ P (.lst (a ++ b))
  | .vw a, .lst b => a.length + b.length ≤ szl ∧ P (.lst (a ++ b))
  | .lst a, .vw b => a.length + b.length ≤ szl ∧ P (.lst (a ++ b))
  | .vw a, .vw b => a.length + b.length ≤ szl ∧ P (.lst (a ++ b))
  | .tup a, .tup b => a.length + b.length ≤ szl ∧ P (.tup (a ++ b))
  | .str a, .str b => a.length + b.length ≤ szl ∧ P (.str (a ++ b))
  | _, _ => False
def rAddStr : R2 := fun x y H Q => ∃ i j, x = .str i ∧ y = .str j ∧ i.length + j.length ≤ sizeLine ∧ Q (.str (i ++ j)) H
def rAddAll (K : PySem.W.Frag) : R2 := fun x y H Q => (rI0 fun i j => .int (i + j)) x y H Q ∨ rCat x y H Q ∨ rCatN K x y H Q ∨ rAddStr x y H Q
theorem op_addAll : OpR X (binaryOp .Add) (rAddAll X.K) := op_add.or (op_cat.or (op_catN.or op_add_str))
theorem RV.tupR {C : Ctx} {G : Gp} {H : Hp} {v : V} {ds : List D} (r : RV C G H v (.tup ds)) : R C G v (.tup ds) := r.scal fun _ z => by cases z
theorem ol_add : OL X (rAddAll X.K) fAdd := by
  refine ⟨fun {G H x y dx dy Q P} k rx ry p q => ?_⟩
  unfold fAdd at p
  split at p
  · exact .inl ⟨_, _, rx.int, ry.int, q _ _ _ _ (.refl k) (.int _) p⟩
  · obtain ⟨a, xs, e1, h1, r1⟩ := rx.lst k
    obtain ⟨b, ys, e2, h2, r2⟩ := ry.lst k
    refine .inr (.inl ⟨a, b, xs, ys, e1, e2, h1, h2, by rw [r1.length, r2.length, sizeLine_eq]; exact p.1, fun l hl => ?_⟩)
    exact q _ (.lst _) _ _ (Ext.newG k hl) (.lst (by show updG G l _ l = _; exact updG_same) ((r1.append r2).mono (updG_keep (k.none_of hl)))) p.2
  · obtain ⟨a, xs, e1, h1, r1⟩ := rx.vw k
    obtain ⟨b, ys, e2, h2, r2⟩ := ry.lst k
    refine .inr (.inl ⟨a, b, xs, ys, e1, e2, h1, h2, by rw [r1.length, r2.length, sizeLine_eq]; exact p.1, fun l hl => ?_⟩)
    exact q _ (.lst _) _ _ (Ext.newG k hl) (.lst (by show updG G l _ l = _; exact updG_same) ((r1.append r2).mono (updG_keep (k.none_of hl)))) p.2
  · obtain ⟨a, xs, e1, h1, r1⟩ := rx.lst k
    obtain ⟨b, ys, e2, h2, r2⟩ := ry.vw k
    refine .inr (.inl ⟨a, b, xs, ys, e1, e2, h1, h2, by rw [r1.length, r2.length, sizeLine_eq]; exact p.1, fun l hl => ?_⟩)
    exact q _ (.lst _) _ _ (Ext.newG k hl) (.lst (by show updG G l _ l = _; exact updG_same) ((r1.append r2).mono (updG_keep (k.none_of hl)))) p.2
  · obtain ⟨a, xs, e1, h1, r1⟩ := rx.vw k
    obtain ⟨b, ys, e2, h2, r2⟩ := ry.vw k
    refine .inr (.inl ⟨a, b, xs, ys, e1, e2, h1, h2, by rw [r1.length, r2.length, sizeLine_eq]; exact p.1, fun l hl => ?_⟩)
    exact q _ (.lst _) _ _ (Ext.newG k hl) (.lst (by show updG G l _ l = _; exact updG_same) ((r1.append r2).mono (updG_keep (k.none_of hl)))) p.2
  · have rx' := rx.tupR
    have ry' := ry.tupR
    obtain ⟨a, xs, e1, h1, r1⟩ := rx.tup k
    obtain ⟨b, ys, e2, h2, r2⟩ := ry.tup k
    have l1 := r1.length
    have l2 := r2.length
    refine .inr (.inr (.inl ⟨a, b, xs, ys, e1, e2, h1, h2, by rw [l1, l2, sizeLine_eq]; exact p.1, fun z => ?_, fun _ z => ?_, fun _ _ l o hl ho => ?_⟩))
    · subst z
      have e : _ = [] := List.eq_nil_of_length_eq_zero l1.symm
      have p2 := p.2
      rw [e, List.nil_append] at p2
      rw [← e2]
      exact q _ _ _ _ (.refl k) ry' p2
    · subst z
      have e : _ = [] := List.eq_nil_of_length_eq_zero l2.symm
      have p2 := p.2
      rw [e, List.append_nil] at p2
      rw [← e1]
      exact q _ _ _ _ (.refl k) rx' p2
    · obtain ⟨x1, x2⟩ := Ext.newT (C := cx X) (o := o) k hl ho (r1.append r2)
      exact q _ (.tup _) _ _ x1 x2 p.2
  · exact .inr (.inr (.inr ⟨_, _, rx.str, ry.str, by rw [sizeLine_eq]; exact p.1, q _ _ _ _ (.refl k) (.str _) p.2⟩))
  · exact p.elim
def mulOk (i j : Int) : Prop := CMul i j ∨ CMulW i j
def fMul : POp := fun x y P => match x, y with
  | .int i, .int j => mulOk i j ∧ P (.int (i * j))
  | .lst a, .int j => -(2 ^ 63) ≤ j ∧ j < 2 ^ 63 ∧ a.length * j.toNat ≤ szl ∧ P (.lst (List.replicate j.toNat a).flatten)
  | .vw a, .int j => -(2 ^ 63) ≤ j ∧ j < 2 ^ 63 ∧ a.length * j.toNat ≤ szl ∧ P (.lst (List.replicate j.toNat a).flatten)
  | _, _ => False
def rMulAll : R2 := fun x y H Q => (rI CMul fun i j => .int (i * j)) x y H Q ∨ (rI CMulW fun i j => .int (i * j)) x y H Q ∨ rRep x y H Q
theorem op_mulAll : OpR X (binaryOp .Mult) rMulAll := op_mul.or (op_mulW.or op_rep)
theorem RAll.rep {C : Ctx} {G : Gp} {xs : List V} {ds : List D} (r : RAll C G xs ds) : ∀ n : Nat, RAll C G (List.replicate n xs).flatten (List.replicate n ds).flatten
  | 0 => .nil
  | n + 1 => by
    rw [List.replicate_succ, List.replicate_succ, List.flatten_cons, List.flatten_cons]
    exact r.append (RAll.rep r n)
theorem ol_mul : OL X rMulAll fMul := by
  refine ⟨fun {G H x y dx dy Q P} k rx ry p q => ?_⟩
  unfold fMul at p
  split at p
  · rcases p.1 with c | c
    · exact .inl ⟨_, _, rx.int, ry.int, c, q _ _ _ _ (.refl k) (.int _) p.2⟩
    · exact .inr (.inl ⟨_, _, rx.int, ry.int, c, q _ _ _ _ (.refl k) (.int _) p.2⟩)
  · obtain ⟨a, xs, e1, h1, r1⟩ := rx.lst k
    refine .inr (.inr ⟨a, _, xs, e1, ry.int, h1, p.1, p.2.1, by rw [r1.length, sizeLine_eq]; exact p.2.2.1, fun l hl => ?_⟩)
    exact q _ (.lst _) _ _ (Ext.newG k hl) (.lst (by show updG G l _ l = _; exact updG_same) ((r1.rep _).mono (updG_keep (k.none_of hl)))) p.2.2.2
  · obtain ⟨a, xs, e1, h1, r1⟩ := rx.vw k
    refine .inr (.inr ⟨a, _, xs, e1, ry.int, h1, p.1, p.2.1, by rw [r1.length, sizeLine_eq]; exact p.2.2.1, fun l hl => ?_⟩)
    exact q _ (.lst _) _ _ (Ext.newG k hl) (.lst (by show updG G l _ l = _; exact updG_same) ((r1.rep _).mono (updG_keep (k.none_of hl)))) p.2.2.2
  · exact p.elim
def fNeg : PUn := fun x P => match x with | .int i => P (.int (-i)) | _ => False
theorem ul_neg : UL X (rU fun i => .int (-i)) fNeg := by
  refine ⟨fun {G H x dx Q P} k rx p q => ?_⟩
  unfold fNeg at p
  split at p
  · exact ⟨_, rx.int, q _ _ _ _ (.refl k) (.int _) p⟩
  · exact p.elim

mutual
def toPy : D → Option PyData
  | .non => some .none
  | .bl b => some (.bool b)
  | .int i => some (.int i)
  | .str x => some (.str x)
  | .lst ds => (toPyAll ds).map .list
  | .vw ds => (toPyAll ds).map .list
  | .tup ds => (toPyAll ds).map .tuple
  | .obj _ _ => none
  | .pool => none
  | .cls _ => none
  | .script _ => none
  | .pin _ _ => none
def toPyAll : List D → Option (List PyData)
  | [] => some []
  | d :: ds => match toPy d, toPyAll ds with
    | some a, some b => some (a :: b)
    | _, _ => none
end
section
variable {C : Ctx} {G : Gp} {H : Hp}
mutual
theorem dp_R (k : Ok G H) : ∀ {v : V} {d : D} {p : PyData}, R C G v d → toPy d = some p → Dp C.K H v p
  | _, _, _, .non, e => by cases e; exact .non
  | _, _, _, .bl b, e => by cases e; exact .bl b
  | _, _, _, .int i, e => by cases e; exact .int i
  | _, _, _, .str x, e => by cases e; exact .str x
  | _, .lst ds, p, .lst h r, e => by
    unfold toPy at e
    cases e2 : toPyAll ds with
    | none => rw [e2] at e; cases e
    | some ps => rw [e2] at e; cases e; exact .lst (SqL.of (k.fz h)) (dp_RAll k r e2)
  | _, .vw ds, p, .vw h r, e => by
    unfold toPy at e
    cases e2 : toPyAll ds with
    | none => rw [e2] at e; cases e
    | some ps => rw [e2] at e; cases e; exact .lst (SqL.of (k.vw h)) (dp_RAll k r e2)
  | _, .tup ds, p, .tup h r, e => by
    unfold toPy at e
    cases e2 : toPyAll ds with
    | none => rw [e2] at e; cases e
    | some ps => rw [e2] at e; cases e; exact .tup (h.seq k) (dp_RAll k r e2)
  | _, _, _, .obj _ _ _ _, e => by unfold toPy at e; cases e
  | _, _, _, .pool _, e => by unfold toPy at e; cases e
  | _, _, _, .cls _, e => by unfold toPy at e; cases e
  | _, _, _, .script _, e => by unfold toPy at e; cases e
  | _, _, _, .pin _, e => by unfold toPy at e; cases e
theorem dp_RAll (k : Ok G H) : ∀ {vs : List V} {ds : List D} {ps : List PyData}, RAll C G vs ds → toPyAll ds = some ps → DpAll C.K H vs ps
  | _, _, _, .nil, e => by unfold toPyAll at e; cases e; exact .nil
  | _, d :: ds, _, .cons r t, e => by
    unfold toPyAll at e
    cases e1 : toPy d with
    | none => rw [e1] at e; cases e
    | some a =>
      cases e2 : toPyAll ds with
      | none => rw [e1, e2] at e; cases e
      | some b => rw [e1, e2] at e; cases e; exact .cons (dp_R k r e1) (dp_RAll k t e2)
end
theorem dp_RV (k : Ok G H) {v : V} {d : D} {p : PyData} (r : RV C G H v d) (e : toPy d = some p) : Dp C.K H v p := by
  rcases r with r | ⟨a, xs, ds, rfl, rfl, h, g, r⟩
  · exact dp_R k r e
  · unfold toPy at e
    cases e2 : toPyAll ds with
    | none => rw [e2] at e; cases e
    | some ps => rw [e2] at e; cases e; exact .lst (SqL.of h) (dp_RAll k r e2)
end
def fEq : POp := fun x y P => ∃ a b, toPy x = some a ∧ toPy y = some b ∧ SeqAt.shaped a = true ∧ SeqAt.shaped b = true ∧ P (.bl (PyData.eqv a b))
def fNe : POp := fun x y P => ∃ a b, toPy x = some a ∧ toPy y = some b ∧ SeqAt.shaped a = true ∧ SeqAt.shaped b = true ∧ P (.bl (!PyData.eqv a b))
theorem ol_eq : OL X (rEqD X.K) fEq := ⟨fun k rx ry ⟨a, b, ea, eb, sa, sb, p⟩ q => ⟨a, b, dp_RV k rx ea, dp_RV k ry eb, sa, sb, q _ _ _ _ (.refl k) (.bl _) p⟩⟩
theorem ol_ne : OL X (rNeD X.K) fNe := ⟨fun k rx ry ⟨a, b, ea, eb, sa, sb, p⟩ q => ⟨a, b, dp_RV k rx ea, dp_RV k ry eb, sa, sb, q _ _ _ _ (.refl k) (.bl _) p⟩⟩
def isNon : D → Bool
  | .non => true
  | _ => false
def rIsN : R2 := fun x y H Q => y = .non ∧ Q (.bl (decide (x = .non))) H
theorem dec_non {C : Ctx} {G : Gp} {H : Hp} {v : V} {d : D} (r : RV C G H v d) : decide (v = .non) = isNon d := by
  rcases r with r | ⟨a, xs, ds, rfl, rfl, h, g, r⟩
  · cases r <;> rfl
  · rfl
def fIsN : POp := fun x y P => match y with | .non => P (.bl (isNon x)) | _ => False
def fNotN : POp := fun x y P => match y with | .non => P (.bl (!isNon x)) | _ => False

theorem ol_isN : OL X (fun x y H Q => y = .non ∧ Q (.bl (decide (x = .non))) H) fIsN := by
  refine ⟨fun {G H x y dx dy Q P} k rx ry p q => ?_⟩
  unfold fIsN at p
  split at p
  · cases ry.scal (fun _ z => by cases z) with
    | non => exact ⟨rfl, by rw [dec_non rx]; exact q _ _ _ _ (.refl k) (.bl _) p⟩
  · exact p.elim
def fIsB : POp := fun x y P => match x, y with | .bl a, .bl b => P (.bl (decide (a = b))) | _, _ => False
def fNotB : POp := fun x y P => match x, y with | .bl a, .bl b => P (.bl (!decide (a = b))) | _, _ => False
def flatD : D → Bool
  | .non => true
  | .bl _ => true
  | .int _ => true
  | .str _ => true
  | _ => false
def eqF : D → D → Bool
  | .non, .non => true
  | .bl a, .bl b => a == b
  | .bl a, .int b => (if a then 1 else 0) == b
  | .int a, .bl b => a == (if b then 1 else 0)
  | .int a, .int b => a == b
  | .str a, .str b => a == b
  | _, _ => false
def inF (x : D) (xs : List D) : Bool := xs.any fun y => eqF y x
theorem flatR {C : Ctx} {G : Gp} {v : V} {d : D} (r : R C G v d) (h : flatD d = true) : flatV v = true := by
  cases r <;> first | rfl | cases h
theorem flatRAll {C : Ctx} {G : Gp} : ∀ {vs : List V} {ds : List D}, RAll C G vs ds → ds.all flatD = true → vs.all flatV = true
  | _, _, .nil, _ => rfl
  | _, _, .cons r t, h => by
    simp only [List.all_cons, Bool.and_eq_true] at h ⊢
    exact ⟨flatR r h.1, flatRAll t h.2⟩
theorem eqFR {C : Ctx} {G : Gp} {v w : V} {d e : D} (r : R C G v d) (t : R C G w e) (h : flatD d = true) (h2 : flatD e = true) : eqV v w = eqF d e := by
  cases r <;> cases t <;> first | rfl | cases h | cases h2
theorem inFR {C : Ctx} {G : Gp} {v : V} {d : D} (r : R C G v d) (h : flatD d = true) : ∀ {vs : List V} {ds : List D}, RAll C G vs ds → ds.all flatD = true → inV v vs = inF d ds
  | _, _, .nil, _ => rfl
  | _, _, .cons r1 t, h2 => by
    simp only [List.all_cons, Bool.and_eq_true] at h2
    have ih := inFR r h t h2.2
    unfold inV inF at ih ⊢
    rw [List.any_cons, List.any_cons, eqFR r1 r h2.1 h, ih]
def itemsD : D → Option (List D)
  | .lst ds => some ds
  | .vw ds => some ds
  | .tup ds => some ds
  | _ => none
theorem RV.items {C : Ctx} {G : Gp} {H : Hp} {v : V} {d : D} {ds : List D} (k : Ok G H) (r : RV C G H v d) (e : itemsD d = some ds) : ∃ a xs, v = .ref a ∧ (SqL C.K H a xs ∨ SqT C.K H a xs) ∧ RAll C G xs ds := by
  unfold itemsD at e
  split at e
  · cases e
    obtain ⟨a, xs, e, h, r⟩ := r.lst k
    exact ⟨a, xs, e, .inl (SqL.of h), r⟩
  · cases e
    obtain ⟨a, xs, e, h, r⟩ := r.vw k
    exact ⟨a, xs, e, .inl (SqL.of h), r⟩
  · cases e
    obtain ⟨a, xs, e, h, r⟩ := r.tup k
    exact ⟨a, xs, e, .inr h, r⟩
  · cases e
def fIn (neg : Bool) : POp := fun x y P => flatD x = true ∧ ∃ ds, itemsD y = some ds ∧ ds.all flatD = true ∧ P (.bl (if neg then !inF x ds else inF x ds))
theorem RV.flat {C : Ctx} {G : Gp} {H : Hp} {v : V} {d : D} (r : RV C G H v d) (h : flatD d = true) : R C G v d := r.scal fun ds z => by rw [z] at h; cases h
theorem ol_in {neg : Bool} : OL X (rIn X.K neg) (fIn neg) := by
  refine ⟨fun {G H x y dx dy Q P} k rx ry ⟨fx, ds, ey, fs, p⟩ q => ?_⟩
  obtain ⟨a, xs, e, h, r⟩ := ry.items k ey
  refine ⟨a, xs, e, h, flatR (rx.flat fx) fx, flatRAll r fs, ?_⟩
  rw [inFR (rx.flat fx) fx r fs]
  exact q _ _ _ _ (.refl k) (.bl _) p
def fInD (neg : Bool) : POp := fun x y P => ∃ d ds, toPy x = some d ∧ toPy y = some (.list ds) ∧ SeqAt.shaped d = true ∧ SeqAt.shaped (.list ds) = true ∧ P (.bl (if neg then !(ds.any fun z => PyData.eqv z d) else ds.any fun z => PyData.eqv z d))

inductive RVAll (C : Ctx) (G : Gp) (H : Hp) : List V → List D → Prop
  | nil : RVAll C G H [] []
  | cons {v d vs ds} : RV C G H v d → RVAll C G H vs ds → RVAll C G H (v :: vs) (d :: ds)
def pNil : PAx := fun _ P _ => P []
def pCons (pe : PX) (pa : PAx) : PAx := fun δ P P2 => pe δ (fun x => pa δ (fun xs => P (x :: xs)) P2) P2
theorem la_nil : LA X E [] tNil pNil := ⟨pa_nil, fun k s x p q => q _ _ _ _ (.refl k) .nil p⟩
theorem la_cons {e : Expr} {es : List Expr} {te : TE} {ta : TA} {pe : PX} {pa : PAx} (he : LX X E e te pe) (ha : LA X E es ta pa) (hs : starEach (e :: es) X.env = (false, eval e X.env) :: starEach es X.env := by rfl) : LA X E (e :: es) (tCons te ta) (pCons pe pa) :=
  ⟨pa_cons he.py ha.py hs, fun k s x p q => he.le k s x p fun v d G1 H1 y1 r1 p1 => ha.le y1.ok (s.ext y1) (x.ext y1) p1 fun vs ds G2 H2 y2 r2 p2 =>
    q _ _ G2 H2 (y1.trans y2) (.cons (r1.mono y2.g) r2) p2⟩
structure LW (X : Cx) (E : St → XK) (es : List Expr) (ta : TA) (pa : PAx) : Prop where
  py : PA X es ta
  le : ∀ {δ : Dl} {σ : St} {G : Gp} {H H0 : Hp} {Q : List V → Hp → Prop} {P : List D → Prop} {P2 : Exn → Prop}, Ok G H → SRel (cx X) H0 G H σ δ → EOk (cx X) G H (E σ) P2 → pa δ P P2 →
    (∀ vs ds G' H', Ext G H G' H' → RVAll (cx X) G' H' vs ds → P ds → Q vs H') → ta σ H Q
theorem lw_nil : LW X E [] tNil pNil := ⟨pa_nil, fun k s x p q => q _ _ _ _ (.refl k) .nil p⟩
theorem lw_cons {e : Expr} {es : List Expr} {te : TE} {ta : TA} {pe : PX} {pa : PAx} (he : LV X E e te pe) (ha : LW X E es ta pa) (hs : starEach (e :: es) X.env = (false, eval e X.env) :: starEach es X.env := by rfl) : LW X E (e :: es) (tCons te ta) (pCons pe pa) :=
  ⟨pa_cons he.py ha.py hs, fun k s x p q => he.le k s x p fun v d G1 H1 y1 r1 p1 => ha.le y1.ok (s.ext y1) (x.ext y1) p1 fun vs ds G2 H2 y2 r2 p2 =>
    q _ _ G2 H2 (y1.trans y2) (.cons (r1.ext y2) r2) p2⟩
abbrev PFn := List D → (D → Prop) → Prop
structure CL (X : Cx) (r : List V → Hp → VK → Prop) (f : PFn) : Prop where
  le : ∀ {G : Gp} {H : Hp} {vs : List V} {ds : List D} {Q : VK} {P : D → Prop}, Ok G H → RVAll (cx X) G H vs ds → f ds P →
    (∀ v d G' H', Ext G H G' H' → R (cx X) G' v d → P d → Q v H') → r vs H Q
structure CLo (X : Cx) (r : List V → Hp → VK → Prop) (f : PFn) : Prop where
  le : ∀ {G : Gp} {H : Hp} {vs : List V} {ds : List D} {Q : VK} {P : D → Prop}, Ok G H → RVAll (cx X) G H vs ds → f ds P →
    (∀ p xs es G' H', Ext G H G' H' → H p = none → H' p = some (.lst xs) → G' p = none → RAll (cx X) G' xs es → P (.lst es) → Q (.ref p) H') → r vs H Q
def pCB (f : PFn) (pa : PAx) : PX := fun δ P P2 => pa δ (fun ds => f ds P) P2
theorem lx_callB {x : Str} {p pos : Pos} {e : Expr} {es : List Expr} {t : TA} {id : String} {r : List V → Hp → VK → Prop} {f : PFn} {pa : PAx} (hc : CallR X (.builtin id) r) (cl : CL X r f) (hg : Gl X x) (hm : X.mg x = none) (hv : bootBuiltins x = some (.builtin id)) (ha : LW X E (e :: es) t pa)
    (hn : x ≠ "__name__" := by decide) (hdb : (x == ("__debug__" : Str)) = false := by decide)
    (he : starEach (e :: es) X.env = (false, eval e X.env) :: starEach es X.env := by rfl) (hpl : (backTo pos (starEach es X.env)).any (·.1) = false := by rfl) : LX X E (.Call (.Name x p) (e :: es) [] pos) (tCB r t) (pCB f pa) :=
  ⟨pe_callB hc hg hm hv ha.py hn hdb he hpl, fun k s x p q => ha.le k s x p fun vs ds G1 H1 y1 r1 p1 => cl.le y1.ok r1 p1 fun w d3 G3 H3 y3 r3 p3 => q w d3 G3 H3 (y1.trans y3) r3 p3⟩
theorem lx_callT {x : Str} {p pos : Pos} {e : Expr} {es : List Expr} {t : TA} {T : String} {r : List V → Hp → VK → Prop} {f : PFn} {pa : PAx} (hc : CallR X (.type T) r) (cl : CL X r f) (hg : Gl X x) (hm : X.mg x = none) (hv : bootBuiltins x = some (.type T)) (ha : LW X E (e :: es) t pa)
    (hn : x ≠ "__name__" := by decide) (hdb : (x == ("__debug__" : Str)) = false := by decide)
    (he : starEach (e :: es) X.env = (false, eval e X.env) :: starEach es X.env := by rfl) (hpl : (backTo pos (starEach es X.env)).any (·.1) = false := by rfl) : LX X E (.Call (.Name x p) (e :: es) [] pos) (tCB r t) (pCB f pa) :=
  ⟨pe_callTy hc hg hm hv ha.py hn hdb he hpl, fun k s x p q => ha.le k s x p fun vs ds G1 H1 y1 r1 p1 => cl.le y1.ok r1 p1 fun w d3 G3 H3 y3 r3 p3 => q w d3 G3 H3 (y1.trans y3) r3 p3⟩
theorem lo_callB {x : Str} {p pos : Pos} {e : Expr} {es : List Expr} {t : TA} {id : String} {r : List V → Hp → VK → Prop} {f : PFn} {pa : PAx} (hc : CallR X (.builtin id) r) (cl : CLo X r f) (hg : Gl X x) (hm : X.mg x = none) (hv : bootBuiltins x = some (.builtin id)) (ha : LW X E (e :: es) t pa)
    (hn : x ≠ "__name__" := by decide) (hdb : (x == ("__debug__" : Str)) = false := by decide)
    (he : starEach (e :: es) X.env = (false, eval e X.env) :: starEach es X.env := by rfl) (hpl : (backTo pos (starEach es X.env)).any (·.1) = false := by rfl) : LO X E (.Call (.Name x p) (e :: es) [] pos) (tCB r t) (pCB f pa) :=
  ⟨pe_callB hc hg hm hv ha.py hn hdb he hpl, fun k s x p q => ha.le k s x p fun vs ds G1 H1 y1 r1 p1 => cl.le y1.ok r1 p1 fun l xs es G3 H3 y3 hn3 hp gp r3 p3 =>
    q l xs es G3 H3 (y1.trans y3) (y1.back hn3) hp gp r3 p3⟩
theorem lo_callT {x : Str} {p pos : Pos} {e : Expr} {es : List Expr} {t : TA} {T : String} {r : List V → Hp → VK → Prop} {f : PFn} {pa : PAx} (hc : CallR X (.type T) r) (cl : CLo X r f) (hg : Gl X x) (hm : X.mg x = none) (hv : bootBuiltins x = some (.type T)) (ha : LW X E (e :: es) t pa)
    (hn : x ≠ "__name__" := by decide) (hdb : (x == ("__debug__" : Str)) = false := by decide)
    (he : starEach (e :: es) X.env = (false, eval e X.env) :: starEach es X.env := by rfl) (hpl : (backTo pos (starEach es X.env)).any (·.1) = false := by rfl) : LO X E (.Call (.Name x p) (e :: es) [] pos) (tCB r t) (pCB f pa) :=
  ⟨pe_callTy hc hg hm hv ha.py hn hdb he hpl, fun k s x p q => ha.le k s x p fun vs ds G1 H1 y1 r1 p1 => cl.le y1.ok r1 p1 fun l xs es G3 H3 y3 hn3 hp gp r3 p3 =>
    q l xs es G3 H3 (y1.trans y3) (y1.back hn3) hp gp r3 p3⟩
theorem RVAll.one {C : Ctx} {G : Gp} {H : Hp} {vs : List V} {d : D} (r : RVAll C G H vs [d]) : ∃ v, vs = [v] ∧ RV C G H v d := by
  cases r with
  | cons r t => cases t; exact ⟨_, rfl, r⟩
theorem RVAll.two {C : Ctx} {G : Gp} {H : Hp} {vs : List V} {d e : D} (r : RVAll C G H vs [d, e]) : ∃ v w, vs = [v, w] ∧ RV C G H v d ∧ RV C G H w e := by
  cases r with
  | cons r t =>
    obtain ⟨w, rfl, r2⟩ := t.one
    exact ⟨_, _, rfl, r, r2⟩
def fLen : PFn := fun ds P => match ds with | [.lst a] => P (.int a.length) | [.vw a] => P (.int a.length) | [.tup a] => P (.int a.length) | [.str x] => x.length ≤ szl ∧ P (.int x.length) | [.pin _ ns] => P (.int ns.length) | _ => False
theorem cl_len : CL X (fun xs H Q => ∃ x n, xs = [x] ∧ LenV X.K x H n ∧ Q (.int n) H) fLen := by
  refine ⟨fun {G H vs ds Q P} k r0 p q => ?_⟩
  unfold fLen at p
  split at p
  · obtain ⟨v, rfl, r⟩ := r0.one
    obtain ⟨a, xs, rfl, h, r⟩ := r.lst k
    exact ⟨_, _, rfl, .inl ⟨xs, SqL.of h, rfl⟩, by rw [r.length]; exact q _ _ _ _ (.refl k) (.int _) p⟩
  · obtain ⟨v, rfl, r⟩ := r0.one
    obtain ⟨a, xs, rfl, h, r⟩ := r.vw k
    exact ⟨_, _, rfl, .inl ⟨xs, SqL.of h, rfl⟩, by rw [r.length]; exact q _ _ _ _ (.refl k) (.int _) p⟩
  · obtain ⟨v, rfl, r⟩ := r0.one
    obtain ⟨a, xs, rfl, h, r⟩ := r.tup k
    exact ⟨_, _, rfl, .inr ⟨xs, h, rfl⟩, by rw [r.length]; exact q _ _ _ _ (.refl k) (.int _) p⟩
  · obtain ⟨v, rfl, r⟩ := r0.one
    obtain rfl := r.str
    exact ⟨_, _, rfl, ⟨by rw [sizeLine_eq]; exact p.1, rfl⟩, q _ _ _ _ (.refl k) (.int _) p.2⟩
  · obtain ⟨v, rfl, r⟩ := r0.one
    cases r.scal (fun _ z => by cases z) with
    | pin h => exact ⟨_, _, rfl, .inl ⟨_, SqL.of (k.lk h), rfl⟩, by rw [List.length_map]; exact q _ _ _ _ (.refl k) (.int _) p⟩
  · exact p.elim
def fAbs : PFn := fun ds P => match ds with | [.int i] => P (.int (if i < 0 then -i else i)) | _ => False
theorem cl_abs : CL X (fun xs H Q => ∃ i, xs = [.int i] ∧ Q (.int (if i < 0 then -i else i)) H) fAbs := by
  refine ⟨fun {G H vs ds Q P} k r0 p q => ?_⟩
  unfold fAbs at p
  split at p
  · obtain ⟨v, rfl, r⟩ := r0.one
    obtain rfl := r.int
    exact ⟨_, rfl, q _ _ _ _ (.refl k) (.int _) p⟩
  · exact p.elim
def fMax2 : PFn := fun ds P => match ds with | [.int i, .int j] => P (.int (if j > i then j else i)) | _ => False
def fMin2 : PFn := fun ds P => match ds with | [.int i, .int j] => P (.int (if j < i then j else i)) | _ => False
theorem cl_min2 : CL X (fun xs H Q => ∃ i j, xs = [.int i, .int j] ∧ Q (.int (if j < i then j else i)) H) fMin2 := by
  refine ⟨fun {G H vs ds Q P} k r0 p q => ?_⟩
  unfold fMin2 at p
  split at p
  · obtain ⟨v, w, rfl, r, r2⟩ := r0.two
    obtain rfl := r.int
    obtain rfl := r2.int
    exact ⟨_, _, rfl, q _ _ _ _ (.refl k) (.int _) p⟩
  · exact p.elim
def fInt : PFn := fun ds P => match ds with | [.int i] => P (.int i) | [.bl b] => P (.int (if b then 1 else 0)) | _ => False
theorem cl_int : CL X (fun xs H Q => (∃ i, xs = [.int i] ∧ Q (.int i) H) ∨ ∃ k, xs = [.bl k] ∧ Q (.int (if k then 1 else 0)) H) fInt := by
  refine ⟨fun {G H vs ds Q P} k r0 p q => ?_⟩
  unfold fInt at p
  split at p
  · obtain ⟨v, rfl, r⟩ := r0.one
    obtain rfl := r.int
    exact .inl ⟨_, rfl, q _ _ _ _ (.refl k) (.int _) p⟩
  · obtain ⟨v, rfl, r⟩ := r0.one
    obtain rfl := r.bl
    exact .inr ⟨_, rfl, q _ _ _ _ (.refl k) (.int _) p⟩
  · exact p.elim
def fBool : PFn := fun ds P => match ds with | [.int i] => P (.bl (i != 0)) | [.bl b] => P (.bl b) | _ => False
def intsD : List D → Option (List Int)
  | [] => some []
  | .int i :: ds => (intsD ds).map (i :: ·)
  | _ :: _ => none
theorem intsD_map : ∀ ns : List Int, intsD (ns.map D.int) = some ns
  | [] => rfl
  | n :: ns => by rw [List.map_cons]; unfold intsD; rw [intsD_map ns]; rfl
theorem intsD_eq : ∀ {ds : List D} {ns : List Int}, intsD ds = some ns → ds = ns.map D.int
  | [], ns, h => by cases h; rfl
  | .int i :: ds, ns, h => by
    unfold intsD at h
    cases e : intsD ds with
    | none => rw [e] at h; cases h
    | some ms => rw [e] at h; cases h; rw [List.map_cons, intsD_eq e]
  | .non :: _, _, h => by cases h
  | .bl _ :: _, _, h => by cases h
  | .str _ :: _, _, h => by cases h
  | .lst _ :: _, _, h => by cases h
  | .tup _ :: _, _, h => by cases h
  | .obj _ _ :: _, _, h => by cases h
  | .pool :: _, _, h => by cases h
  | .cls _ :: _, _, h => by cases h
  | .script _ :: _, _, h => by cases h
  | .pin _ _ :: _, _, h => by cases h
  | .vw _ :: _, _, h => by cases h
def fSum : PFn := fun ds P => match ds with | [.lst a] => (match intsD a with | some ns => P (.int ns.sum) | none => False) | [.vw a] => (match intsD a with | some ns => P (.int ns.sum) | none => False) | _ => False
def fMaxL : PFn := fun ds P => match ds with | [.lst a] => (match intsD a with | some ns => 0 < ns.length ∧ ∀ m, m ∈ ns → (∀ y, y ∈ ns → y ≤ m) → P (.int m) | none => False) | [.vw a] => (match intsD a with | some ns => 0 < ns.length ∧ ∀ m, m ∈ ns → (∀ y, y ∈ ns → y ≤ m) → P (.int m) | none => False) | _ => False
def fMinL : PFn := fun ds P => match ds with | [.lst a] => (match intsD a with | some ns => 0 < ns.length ∧ ∀ m, m ∈ ns → (∀ y, y ∈ ns → m ≤ y) → P (.int m) | none => False) | [.vw a] => (match intsD a with | some ns => 0 < ns.length ∧ ∀ m, m ∈ ns → (∀ y, y ∈ ns → m ≤ y) → P (.int m) | none => False) | _ => False
def fList : PFn := fun ds P => match ds with | [.script ns] => P (.lst (ns.map .int)) | [d] => (match itemsD d with | some es => P (.lst es) | none => False) | _ => False
theorem cl_list : CLo X (fun xs H Q => ∃ p ys, xs = [.ref p] ∧ (SqL X.K H p ys ∨ SqT X.K H p ys) ∧ ∀ l, H l = none → Q (.ref l) (upd H l (.lst ys))) fList := by
  refine ⟨fun {G H vs ds Q P} k r0 p q => ?_⟩
  unfold fList at p
  split at p
  · obtain ⟨v, rfl, r⟩ := r0.one
    cases r.scal (fun _ z => by cases z) with
    | script h => exact ⟨_, _, rfl, .inl (h.seq k), fun l hl => q l _ _ G _ (Ext.new k hl) hl upd_same (k.none_of hl) (RAll.ints _) p⟩
  · split at p
    · rename_i es e
      obtain ⟨v, rfl, r⟩ := r0.one
      obtain ⟨a, xs, rfl, h, r⟩ := r.items k e
      exact ⟨_, _, rfl, h, fun l hl => q l xs es G _ (Ext.new k hl) hl upd_same (k.none_of hl) r p⟩
    · exact p.elim
  · exact p.elim
def fTuple : PFn := fun ds P => match ds with | [d] => (match itemsD d with | some es => P (.tup es) | none => False) | _ => False
theorem cl_tuple : CL X (rTupN X.K) fTuple := by
  refine ⟨fun {G H vs ds Q P} k r0 p q => ?_⟩
  unfold fTuple at p
  split at p
  · rename_i d
    split at p
    · rename_i es e
      obtain ⟨v, rfl, r⟩ := r0.one
      unfold itemsD at e
      split at e
      · cases e
        obtain ⟨a, xs, rfl, h, r⟩ := r.lst k
        exact ⟨_, _, rfl, .inl ⟨SqL.of h, fun l o hl ho => let ⟨x1, x2⟩ := Ext.newT (C := cx X) (o := o) k hl ho r; q _ (.tup _) _ _ x1 x2 p⟩⟩
      · cases e
        obtain ⟨a, xs, rfl, h, r⟩ := r.vw k
        exact ⟨_, _, rfl, .inl ⟨SqL.of h, fun l o hl ho => let ⟨x1, x2⟩ := Ext.newT (C := cx X) (o := o) k hl ho r; q _ (.tup _) _ _ x1 x2 p⟩⟩
      · cases e
        have r0 := r.tupR
        obtain ⟨a, xs, rfl, h, r⟩ := r.tup k
        exact ⟨_, _, rfl, .inr ⟨h, q _ _ _ _ (.refl k) r0 p⟩⟩
      · cases e
    · exact p.elim
  · exact p.elim
end
end Pu
set_option Elab.async false
set_option linter.all false
set_option maxRecDepth 100000
set_option maxHeartbeats 2000000
set_option autoImplicit false
namespace Pu
open PySem L2
section
variable {X : Cx} {E : St → XK}
def truD : D → Option Bool
  | .non => some false
  | .bl b => some b
  | .int i => some (i != 0)
  | .str x => if x.length ≤ szl then some ((x.length : Int) != 0) else none
  | .lst ds => some (!ds.isEmpty)
  | .vw ds => some (!ds.isEmpty)
  | .tup ds => some (!ds.isEmpty)
  | _ => none
theorem RAll.empty {C : Ctx} {G : Gp} {xs : List V} {ds : List D} (r : RAll C G xs ds) : xs.isEmpty = ds.isEmpty := by cases r <;> rfl
theorem RV.tru {C : Ctx} {G : Gp} {H : Hp} {v : V} {d : D} {b : Bool} (k : Ok G H) (r : RV C G H v d) (e : truD d = some b) : TruV C.K v H b := by
  unfold truD at e
  split at e
  · cases e
    cases r.scal (fun _ z => by cases z) with
    | non => rfl
  · cases e
    obtain rfl := r.bl
    rfl
  · cases e
    obtain rfl := r.int
    rfl
  · obtain rfl := r.str
    split at e
    · cases e
      rename_i h
      exact ⟨by rw [sizeLine_eq]; exact h, rfl⟩
    · cases e
  · cases e
    obtain ⟨a, xs, rfl, h, r⟩ := r.lst k
    exact .inl ⟨xs, SqL.of h, by rw [r.empty]⟩
  · cases e
    obtain ⟨a, xs, rfl, h, r⟩ := r.vw k
    exact .inl ⟨xs, SqL.of h, by rw [r.empty]⟩
  · cases e
    obtain ⟨a, xs, rfl, h, r⟩ := r.tup k
    exact .inr (.inl ⟨xs, h, by rw [r.empty]⟩)
  · cases e
def pTru (pe : PX) : PTx := fun δ P P2 => pe δ (fun x => match truD x with | some b => P b | none => False) P2
theorem lt_truth {a : Expr} {ta : TE} {pe : PX} (ha : LV X E a ta pe) (he : ∀ whole, isTrue a X.env whole = (do let v ← whole; standAt a.pos; holding [v] (truthy v)) := by intro _; rfl) :
    LT X E a (fun σ H Q => ta σ H fun x H' => ∃ k, TruV X.K x H' k ∧ Q k H') (pTru pe) := by
  refine ⟨pt_truth ha.py he, fun k s x p q => ha.le k s x p fun v d G1 H1 y1 r1 p1 => ?_⟩
  split at p1
  · rename_i b e
    exact ⟨b, RV.tru (C := cx X) y1.ok r1 e, q b _ _ y1 p1⟩
  · exact p1.elim
def pTst (pe : PX) : PTx := fun δ P P2 => pe δ (fun x => match x with | .bl b => P b | _ => False) P2
theorem R.blR {C : Ctx} {G : Gp} {v : V} {b : Bool} (r : R C G v (.bl b)) : v = .bl b := by cases r; rfl
theorem lt_of {a : Expr} {te : TE} {pe : PX} (hp : PT X a (tTest te)) (ha : ∀ {δ : Dl} {σ : St} {G : Gp} {H H0 : Hp} {Q : VK} {P : D → Prop} {P2 : Exn → Prop}, Ok G H → SRel (cx X) H0 G H σ δ → EOk (cx X) G H (E σ) P2 → pe δ P P2 →
    (∀ v d G' H', Ext G H G' H' → R (cx X) G' v d → P d → Q v H') → te σ H Q) : LT X E a (tTest te) (pTst pe) := by
  refine ⟨hp, fun k s x p q => ha k s x p fun v d G1 H1 y1 r1 p1 => ?_⟩
  split at p1
  · obtain rfl := r1.blR
    exact ⟨_, rfl, q _ _ _ y1 p1⟩
  · exact p1.elim
theorem lt_cmp {op : CmpOp} {r : R2} {f : POp} {a b : Expr} {ta tb : TE} {pa pb : PX} {pos : Pos} (ho : OpR X (compareOp op) r) (ol : OL X r f) (ha : LV X E a ta pa) (hb : LV X E b tb pb) (hm : behindInMarks op b = false) :
    LT X E (.Compare a [op] [b] pos) (tTest (tOp r ta tb)) (pTst (pOp f pa pb)) := lt_of (pt_cmpR ho ha.py hb.py hm) (op_le ol ha hb)
def pChain (f f' : POp) (pa pb pc : PX) : PX := fun δ P P2 => pa δ (fun x => pb δ (fun y => f x y fun z => match z with
  | .bl k => if k = true then pc δ (fun w => f' y w P) P2 else P (.bl false)
  | _ => False) P2) P2
theorem chain_le {r r' : R2} {f f' : POp} {a b c : Expr} {ta tb tc : TE} {pa pb pc : PX} (ol : OL X r f) (ol' : OL X r' f') (ha : LV X E a ta pa) (hb : LV X E b tb pb) (hc : LV X E c tc pc) {δ : Dl} {σ : St} {G : Gp} {H H0 : Hp} {Q : VK} {P : D → Prop} {P2 : Exn → Prop}
    (k : Ok G H) (s : SRel (cx X) H0 G H σ δ) (x : EOk (cx X) G H (E σ) P2) (p : pChain f f' pa pb pc δ P P2) (q : ∀ v d G' H', Ext G H G' H' → R (cx X) G' v d → P d → Q v H') : tChain r r' ta tb tc σ H Q := by
  refine ha.le k s x p fun v d G1 H1 y1 r1 p1 => ?_
  refine hb.le y1.ok (s.ext y1) (x.ext y1) p1 fun u d2 G2 H2 y2 r2 p2 => ?_
  refine ol.le y2.ok (r1.ext y2) r2 p2 fun w d3 G3 H3 y3 r3 p3 => ?_
  have y13 := (y1.trans y2).trans y3
  split at p3
  · obtain rfl := r3.blR
    refine ⟨_, rfl, ?_⟩
    split at p3
    · rename_i e
      rw [if_pos e]
      refine hc.le y13.ok (s.ext y13) (x.ext y13) p3 fun u4 d4 G4 H4 y4 r4 p4 => ?_
      exact ol'.le y4.ok ((r2.ext y3).ext y4) r4 p4 fun u5 d5 G5 H5 y5 r5 p5 => q u5 d5 G5 H5 ((y13.trans y4).trans y5) r5 p5
    · rename_i e
      rw [if_neg e]
      exact q _ _ _ _ y13 (.bl _) p3
  · exact p3.elim
theorem lt_chain {op op' : CmpOp} {r r' : R2} {f f' : POp} {a b c : Expr} {ta tb tc : TE} {pa pb pc : PX} {pos : Pos} (ho : OpR X (compareOp op) r) (ho' : OpR X (compareOp op') r') (ol : OL X r f) (ol' : OL X r' f') (ha : LV X E a ta pa) (hb : LV X E b tb pb) (hc : LV X E c tc pc)
    (hm : lastMarks [op, op'] [b, c] = false := by with_unfolding_all rfl) : LT X E (.Compare a [op, op'] [b, c] pos) (tTest (tChain r r' ta tb tc)) (pTst (pChain f f' pa pb pc)) := lt_of (pt_chain ho ho' ha.py hb.py hc.py hm) (chain_le ol ol' ha hb hc)
structure LWt (X : Cx) (E : St → XK) (e : Expr) (tt : TT) (pt : PTx) : Prop where
  py : PW X e tt
  le : ∀ {δ : Dl} {σ : St} {G : Gp} {H H0 : Hp} {Q : Bool → Hp → Prop} {P : Bool → Prop} {P2 : Exn → Prop}, Ok G H → SRel (cx X) H0 G H σ δ → EOk (cx X) G H (E σ) P2 → pt δ P P2 →
    (∀ b G' H', Ext G H G' H' → P b → Q b H') → tt σ H Q
theorem LWt.t {e : Expr} {tt : TT} {pt : PTx} (h : LWt X E e tt pt) : LT X E e tt pt := ⟨h.py.pt, h.le⟩
def pAndT (a b : PTx) : PTx := fun δ P P2 => a δ (fun c => if c = true then b δ P P2 else P false) P2
def pOrT (a b : PTx) : PTx := fun δ P P2 => a δ (fun c => if c = true then P true else b δ P P2) P2
def pNotT (a : PTx) : PTx := fun δ P P2 => a δ (fun c => P (!c)) P2
section
variable {a b : Expr} {rest : List Expr} {tA tB : TT} {pA pB : PTx} {pos : Pos}
theorem lw_and1 (ha : LT X E a tA pA) : LWt X E (.BoolOp .And [a] pos) tA pA := ⟨pw_and1 ha.py, ha.le⟩
theorem lw_or1 (ha : LT X E a tA pA) : LWt X E (.BoolOp .Or [a] pos) tA pA := ⟨pw_or1 ha.py, ha.le⟩
theorem lw_and (ha : LT X E a tA pA) (hb : LWt X E (.BoolOp .And (b :: rest) pos) tB pB) : LWt X E (.BoolOp .And (a :: b :: rest) pos) (tAnd tA tB) (pAndT pA pB) :=
  ⟨pw_and ha.py hb.py, fun k s x p q => ha.le k s x p fun c G1 H1 y1 p1 => by
    split at p1
    · rename_i e
      rw [if_pos e]
      exact hb.le y1.ok (s.ext y1) (x.ext y1) p1 fun c2 G2 H2 y2 p2 => q _ _ _ (y1.trans y2) p2
    · rename_i e
      rw [if_neg e]
      exact q _ _ _ y1 p1⟩
theorem lw_or (ha : LT X E a tA pA) (hb : LWt X E (.BoolOp .Or (b :: rest) pos) tB pB) : LWt X E (.BoolOp .Or (a :: b :: rest) pos) (tOr tA tB) (pOrT pA pB) :=
  ⟨pw_or ha.py hb.py, fun k s x p q => ha.le k s x p fun c G1 H1 y1 p1 => by
    split at p1
    · rename_i e
      rw [if_pos e]
      exact q _ _ _ y1 p1
    · rename_i e
      rw [if_neg e]
      exact hb.le y1.ok (s.ext y1) (x.ext y1) p1 fun c2 G2 H2 y2 p2 => q _ _ _ (y1.trans y2) p2⟩
theorem lt_not (ha : LT X E a tA pA) : LT X E (.UnaryOp .Not a pos) (tNot tA) (pNotT pA) := ⟨pt_not ha.py, fun k s x p q => ha.le k s x p fun c G1 H1 y1 p1 => q _ _ _ y1 p1⟩
end
def pOrV (pa pb : PX) : PX := fun δ P P2 => pa δ (fun x => match truD x with | some k => if k = true then P x else pb δ P P2 | none => False) P2
def pAndV (pa pb : PX) : PX := fun δ P P2 => pa δ (fun x => match truD x with | some k => if k = true then pb δ P P2 else P x | none => False) P2
def pNotV (pa : PX) : PX := fun δ P P2 => pa δ (fun x => match truD x with | some k => P (.bl (!k)) | none => False) P2
section
variable {a b : Expr} {rest : List Expr} {ta tb : TE} {pa pb : PX} {pos : Pos} {op : BoolOp}
theorem lx_one (ha : LX X E a ta pa) : LX X E (.BoolOp op [a] pos) ta pa := ⟨pe_one ha.py, ha.le⟩
theorem lx_and (ha : LX X E a ta pa) (hb : LX X E (.BoolOp .And (b :: rest) pos) tb pb) : LX X E (.BoolOp .And (a :: b :: rest) pos) (tAndT X.K ta tb) (pAndV pa pb) :=
  ⟨pe_andT ha.py hb.py, fun k s x p q => ha.le k s x p fun v d G1 H1 y1 r1 p1 => by
    split at p1
    · rename_i c e
      refine ⟨c, RV.tru (C := cx X) y1.ok (.inl r1) e, ?_⟩
      split at p1
      · rename_i e2
        rw [if_pos e2]
        exact hb.le y1.ok (s.ext y1) (x.ext y1) p1 fun v2 d2 G2 H2 y2 r2 p2 => q _ _ _ _ (y1.trans y2) r2 p2
      · rename_i e2
        rw [if_neg e2]
        exact q _ _ _ _ y1 r1 p1
    · exact p1.elim⟩
theorem lx_not (ha : LV X E a ta pa) : LX X E (.UnaryOp .Not a pos) (tNotT X.K ta) (pNotV pa) :=
  ⟨pe_notT ha.py, fun k s x p q => ha.le k s x p fun v d G1 H1 y1 r1 p1 => by
    split at p1
    · rename_i c e
      exact ⟨c, RV.tru (C := cx X) y1.ok r1 e, q _ _ _ _ y1 (.bl _) p1⟩
    · exact p1.elim⟩
end
def pIfE (pt : PTx) (pa pb : PX) : PX := fun δ P P2 => pt δ (fun c => if c = true then pa δ P P2 else pb δ P P2) P2
def pTup (pa : PAx) : PX := fun δ P P2 => pa δ (fun ds => ds.length ≤ szl ∧ P (.tup ds)) P2
def pLst (pa : PAx) : PX := fun δ P P2 => pa δ (fun ds => ds.length ≤ szl ∧ P (.lst ds)) P2
theorem lx_tup {es : List Expr} {ta : TA} {pa : PAx} {x1 : Nat} {pos : Pos} (h : LA X E es ta pa) : LX X E (.Tuple es x1 pos) (tTupN ta) (pTup pa) :=
  ⟨pe_tupN h.py, fun k s x p q => h.le k s x p fun vs ds G1 H1 y1 r1 p1 => ⟨by rw [r1.length, sizeLine_eq]; exact p1.1, fun l o hl ho =>
    let ⟨x1, x2⟩ := Ext.newT (C := cx X) (o := o) y1.ok hl ho r1; q _ (.tup _) _ _ (y1.trans x1) x2 p1.2⟩⟩
theorem lo_lst {es : List Expr} {ta : TA} {pa : PAx} {pos : Pos} (h : LA X E es ta pa) : LO X E (.List es pos) (tLst ta) (pLst pa) :=
  ⟨pe_lst h.py, fun k s x p q => h.le k s x p fun vs ds G1 H1 y1 r1 p1 => ⟨by rw [r1.length, sizeLine_eq]; exact p1.1, fun l hl =>
    q l vs ds G1 _ (y1.trans (Ext.new y1.ok hl)) (y1.back hl) upd_same (y1.ok.none_of hl) r1 p1.2⟩⟩
def fIx : POp := fun x y P => match y with
  | .int i => (match x with
    | .lst ds => (match atI ds i with | some d => P d | none => False)
    | .vw ds => (match atI ds i with | some d => P d | none => False)
    | .tup ds => (match atI ds i with | some d => P d | none => False)
    | .str z => z.length ≤ szl ∧ (match atI z.cps.toList i with | some c => P (.str ⟨#[c]⟩) | none => False)
    | .pool => i = 0 ∧ ∀ s : Int, 0 ≤ s → P (.int s)
    | .pin _ ns => (match atI (ns.map D.int) i with | some d => P d | none => False)
    | _ => False)
  | _ => False
theorem RAll.atI {C : Ctx} {G : Gp} {xs : List V} {ds : List D} {i : Int} {d : D} (r : RAll C G xs ds) (e : atI ds i = some d) : ∃ v, L2.atI xs i = some v ∧ R C G v d := by
  unfold L2.atI at e ⊢
  rw [r.length]
  cases z : ixN ds.length i with
  | none => rw [z] at e; cases e
  | some j =>
    rw [z] at e
    obtain ⟨v, h1, h2⟩ := r.get e
    exact ⟨v, h1, h2⟩
theorem ol_ix : OL X (rIx X.K) fIx := by
  refine ⟨fun {G H x y dx dy Q P} k rx ry p q => ?_⟩
  unfold fIx at p
  split at p
  · have ey := ry.int
    split at p
    · split at p
      · rename_i d e
        obtain ⟨a, xs, e1, h1, r1⟩ := rx.lst k
        obtain ⟨v, h2, r2⟩ := r1.atI e
        exact .inl ⟨a, xs, _, v, e1, ey, SqL.of h1, h2, q _ _ _ _ (.refl k) r2 p⟩
      · exact p.elim
    · split at p
      · rename_i d e
        obtain ⟨a, xs, e1, h1, r1⟩ := rx.vw k
        obtain ⟨v, h2, r2⟩ := r1.atI e
        exact .inl ⟨a, xs, _, v, e1, ey, SqL.of h1, h2, q _ _ _ _ (.refl k) r2 p⟩
      · exact p.elim
    · split at p
      · rename_i d e
        obtain ⟨a, xs, e1, h1, r1⟩ := rx.tup k
        obtain ⟨v, h2, r2⟩ := r1.atI e
        exact .inr (.inl ⟨a, xs, _, v, e1, ey, h1, h2, q _ _ _ _ (.refl k) r2 p⟩)
      · exact p.elim
    · obtain ⟨pl, p⟩ := p
      split at p
      · rename_i c e
        exact .inr (.inr ⟨_, _, c, rx.str, ey, by rw [sizeLine_eq]; exact pl, e, q _ _ _ _ (.refl k) (.str _) p⟩)
      · exact p.elim
    · obtain ⟨rfl, p⟩ := p
      cases rx.scal (fun _ z => by cases z) with
      | pool g =>
        obtain ⟨⟨_, s0, s1, s2, s3, hh, h0, _⟩, _⟩ := k.at_ _ _ g
        exact .inl ⟨_, _, 0, .int s0, rfl, ey, SqL.of hh, rfl, q _ _ _ _ (.refl k) (.int _) (p s0 h0)⟩
    · split at p
      · rename_i d e
        cases rx.scal (fun _ z => by cases z) with
        | pin h =>
          obtain ⟨v, h2, r2⟩ := (RAll.ints (C := cx X) (G := G) _).atI e
          exact .inl ⟨_, _, _, v, rfl, ey, SqL.of (k.lk h), h2, q _ _ _ _ (.refl k) r2 p⟩
      · exact p.elim
    · exact p.elim
  · exact p.elim
theorem lx_ix {a b : Expr} {ta tb : TE} {pa pb : PX} {pos : Pos} (ha : LV X E a ta pa) (hb : LV X E b tb pb) (hs : PlainIx b) : LX X E (.Subscript a b pos) (tOp (rIx X.K) ta tb) (pOp fIx pa pb) :=
  ⟨pe_ix ix_seq ha.py hb.py hs, op_le ol_ix ha hb⟩
end
end Pu
set_option Elab.async false
set_option linter.all false
set_option maxRecDepth 100000
set_option maxHeartbeats 2000000
set_option autoImplicit false
namespace Pu
open PySem L2
section
variable {C : Ctx} {G G' G0 : Gp} {H H' H0 : Hp} {σ : St} {δ : Dl}
theorem SRel.own {i : Nat} {oa : Option Addr} {ds : List D} (s : SRel C H0 G H σ δ) (e : δ[i]? = some (some (.own oa ds))) : ∃ a xs, σ[i]? = some (some (.ref a)) ∧ (∀ b, oa = some b → b = a) ∧ H a = some (.lst xs) ∧ G a = none ∧ H0 a = none ∧ RAll C G xs ds := by
  obtain ⟨v, ev, r⟩ := s.at_ i _ e
  cases r with
  | own ha h g n r => exact ⟨_, _, ev, ha, h, g, n, r⟩
theorem SRel.fp_some {j : Nat} {s' : S} {v' : V} {a : Addr} (s : SRel C H0 G H σ δ) (h : δ[j]? = some (some s')) (ev : σ[j]? = some (some v')) (f : s'.fp v' a) (hn : H a = none) : False := by
  obtain ⟨v, e, q⟩ := s.at_ j s' h
  rw [ev] at e
  cases e
  cases q with
  | d _ => exact f
  | own _ hb _ _ _ =>
    have e2 : (V.ref _) = V.ref a := f
    injection e2 with e2
    rw [e2, hn] at hb; cases hb
  | slf _ hb _ _ _ _ =>
    have e2 : (V.ref _) = V.ref a := f
    injection e2 with e2
    rw [e2, hn] at hb; cases hb
  | exc _ => exact f
  | tree _ t2 _ =>
    obtain ⟨_, _, xs, hx⟩ := t2 a f
    rw [hn] at hx; cases hx
theorem SRel.write {i : Nat} {a : Addr} {oa : Option Addr} {ds ds' : List D} {xs' : List V} (s : SRel C H0 G H σ δ) (e : δ[i]? = some (some (.own oa ds))) (ea : σ[i]? = some (some (.ref a))) (r' : RAll C G xs' ds') :
    SRel C H0 G (upd H a (.lst xs')) σ (δ.set i (some (.own oa ds'))) := by
  obtain ⟨a', xs, ev, hoa, h, g, n, r⟩ := s.own e
  have eq : a' = a := by rw [ev] at ea; cases ea; rfl
  subst eq
  have hl : i < δ.length := (List.getElem?_eq_some_iff.mp e).1
  have key : ∀ (j : Nat) (u : S), (δ.set i (some (.own oa ds')))[j]? = some (some u) → (j = i ∧ u = .own oa ds') ∨ (j ≠ i ∧ δ[j]? = some (some u)) := fun j u h => by
    by_cases z : i = j
    · subst z
      rw [List.getElem?_set_self hl] at h
      exact .inl ⟨rfl, (Option.some.inj (Option.some.inj h)).symm⟩
    · rw [List.getElem?_set_ne z] at h
      exact .inr ⟨fun y => z y.symm, h⟩
  refine ⟨by rw [List.length_set, s.len], fun j u hu => ?_, fun j k u u' v1 v2 nn h1 h2 o1 o2 e1 e2 => ?_, fun j k P d u v2 b nn h1 h2 e2 pa f => ?_⟩
  · rcases key j u hu with ⟨rfl, rfl⟩ | ⟨z, hu⟩
    · exact ⟨_, ev, .own hoa upd_same g n r'⟩
    · obtain ⟨v, e2, q⟩ := s.at_ j u hu
      refine ⟨v, e2, ?_⟩
      cases q with
      | d q => exact .d q
      | @own b ob ys es hob hb gb nb rb =>
        have ne : b ≠ a' := fun y => s.apart j i _ _ _ _ z hu e rfl rfl e2 ev (by rw [y])
        exact .own hob (by rw [upd_ne ne]; exact hb) gb nb rb
      | @slf b A dx vs c es mb hb gb nb rb lb =>
        have ne : b ≠ a' := fun y => s.apart j i _ _ _ _ z hu e rfl rfl e2 ev (by rw [y])
        exact .slf mb (by rw [upd_ne ne]; exact hb) gb nb rb lb
      | exc q => exact .exc q
      | @tree _ _ TP TG t1 t2 q =>
        have np : ∀ b, TP b → b ≠ a' := fun b pb y => s.apT j i _ _ _ _ b z hu e ev pb (by rw [y]; rfl)
        refine .tree (fun b g eg => ?_) (fun b pb => ?_) q
        · rcases t1 b g eg with ⟨pb, xs2, rfl, hx2⟩ | t3
          · exact .inl ⟨pb, xs2, rfl, by rw [upd_ne (np b pb)]; exact hx2⟩
          · exact .inr t3
        · obtain ⟨n1, n2, xs2, n3⟩ := t2 b pb
          exact ⟨n1, n2, xs2, by rw [upd_ne (np b pb)]; exact n3⟩
  · have k1 : ∃ s1, δ[j]? = some (some s1) ∧ s1.isOwn = true := by
      rcases key j u h1 with ⟨rfl, _⟩ | ⟨_, h1⟩
      · exact ⟨_, e, rfl⟩
      · exact ⟨_, h1, o1⟩
    have k2 : ∃ s1, δ[k]? = some (some s1) ∧ s1.isOwn = true := by
      rcases key k u' h2 with ⟨rfl, _⟩ | ⟨_, h2⟩
      · exact ⟨_, e, rfl⟩
      · exact ⟨_, h2, o2⟩
    obtain ⟨s1, g1, w1⟩ := k1
    obtain ⟨s2, g2, w2⟩ := k2
    exact s.apart j k s1 s2 v1 v2 nn g1 g2 w1 w2 e1 e2
  · have kj : δ[j]? = some (some (.tree P d)) := by
      rcases key j _ h1 with ⟨_, z⟩ | ⟨_, h1⟩
      · cases z
      · exact h1
    rcases key k u h2 with ⟨rfl, rfl⟩ | ⟨_, h2⟩
    · exact s.apT j _ P d _ v2 b nn kj e e2 pa f
    · exact s.apT j k P d u v2 b nn kj h2 e2 pa f
theorem SRel.freeze {i : Nat} {oa : Option Addr} {ds : List D} (x : Ext G0 H0 G H) (s : SRel C H0 G H σ δ) (e : δ[i]? = some (some (.own oa ds))) :
    ∃ G', Ext G0 H0 G' H ∧ (∀ a g, G a = some g → G' a = some g) ∧ SRel C H0 G' H σ (δ.set i (some (.d (.lst ds)))) := by
  obtain ⟨a, xs, ev, hoa, h, g, n, r⟩ := s.own e
  refine ⟨updG G a (.fz (.lst xs)), x.share n h g, updG_keep g, ?_⟩
  have hl : i < δ.length := (List.getElem?_eq_some_iff.mp e).1
  have key : ∀ (j : Nat) (u : S), (δ.set i (some (.d (.lst ds))))[j]? = some (some u) → (j = i ∧ u = .d (.lst ds)) ∨ (j ≠ i ∧ δ[j]? = some (some u)) := fun j u h => by
    by_cases z : i = j
    · subst z
      rw [List.getElem?_set_self hl] at h
      exact .inl ⟨rfl, (Option.some.inj (Option.some.inj h)).symm⟩
    · rw [List.getElem?_set_ne z] at h
      exact .inr ⟨fun y => z y.symm, h⟩
  refine ⟨by rw [List.length_set, s.len], fun j u hu => ?_, fun j k u u' v1 v2 nn h1 h2 o1 o2 e1 e2 => ?_, fun j k P d u v2 b nn h1 h2 e2 pa f => ?_⟩
  · rcases key j u hu with ⟨rfl, rfl⟩ | ⟨z, hu⟩
    · exact ⟨_, ev, .d (.lst updG_same (r.mono (updG_keep g)))⟩
    · obtain ⟨v, e2, q⟩ := s.at_ j u hu
      refine ⟨v, e2, ?_⟩
      cases q with
      | d q => exact .d (q.mono (updG_keep g))
      | @own b ob ys es hob hb gb nb rb =>
        have ne : b ≠ a := fun y => s.apart j i _ _ _ _ z hu e rfl rfl e2 ev (by rw [y])
        exact .own hob hb (by rw [updG_ne ne]; exact gb) nb (rb.mono (updG_keep g))
      | @slf b A dx vs c es mb hb gb nb rb lb =>
        have ne : b ≠ a := fun y => s.apart j i _ _ _ _ z hu e rfl rfl e2 ev (by rw [y])
        exact .slf mb hb (by rw [updG_ne ne]; exact gb) nb (rb.mono (updG_keep g)) lb
      | exc q => exact .exc (q.ext (updG_keep g))
      | @tree _ _ TP TG t1 t2 q =>
        have np : ∀ b, TP b → b ≠ a := fun b pb y => s.apT j i _ _ _ _ b z hu e ev pb (by rw [y]; rfl)
        refine .tree (fun b u2 eg => ?_) (fun b pb => ?_) q
        · rcases t1 b u2 eg with t3 | ⟨t3, t4⟩
          · exact .inl t3
          · exact .inr ⟨updG_keep g b u2 t3, t4⟩
        · obtain ⟨n1, n2, n3⟩ := t2 b pb
          exact ⟨n1, by rw [updG_ne (np b pb)]; exact n2, n3⟩
  · rcases key j u h1 with ⟨_, eu⟩ | ⟨_, h1'⟩
    · rw [eu] at o1; cases o1
    · rcases key k u' h2 with ⟨_, eu⟩ | ⟨_, h2'⟩
      · rw [eu] at o2; cases o2
      · exact s.apart j k u u' v1 v2 nn h1' h2' o1 o2 e1 e2
  · have kj : δ[j]? = some (some (.tree P d)) := by
      rcases key j _ h1 with ⟨_, z⟩ | ⟨_, h1⟩
      · cases z
      · exact h1
    rcases key k u h2 with ⟨_, rfl⟩ | ⟨_, h2⟩
    · exact f.elim
    · exact s.apT j k P d u v2 b nn kj h2 e2 pa f
end

section
variable {X : Cx} {E : St → XK}
def pNext : PSx := fun P δ => P.nx δ
def pSeq (a b : PSx) : PSx := fun P δ => a { P with nx := b P } δ
def pBreak : PSx := fun P δ => P.bk δ
def pCont : PSx := fun P δ => P.ct δ
theorem EndsR.seq {C : Ctx} {G0 : Gp} {H0 : Hp} {E : St → XK} {Dn : Ends} {P : PEnds} {t : TS} {p : PSx} (e : EndsR C G0 H0 E Dn P) (h : ∀ {σ : St} {δ : Dl} {G : Gp} {H : Hp}, Stt C G0 H0 σ δ G H → p P δ → t Dn σ H) :
    EndsR C G0 H0 E { Dn with nx := t Dn } { P with nx := p P } := ⟨h, e.rt, e.bk, e.ct, e.ex⟩
theorem lss_nil : LSs X E [] tNext pNext := ⟨pss_nil, fun e t p => e.nx t p⟩
theorem lss_cons {st : Stmt} {rest : List Stmt} {t u : TS} {p q : PSx} (h1 : LS X E st t p) (h2 : LSs X E rest u q) : LSs X E (st :: rest) (tSeq t u) (pSeq p q) :=
  ⟨pss_cons h1.py h2.py, fun e t p => h1.le (e.seq fun t' p' => h2.le e t' p') t p⟩
theorem lss_one {st : Stmt} {t : TS} {p : PSx} (h1 : LS X E st t p) : LSs X E [st] t p := ⟨pss_one h1.py, h1.le⟩
def pFreeze (i : Nat) (p : PSx) : PSx := fun P δ => match δ[i]? with
  | some (some (.own _ ds)) => p P (δ.set i (some (.d (.lst ds))))
  | _ => p P δ
theorem ls_freeze (i : Nat) {st : Stmt} {t : TS} {p : PSx} (h : LS X E st t p) : LS X E st t (pFreeze i p) := by
  refine ⟨h.py, fun {G0 H0 Dn P δ σ G H} e t q => ?_⟩
  unfold pFreeze at q
  split at q
  · rename_i oa ds ed
    obtain ⟨G', x, _, s⟩ := SRel.freeze t.ext t.sr ed
    exact h.le e ⟨x, s⟩ q
  · exact h.le e t q
def pAsg (pe : PX) (i : Nat) : PSx := fun P δ => pe δ (fun d => P.nx (δ.set i (some (.d d)))) (P.ex δ)
def pAsgO (pe : PX) (i : Nat) : PSx := fun P δ => pe δ (fun d => match d with | .lst ds => P.nx (δ.set i (some (.own none ds))) | _ => False) (P.ex δ)
theorem ls_set (i : Nat) {x : Str} {e : Expr} {te : TE} {pe : PX} {pos pos' : Pos} (hN : X.N.Nodup) (he : LX X E e te pe) (hi : X.N[i]? = some x := by rfl) (hx : Loc X.env.scope x := by first | exact Or.inl rfl | exact Or.inr rfl)
    (hs : swapsWith e (some (.Name x pos')) pos.line X.env = pure false := by rfl) (hf : X.fn x = true ∨ X.env.scope.names.lookup x = some .local := by first | exact .inl rfl | exact .inr rfl) :
    LS X E (.Assign [.Name x pos'] e pos) (tAsg te (gName i)) (pAsg pe i) :=
  ⟨by first | exact ps_set hN hi hx he.py hs hf | exact ps_set hN hi hx he.py hs, fun e t p => he.le t.ok t.sr (e.ex t) p fun v d G' H' y r q => e.nx ⟨t.ext.trans y, (t.sr.ext y).setD r⟩ q⟩
theorem SRel.setO {C : Ctx} {H0 H H' : Hp} {G G' G0 : Gp} {σ : St} {δ : Dl} {i : Nat} {p : Addr} {xs : List V} {ds : List D} (e0 : Ext G0 H0 G H) (s : SRel C H0 G H σ δ) (y : Ext G H G' H') (hn : H p = none) (hp : H' p = some (.lst xs)) (gp : G' p = none) (r : RAll C G' xs ds) :
    SRel C H0 G' H' (σ.set i (some (.ref p))) (δ.set i (some (.own none ds))) := by
  refine (s.ext y).set (.own (fun _ z => by cases z) hp gp (e0.back hn) r) (fun _ j s' h o ne z => ?_) (fun j s' v' a h ev' ne f1 f2 => ?_)
  · obtain ⟨v, ev, q⟩ := s.at_ j s' h
    rw [ev] at z
    cases z
    cases q with
    | d _ => cases o
    | own _ hb _ _ _ => rw [hn] at hb; cases hb
    | slf _ hb _ _ _ _ => rw [hn] at hb; cases hb
    | exc _ => cases o
    | tree _ _ _ => cases o
  · have ea : p = a := by injection f2
    subst ea
    exact s.fp_some h ev' f1 hn
theorem ls_setO (i : Nat) {x : Str} {e : Expr} {te : TE} {pe : PX} {pos pos' : Pos} (hN : X.N.Nodup) (he : LO X E e te pe) (hi : X.N[i]? = some x := by rfl) (hx : Loc X.env.scope x := by first | exact Or.inl rfl | exact Or.inr rfl)
    (hs : swapsWith e (some (.Name x pos')) pos.line X.env = pure false := by rfl) (hf : X.fn x = true ∨ X.env.scope.names.lookup x = some .local := by first | exact .inl rfl | exact .inr rfl) :
    LS X E (.Assign [.Name x pos'] e pos) (tAsg te (gName i)) (pAsgO pe i) :=
  ⟨by first | exact ps_set hN hi hx he.py hs hf | exact ps_set hN hi hx he.py hs, fun e t p => he.le t.ok t.sr (e.ex t) p fun l xs ds G' H' y hn hp gp r q => e.nx ⟨t.ext.trans y, SRel.setO t.ext t.sr y hn hp gp r⟩ q⟩
def pDrop (pe : PX) : PSx := fun P δ => pe δ (fun _ => P.nx δ) (P.ex δ)
theorem ls_expr {e : Expr} {te : TE} {pe : PX} {pos : Pos} (he : LV X E e te pe) (hs : swapsWith e none pos.line X.env = pure false := by rfl) : LS X E (.Expr e pos) (tDrop te) (pDrop pe) :=
  ⟨ps_expr he.py hs, fun e t p => he.le t.ok t.sr (e.ex t) p fun v d G' H' y r q => e.nx (t.step y) q⟩
def pRet (pe : PX) : PSx := fun P δ => pe δ (P.rt δ) (P.ex δ)
theorem ls_ret {e : Expr} {te : TE} {pe : PX} {pos : Pos} (he : LX X E e te pe) : LS X E (.Return (some e) pos) (tRet te) (pRet pe) :=
  ⟨ps_ret he.py, fun e t p => he.le t.ok t.sr (e.ex t) p fun v d G' H' y r q => e.rt (t.step y) r q⟩
def pRetN : PSx := fun P δ => P.rt δ .non
def pIf (c : PTx) (a b : PSx) : PSx := fun P δ => c δ (fun k => if k = true then a P δ else b P δ) (P.ex δ)
theorem ls_if {c : Expr} {a b : List Stmt} {tc : TT} {t u : TS} {pc : PTx} {p q : PSx} {pos : Pos} (hc : LT X E c tc pc) (ha : LSs X E a t p) (hb : LSs X E b u q) : LS X E (.If c a b pos) (tIfS tc t u) (pIf pc p q) :=
  ⟨ps_if hc.py ha.py hb.py, fun e t p => hc.le t.ok t.sr (e.ex t) p fun k G' H' y q => by
    split at q
    · rename_i z
      rw [if_pos z]
      exact ha.le e (t.step y) q
    · rename_i z
      rw [if_neg z]
      exact hb.le e (t.step y) q⟩
def pgName (i : Nat) : D → Dl → (Dl → Prop) → Prop := fun d δ K => K (δ.set i (some (.d d)))
theorem lg_name (i : Nat) {x : Str} {pos : Pos} (hN : X.N.Nodup) (hi : X.N[i]? = some x := by rfl) (hx : Loc X.env.scope x := by first | exact Or.inl rfl | exact Or.inr rfl) (hf : X.fn x = true ∨ X.env.scope.names.lookup x = some .local := by first | exact .inl rfl | exact .inr rfl) :
    LG X (.Name x pos) (gName i) (pgName i) [i] := ⟨pg_name hN hi hx hf, fun k s r p q => q _ _ (s.setD r) .set p⟩
structure LGs (X : Cx) (ts : List Expr) (g : TGs) (pg : List D → Dl → (Dl → Prop) → Prop) (js : List Nat) : Prop where
  py : PGs X ts g
  le : ∀ {δ : Dl} {σ : St} {G : Gp} {H H0 : Hp} {vs : List V} {ds : List D} {P : Dl → Prop} {Q : St → Hp → Prop}, Ok G H → SRel (cx X) H0 G H σ δ → RAll (cx X) G vs ds → pg ds δ P →
    (∀ σ' δ', SRel (cx X) H0 G H σ' δ' → Out js σ σ' → P δ' → Q σ' H) → g vs σ H Q
def pgNil : List D → Dl → (Dl → Prop) → Prop := fun ds δ K => match ds with | [] => K δ | _ => False
def pgCons (t : D → Dl → (Dl → Prop) → Prop) (u : List D → Dl → (Dl → Prop) → Prop) : List D → Dl → (Dl → Prop) → Prop := fun ds δ K => match ds with | d :: r => t d δ (fun δ' => u r δ' K) | [] => False
theorem lgs_nil : LGs X [] gNil pgNil [] := ⟨pgs_nil, fun k s r p q => by
  cases r with
  | nil => exact ⟨rfl, q _ _ s .refl p⟩
  | cons _ _ => exact p.elim⟩
theorem lgs_cons {e : Expr} {es : List Expr} {t : TG} {u : TGs} {pt : D → Dl → (Dl → Prop) → Prop} {pu : List D → Dl → (Dl → Prop) → Prop} {js ks : List Nat} (h1 : LG X e t pt js) (h2 : LGs X es u pu ks)
    (hs : (assignEach (e :: es) X.env).map (·.2) = assign e X.env :: (assignEach es X.env).map (·.2) := by rfl) : LGs X (e :: es) (gCons t u) (pgCons pt pu) (js ++ ks) := ⟨pgs_cons h1.py h2.py hs, fun k s r p q => by
  cases r with
  | nil => exact p.elim
  | cons r1 r2 => exact ⟨_, _, rfl, h1.le k s r1 p fun σ' δ' s' o1 p' => h2.le k s' r2 p' fun σ2 δ2 s2 o2 p2 => q σ2 δ2 s2 (o1.trans o2) p2⟩⟩
def pgSeq (n : Nat) (u : List D → Dl → (Dl → Prop) → Prop) : D → Dl → (Dl → Prop) → Prop := fun d δ K => match itemsD d with | some ds => ds.length = n ∧ u ds δ K | none => False
def gSeq (K : PySem.W.Frag) (n : Nat) (t : TGs) : TG := fun v σ H Q => gTup K n t v σ H Q ∨ gUnl K n t v σ H Q
theorem lg_seq {es : List Expr} {j : Nat} {t : TGs} {pu : List D → Dl → (Dl → Prop) → Prop} {n : Nat} {pos : Pos} {js : List Nat} (hc : X.calm = true) (h : LGs X es t pu js)
    (hn : (assignEach es X.env).length = n := by rfl) (hst : (assignEach es X.env).findIdx? (·.1) = none := by rfl) : LG X (.Tuple es j pos) (gSeq X.K n t) (pgSeq n pu) js := by
  refine ⟨⟨fun pins s σ H v u Q I r hw => ?_⟩, fun {δ σ G H H0 v d P Q} k s r p q => ?_⟩
  · rcases hw with hw | hw
    · exact (pg_tup hc h.py hn hst).run pins s σ H v u Q I r hw
    · exact (pg_unl hc h.py hn hst).run pins s σ H v u Q I r hw
  · unfold pgSeq at p
    split at p
    · rename_i ds e
      obtain ⟨a, xs, e1, h1, r1⟩ := RV.items (C := cx X) k (.inl r) e
      have fin : t xs σ H Q := h.le k s r1 p.2 q
      rcases h1 with h1 | h1
      · exact .inr ⟨a, xs, e1, h1, by rw [r1.length]; exact p.1, fin⟩
      · exact .inl ⟨a, xs, e1, h1, by rw [r1.length]; exact p.1, fin⟩
    · exact p.elim
def pAsgG (pe : PX) (pg : D → Dl → (Dl → Prop) → Prop) : PSx := fun P δ => pe δ (fun d => pg d δ P.nx) (P.ex δ)
end
end Pu
set_option Elab.async false
set_option linter.all false
set_option maxRecDepth 100000
set_option maxHeartbeats 2000000
set_option autoImplicit false
namespace Pu
open PySem L2 PyProof.Rows

def ItE_l (K : PySem.W.Frag) (k0 : Int) (a : Addr) : It :=
  ⟨fun i H => ∃ (xs : List V) (x : V), SqL K H a xs ∧ xs[i]? = some x, fun i H v H' => ∃ T x o, v = .ref T ∧ H T = none ∧ o.dict = none ∧ H' = upd H T (.frz o (.tup [.int (k0 + (i : Int)), x])) ∧ ∀ xs, SqL K H a xs → xs[i]? = some x, fun i H => ∃ xs : List V, SqL K H a xs ∧ xs.length = i⟩
theorem turn_enum_l {P : Program} {w : World} {K : PySem.W.Frag} {elts : List Expr} {kk : Nat} {tpos : Pos} (k0 : Int) (a e it : Addr) :
    Turn P w K (.Tuple elts kk tpos) (ItE_l K k0 a) [e, it] e (fun i h => (∃ old, IsEnum h e it (k0 + (i : Int)) old) ∧ h.IsListIter it a i ∧ e ≠ it) where
  mem := by simp
  obj := fun i h st b hb => by
    obtain ⟨⟨old, he⟩, ⟨o, ho, hc, hd⟩, _⟩ := st
    have e' : b = e ∨ b = it := by simpa using hb
    rcases e' with z | z
    · rw [z]; exact ⟨_, he, fun v q => nomatch q⟩
    · rw [z]; exact ⟨o, ho, fun v q => by rw [hd] at q; cases q⟩
  keep := fun i h h' st k => let ⟨⟨old, he⟩, hi, hne⟩ := st; ⟨⟨old, k e (by simp) _ he⟩, hi.at fun o q => k it (by simp) o q, hne⟩
  item := by
    intro X hP hw hK hc i pins s σ H E I hf st hg
    subst hP hw hK
    obtain ⟨⟨old, he⟩, hit, hne⟩ := st
    obtain ⟨xs, x, hq, hx⟩ := hg
    obtain ⟨its, rv, p, hz⟩ := I.list hq
    obtain ⟨u, hu, ru⟩ := rv.get hx
    have hel : e < s.heap.objs.size := Heap.lt_size he
    have hil : it < s.heap.objs.size := by obtain ⟨_, q, _⟩ := hit; exact Heap.lt_size q
    have pl : s.heap.IsList a its.toArray := p.isList
    have ha_it : a ≠ it := fun z => by
      obtain ⟨o1, q1, c1, _⟩ := hit
      obtain ⟨o2, q2, c2⟩ := pl.typeIs (s := s)
      rw [z, q1] at q2; cases q2; rw [c1] at c2; revert c2; decide +kernel
    have he_a : e ≠ a := fun z => by
      obtain ⟨o2, q2, c2⟩ := pl.typeIs (s := s)
      rw [← z, he] at q2; cases q2; exact absurd c2 (by show ¬ (Value.type "enumerate" = Value.type "list"); decide +kernel)
    have hlt : i < its.toArray.size := by
      have := (List.getElem?_eq_some_iff.mp hx).1
      rw [List.size_toArray, ← rv.length]; exact this
    refine wpAny_pyNext_enum_itemC (Draws.list (A := X.A.in1) (by exact (I.ok.hd hc)) it a ha_it its.toArray) he ⟨hit, pl⟩ hlt hne (by simp [hne, he_a]) fun u' h' tk hu' ho st' hT hsz hk => ?_
    have eu : u' = u := by
      have h1 : its[i]? = some u' := by simpa using hu'
      rw [hu] at h1; exact (Option.some.inj h1).symm
    subst eu
    refine ⟨_, rfl, wpAny_letOwnedTupleGo_enum (s := { s with heap := h', toks := tk + 1 }) ho fun h'' he' sb => ?_⟩
    have hT2 : h''.get? s.heap.objs.size = some { cls := .type "tuple", data := .seq #[.int (k0 + (i : Int)) tk, u'] } := (sb.2 _ (Nat.ne_of_gt hel)).trans hT
    have new : ObjOk X.prog X.w (upd H s.heap.objs.size (.frz { cls := .type "tuple", data := .seq #[.int (k0 + (i : Int)) tk, u'] } (.tup [.int (k0 + (i : Int)), x]))) h'' s.heap.objs.size (.frz { cls := .type "tuple", data := .seq #[.int (k0 + (i : Int)) tk, u'] } (.tup [.int (k0 + (i : Int)), x])) :=
      ⟨hT2, by show 2 ≤ sizeLine; decide, [.int (k0 + (i : Int)) tk, u'], .cons ⟨_, rfl⟩ (.cons ru .nil), ⟨_, hT2, rfl, _, rfl⟩⟩
    have I1 : Inv X pins σ (upd H s.heap.objs.size (.frz { cls := .type "tuple", data := .seq #[.int (k0 + (i : Int)) tk, u'] } (.tup [.int (k0 + (i : Int)), x]))) { s with heap := h'', toks := tk + 1 } :=
      I.turnedNew (ch := [e, it]) (fun b ob hb q => (sb.2 b (fun z => hb (by simp [z]))).trans (hk b ob (fun z => hb (by simp [z])) (fun z => hb (by simp [z])) q)) hf (Nat.le_refl _) new
    refine ⟨.ref s.heap.objs.size, _, I1, rfl, ⟨_, x, _, rfl, I.hok.fresh (Nat.le_refl _), rfl, rfl, fun ys hy => by rw [I.list_inj hy hq]; exact hx⟩, ⟨⟨u', ?_⟩, st'.1.at fun o q => (sb.2 it (Ne.symm hne)).trans q, hne⟩, fun b hb => ?_⟩
    · have e1 : k0 + ((i + 1 : Nat) : Int) = k0 + (i : Int) + 1 := by omega
      rw [e1]; exact he'
    · have hb' : b < s.heap.objs.size := by
        have e' : b = e ∨ b = it := by simpa using hb
        rcases e' with z | z
        · rw [z]; exact hel
        · rw [z]; exact hil
      rw [upd_ne (Nat.ne_of_lt hb')]
      exact (hf b hb).1
  done := by
    intro X hP hw hK hc i pins s σ H E I hf st hg
    subst hP hw hK
    obtain ⟨⟨old, he⟩, hit, hne⟩ := st
    obtain ⟨xs, hq, hx⟩ := hg
    obtain ⟨its, rv, p, hz⟩ := I.list hq
    obtain ⟨f0, f1, f2, f3, f4, f5⟩ := hf it (by simp)
    have pl : s.heap.IsList a its.toArray := p.isList
    have ha_it : a ≠ it := fun z => by
      obtain ⟨o1, q1, c1, _⟩ := hit
      obtain ⟨o2, q2, c2⟩ := pl.typeIs (s := s)
      rw [z, q1] at q2; cases q2; rw [c1] at c2; revert c2; decide +kernel
    have hl : its.toArray.size = i := by rw [List.size_toArray, ← rv.length]; exact hx
    refine wpAny_pyNext_enum_endD (Draws.list (A := X.A.in1) (by exact (I.ok.hd hc)) it a ha_it its.toArray) he ⟨by rw [hl]; exact hit, pl⟩ fun h' eb => ⟨rfl, I.turned (t' := s.toks) (fun b o hb q => eb b o hb q) f0 f1 f3 f4 f5⟩
  self := fun A i s Q E st h => let ⟨⟨_, he⟩, _⟩ := st; wpAny_pyIter_enum he h

def ItE_t (K : PySem.W.Frag) (k0 : Int) (a : Addr) : It :=
  ⟨fun i H => ∃ (xs : List V) (x : V), SqT K H a xs ∧ xs[i]? = some x, fun i H v H' => ∃ T x o, v = .ref T ∧ H T = none ∧ o.dict = none ∧ H' = upd H T (.frz o (.tup [.int (k0 + (i : Int)), x])) ∧ ∀ xs, SqT K H a xs → xs[i]? = some x, fun i H => ∃ xs : List V, SqT K H a xs ∧ xs.length = i⟩
theorem turn_enum_t {P : Program} {w : World} {K : PySem.W.Frag} {elts : List Expr} {kk : Nat} {tpos : Pos} (k0 : Int) (a e it : Addr) :
    Turn P w K (.Tuple elts kk tpos) (ItE_t K k0 a) [e, it] e (fun i h => (∃ old, IsEnum h e it (k0 + (i : Int)) old) ∧ h.IsTupleIter it a i ∧ e ≠ it) where
  mem := by simp
  obj := fun i h st b hb => by
    obtain ⟨⟨old, he⟩, ⟨o, ho, hc, hd⟩, _⟩ := st
    have e' : b = e ∨ b = it := by simpa using hb
    rcases e' with z | z
    · rw [z]; exact ⟨_, he, fun v q => nomatch q⟩
    · rw [z]; exact ⟨o, ho, fun v q => by rw [hd] at q; cases q⟩
  keep := fun i h h' st k => let ⟨⟨old, he⟩, hi, hne⟩ := st; ⟨⟨old, k e (by simp) _ he⟩, hi.at fun o q => k it (by simp) o q, hne⟩
  item := by
    intro X hP hw hK hc i pins s σ H E I hf st hg
    subst hP hw hK
    obtain ⟨⟨old, he⟩, hit, hne⟩ := st
    obtain ⟨xs, x, hq, hx⟩ := hg
    obtain ⟨its, rv, p, hz⟩ := I.tuple hq
    obtain ⟨u, hu, ru⟩ := rv.get hx
    have hel : e < s.heap.objs.size := Heap.lt_size he
    have hil : it < s.heap.objs.size := by obtain ⟨_, q, _⟩ := hit; exact Heap.lt_size q
    have pl : s.heap.IsTuple a its.toArray := (show s.heap.IsTuple a its.toArray from p)
    have ha_it : a ≠ it := fun z => by
      obtain ⟨o1, q1, c1, _⟩ := hit
      obtain ⟨o2, q2, c2⟩ := pl.typeIs (s := s)
      rw [z, q1] at q2; cases q2; rw [c1] at c2; revert c2; decide +kernel
    have he_a : e ≠ a := fun z => by
      obtain ⟨o2, q2, c2⟩ := pl.typeIs (s := s)
      rw [← z, he] at q2; cases q2; exact absurd c2 (by show ¬ (Value.type "enumerate" = Value.type "tuple"); decide +kernel)
    have hlt : i < its.toArray.size := by
      have := (List.getElem?_eq_some_iff.mp hx).1
      rw [List.size_toArray, ← rv.length]; exact this
    refine wpAny_pyNext_enum_itemC (Draws.tuple (A := X.A.in1) (by exact (I.ok.hd hc)) it a ha_it its.toArray) he ⟨hit, pl⟩ hlt hne (by simp [hne, he_a]) fun u' h' tk hu' ho st' hT hsz hk => ?_
    have eu : u' = u := by
      have h1 : its[i]? = some u' := by simpa using hu'
      rw [hu] at h1; exact (Option.some.inj h1).symm
    subst eu
    refine ⟨_, rfl, wpAny_letOwnedTupleGo_enum (s := { s with heap := h', toks := tk + 1 }) ho fun h'' he' sb => ?_⟩
    have hT2 : h''.get? s.heap.objs.size = some { cls := .type "tuple", data := .seq #[.int (k0 + (i : Int)) tk, u'] } := (sb.2 _ (Nat.ne_of_gt hel)).trans hT
    have new : ObjOk X.prog X.w (upd H s.heap.objs.size (.frz { cls := .type "tuple", data := .seq #[.int (k0 + (i : Int)) tk, u'] } (.tup [.int (k0 + (i : Int)), x]))) h'' s.heap.objs.size (.frz { cls := .type "tuple", data := .seq #[.int (k0 + (i : Int)) tk, u'] } (.tup [.int (k0 + (i : Int)), x])) :=
      ⟨hT2, by show 2 ≤ sizeLine; decide, [.int (k0 + (i : Int)) tk, u'], .cons ⟨_, rfl⟩ (.cons ru .nil), ⟨_, hT2, rfl, _, rfl⟩⟩
    have I1 : Inv X pins σ (upd H s.heap.objs.size (.frz { cls := .type "tuple", data := .seq #[.int (k0 + (i : Int)) tk, u'] } (.tup [.int (k0 + (i : Int)), x]))) { s with heap := h'', toks := tk + 1 } :=
      I.turnedNew (ch := [e, it]) (fun b ob hb q => (sb.2 b (fun z => hb (by simp [z]))).trans (hk b ob (fun z => hb (by simp [z])) (fun z => hb (by simp [z])) q)) hf (Nat.le_refl _) new
    refine ⟨.ref s.heap.objs.size, _, I1, rfl, ⟨_, x, _, rfl, I.hok.fresh (Nat.le_refl _), rfl, rfl, fun ys hy => by rw [I.tuple_inj hy hq]; exact hx⟩, ⟨⟨u', ?_⟩, st'.1.at fun o q => (sb.2 it (Ne.symm hne)).trans q, hne⟩, fun b hb => ?_⟩
    · have e1 : k0 + ((i + 1 : Nat) : Int) = k0 + (i : Int) + 1 := by omega
      rw [e1]; exact he'
    · have hb' : b < s.heap.objs.size := by
        have e' : b = e ∨ b = it := by simpa using hb
        rcases e' with z | z
        · rw [z]; exact hel
        · rw [z]; exact hil
      rw [upd_ne (Nat.ne_of_lt hb')]
      exact (hf b hb).1
  done := by
    intro X hP hw hK hc i pins s σ H E I hf st hg
    subst hP hw hK
    obtain ⟨⟨old, he⟩, hit, hne⟩ := st
    obtain ⟨xs, hq, hx⟩ := hg
    obtain ⟨its, rv, p, hz⟩ := I.tuple hq
    obtain ⟨f0, f1, f2, f3, f4, f5⟩ := hf it (by simp)
    have pl : s.heap.IsTuple a its.toArray := (show s.heap.IsTuple a its.toArray from p)
    have ha_it : a ≠ it := fun z => by
      obtain ⟨o1, q1, c1, _⟩ := hit
      obtain ⟨o2, q2, c2⟩ := pl.typeIs (s := s)
      rw [z, q1] at q2; cases q2; rw [c1] at c2; revert c2; decide +kernel
    have hl : its.toArray.size = i := by rw [List.size_toArray, ← rv.length]; exact hx
    refine wpAny_pyNext_enum_endD (Draws.tuple (A := X.A.in1) (by exact (I.ok.hd hc)) it a ha_it its.toArray) he ⟨by rw [hl]; exact hit, pl⟩ fun h' eb => ⟨rfl, I.turned (t' := s.toks) (fun b o hb q => eb b o hb q) f0 f1 f3 f4 f5⟩
  self := fun A i s Q E st h => let ⟨⟨_, he⟩, _⟩ := st; wpAny_pyIter_enum he h

set_option maxHeartbeats 1000000 in
theorem meets_enumerate_new1B {v : Value} {o : Obj} {H : Heap → Prop} (B : Begins v o H) :
    Meets (Builtin.«enumerate.__new__» ⟨[.type "enumerate", v], []⟩) (fun _ R s => H s.heap ∧
      R (.ok (.ret (.ref (s.heap.push o).objs.size))) { s with heap := (s.heap.push o).push { cls := .type "enumerate", data := .fields #[.none, .bool false, .ref s.heap.objs.size, rawInt 0, .none, .none] } }) :=
  .of_wp fun prog w A R s h => by
    obtain ⟨hp, g, d, tk, os⟩ := s; obtain ⟨h1, h⟩ := h
    have hsub := sub_enumerate
    have q1 : ∀ {A' : Around} {E : Value → Shared → Prop} {Q : Value → Shared → Prop}, Q (.ref hp.objs.size) ⟨hp.push o, g, d, tk, os⟩ → wpAny (model prog w) A' (pyIter v) Q E ⟨hp, g, d, tk, os⟩ :=
      fun q => B.iter prog w _ _ ⟨hp, g, d, tk, os⟩ _ h1 q
    wp_walk using q1
    refine wpAny_stack_any fun st => wpAny_pure ?_
    split
    · rename_i c _ _ _ _ _
      cases (c == Value.type "enumerate")
      · wp_walk using q1
        exact ⟨_, rfl, h⟩
      · wp_walk using q1
        exact ⟨_, rfl, h⟩
    · wp_walk using q1
      exact ⟨_, rfl, h⟩
section
variable {prog : Program} {w : World} {A : Around} {E : Value → Shared → Prop} {s : Shared}
theorem enum_begins1 {v : Value} {o : Obj} {H : Heap → Prop} {Q : Value → Shared → Prop} (B : Begins v o H) (h1 : H s.heap)
    (h : ∀ h', IsEnum h' (s.heap.objs.size + 1) s.heap.objs.size 0 .none → h'.get? s.heap.objs.size = some o → h'.objs.size = s.heap.objs.size + 2 →
      (∀ b o, s.heap.get? b = some o → h'.get? b = some o) → Q (.ref (s.heap.objs.size + 1)) { s with heap := h' }) :
    wpAny (model prog w) A (call (.type "enumerate") [v]) Q E s := by
  refine callType_new F.called_enumerate (by decide) (F.typeCall_enumerate_1 _) (F.newCall_enumerate_1 _) (fun obj => F.args_object_init_2 obj _) F.entry_enumerate_new
    (meets_enumerate_new1B B) ⟨h1, ?_⟩
  have hz : (s.heap.push o).objs.size = s.heap.objs.size + 1 := Heap.size_push ..
  show _ ∧ _
  rw [hz]
  have he : IsEnum ((s.heap.push o).push { cls := .type "enumerate", data := .fields #[.none, .bool false, .ref s.heap.objs.size, rawInt 0, .none, .none] }) (s.heap.objs.size + 1) s.heap.objs.size 0 .none := by
    have := Heap.get?_push_size (s.heap.push o) (o := { cls := .type "enumerate", data := .fields #[.none, .bool false, .ref s.heap.objs.size, rawInt 0, .none, .none] }) rfl
    rw [hz] at this; exact this
  refine ⟨⟨_, he, rfl⟩, h _ he (Heap.get?_push_of_some _ (Heap.get?_push_size _ B.free)) (by rw [Heap.size_push, hz]) fun b o x => Heap.get?_push_of_some _ (Heap.get?_push_of_some _ x)⟩
end
def rEnum (K : PySem.W.Frag) (k0 : Int) (a : Addr) (H1 : Hp) (R : It → Hp → Prop) : Prop :=
  ((∃ xs, SqL K H1 a xs) ∧ R (ItE_l K k0 a) H1) ∨ ((∃ xs, SqT K H1 a xs) ∧ R (ItE_t K k0 a) H1)
def iEnum1 (K : PySem.W.Frag) (ta : TA) : TI := fun σ H R => ta σ H fun vs H1 => ∃ a, vs = [.ref a] ∧ rEnum K 0 a H1 R
def iEnum2 (K : PySem.W.Frag) (ta : TA) : TI := fun σ H R => ta σ H fun vs H1 => ∃ a k, vs = [.ref a, .int k] ∧ -(2 ^ 63) ≤ k ∧ k < 2 ^ 63 ∧ rEnum K k a H1 R
section
variable {X : Cx}
theorem enum_pie {elts : List Expr} {kk : Nat} {tpos : Pos} {pins : List (Addr × Obj)} {σ : L2.St} {H1 : Hp} {R : It → Hp → Prop} {s1 : Shared} {h' : Heap} {k0 : Int} {tk : Nat} {J : It} {ok : Nat → Heap → Prop} (I1 : Inv X pins σ H1 s1)
    (he : IsEnum h' (s1.heap.objs.size + 1) s1.heap.objs.size k0 .none) (hk : ∀ b o, s1.heap.get? b = some o → h'.get? b = some o)
    (T : Turn X.prog X.w X.K (.Tuple elts kk tpos) J [s1.heap.objs.size + 1, s1.heap.objs.size] (s1.heap.objs.size + 1) (fun i h => (∃ old, IsEnum h (s1.heap.objs.size + 1) s1.heap.objs.size (k0 + (i : Int)) old) ∧ ok i h ∧ s1.heap.objs.size + 1 ≠ s1.heap.objs.size)) (hok : ok 0 h')
    (q : R J H1) : PIE X pins σ (.Tuple elts kk tpos) R (.ref (s1.heap.objs.size + 1)) { s1 with heap := h', toks := tk } := by
  refine ⟨s1.heap.objs.size + 1, [s1.heap.objs.size + 1, s1.heap.objs.size], _, J, H1, rfl, I1.kept (t' := tk) hk, T, ⟨⟨.none, ?_⟩, hok, Nat.succ_ne_self _⟩, fun b hb => ?_, q⟩
  · have e1 : k0 + ((0 : Nat) : Int) = k0 := by simp
    rw [e1]; exact he
  · have e' : b = s1.heap.objs.size + 1 ∨ b = s1.heap.objs.size := by simpa using hb
    have hle : s1.heap.objs.size ≤ b := by
      rcases e' with z | z
      · rw [z]; exact Nat.le_add_right _ _
      · rw [z]; exact Nat.le_refl _
    exact I1.fpOk hle (I1.hok.fresh hle)
theorem pi_enum1 {e : Expr} {ta : TA} {p pos tpos : Pos} {elts : List Expr} {kk : Nat} (hg : Gl X "enumerate") (hm : X.mg "enumerate" = none) (ha : PA X [e] ta) (hs : starEach [e] X.env = [(false, eval e X.env)] := by rfl) :
    PI X (.Tuple elts kk tpos) (.Call (.Name "enumerate" p) [e] [] pos) (iEnum1 X.K ta) := by
  refine ⟨fun pins s σ H R I h => ?_⟩
  refine Call_ (ld_blt I hg hm boot_enumerate (PyProof.Rows.callWith_type1 (thn (ha.run pos pins s σ H _ I h) fun us s1 ⟨vs, H1, I1, r1, q1⟩ => ?_) hs rfl))
  obtain ⟨a, ex, q⟩ := q1
  subst ex
  cases r1 with
  | cons r rr =>
    cases rr
    cases r
    rcases q with ⟨⟨xs, hq⟩, q⟩ | ⟨⟨xs, hq⟩, q⟩
    · obtain ⟨its, rv, p', hz⟩ := I1.list hq
      refine enum_begins1 (begins_list a its.toArray) p'.isList fun h' he ho hsz hk => wpAny_pyIter_enum he ?_
      exact enum_pie (k0 := 0) (ok := fun i h => h.IsListIter s1.heap.objs.size a i) I1 he hk (turn_enum_l 0 a _ _) ⟨_, ho, rfl, rfl⟩ q
    · obtain ⟨its, rv, p', hz⟩ := I1.tuple hq
      refine enum_begins1 (begins_tuple a its.toArray) (show s1.heap.IsTuple a its.toArray from p') fun h' he ho hsz hk => wpAny_pyIter_enum he ?_
      exact enum_pie (k0 := 0) (ok := fun i h => h.IsTupleIter s1.heap.objs.size a i) I1 he hk (turn_enum_t 0 a _ _) ⟨_, ho, rfl, rfl⟩ q
end
end Pu
set_option Elab.async false
set_option linter.all false
set_option maxRecDepth 100000
set_option maxHeartbeats 2000000
set_option autoImplicit false
namespace Pu
open PySem L2
def Sub (G G' : Gp) : Prop := ∀ a g, G a = some g → G' a = some g
def ItD (C : Ctx) (G' : Gp) (J : It) (ds : List D) : Prop :=
  ∃ (Gd : Hp → Prop) (Y : Nat → Hp → V → Hp → Prop), Walk J ds.length Gd Y ∧ (∀ (G1 : Gp) (H1 : Hp), Sub G' G1 → Ok G1 H1 → Gd H1) ∧
    ∀ (i : Nat) (G1 : Gp) (H1 : Hp) (x : V) (H2 : Hp), i < ds.length → Sub G' G1 → Ok G1 H1 → Y i H1 x H2 → ∃ d G2, ds[i]? = some d ∧ Ext G1 H1 G2 H2 ∧ R C G2 x d
structure LI (X : Cx) (E : St → XK) (tg iter : Expr) (wi : TI) (pi : PLx) : Prop where
  py : PI X tg iter wi
  le : ∀ {δ : Dl} {σ : St} {G : Gp} {H H0 : Hp} {Q : It → Hp → Prop} {P : List D → Prop} {P2 : Exn → Prop}, Ok G H → SRel (cx X) H0 G H σ δ → EOk (cx X) G H (E σ) P2 → pi δ P P2 →
    (∀ J ds G' H', Ext G H G' H' → ItD (cx X) G' J ds → P ds → Q J H') → wi σ H Q
def rangeD (lo : Int) (n : Nat) : List D := (List.range n).map fun (i : Nat) => D.int (lo + i)
theorem rangeD_len {lo : Int} {n : Nat} : (rangeD lo n).length = n := by unfold rangeD; rw [List.length_map, List.length_range]
theorem rangeD_get {lo : Int} {n i : Nat} (h : i < n) : (rangeD lo n)[i]? = some (.int (lo + i)) := by
  unfold rangeD
  rw [List.getElem?_map, List.getElem?_range h]
  rfl
def enumD : Int → List D → List D
  | _, [] => []
  | k, d :: ds => .tup [.int k, d] :: enumD (k + 1) ds
theorem enumD_len : ∀ (k : Int) (ds : List D), (enumD k ds).length = ds.length
  | _, [] => rfl
  | k, d :: ds => by unfold enumD; rw [List.length_cons, List.length_cons, enumD_len]
theorem enumD_get : ∀ (k : Int) (ds : List D) (i : Nat) (d : D), ds[i]? = some d → (enumD k ds)[i]? = some (.tup [.int (k + i), d])
  | _, [], i, d, h => by simp at h
  | k, e :: ds, 0, d, h => by
    have : e = d := Option.some.inj h
    subst this
    show some (D.tup [.int k, e]) = _
    simp
  | k, e :: ds, i + 1, d, h => by
    have ih := enumD_get (k + 1) ds i d (by simpa using h)
    have e1 : k + 1 + (i : Int) = k + ((i + 1 : Nat) : Int) := by omega
    rw [e1] at ih
    exact ih
section
variable {C : Ctx} {G : Gp} {a : Addr} {xs : List V} {ds : List D}
theorem itd_list (h : LkG G a xs) (r : RAll C G xs ds) : ItD C G (Itl C.K a) ds := by
  refine ⟨_, _, by rw [← r.length]; exact walk_list (K := C.K) (a := a) (xs := xs), fun G1 H1 k ok => SqL.of (ok.lk (h.mono k)), fun i G1 H1 x H2 _ k ok y => ?_⟩
  obtain ⟨rfl, hx⟩ := y
  obtain ⟨d, hd, rd⟩ := r.getV hx
  exact ⟨d, G1, hd, .refl ok, rd.mono k⟩
theorem itd_tup (h : TpG C G a xs) (r : RAll C G xs ds) : ItD C G (Itt C.K a) ds := by
  refine ⟨_, _, by rw [← r.length]; exact walk_tup (K := C.K) (a := a) (xs := xs), fun G1 H1 k ok => (h.mono k).seq ok, fun i G1 H1 x H2 _ k ok y => ?_⟩
  obtain ⟨rfl, hx⟩ := y
  obtain ⟨d, hd, rd⟩ := r.getV hx
  exact ⟨d, G1, hd, .refl ok, rd.mono k⟩
theorem itd_range {lo : Int} {n : Nat} : ItD C G (Itr lo n) (rangeD lo n) := by
  refine ⟨_, _, by rw [rangeD_len]; exact walk_range (lo := lo) (n := n), fun _ _ _ _ => trivial, fun i G1 H1 x H2 hi k ok y => ?_⟩
  rw [rangeD_len] at hi
  obtain ⟨rfl, rfl⟩ := y
  exact ⟨_, G1, rangeD_get hi, .refl ok, .int _⟩
theorem pair_new {C : Ctx} {G1 : Gp} {H1 : Hp} {T : Addr} {o : Obj} {k : Int} {x : V} {d : D} (ok : Ok G1 H1) (hT : H1 T = none) (ho : o.dict = none) (r : R C G1 x d) :
    ∃ G2, Ext G1 H1 G2 (upd H1 T (.frz o (.tup [.int k, x]))) ∧ R C G2 (.ref T) (.tup [.int k, d]) :=
  ⟨_, Ext.newT ok hT ho (.cons (.int k) (.cons r .nil))⟩
theorem itd_enum_l {k0 : Int} (h : LkG G a xs) (r : RAll C G xs ds) : ItD C G (ItE_l C.K k0 a) (enumD k0 ds) := by
  have hl : (enumD k0 ds).length = xs.length := by rw [enumD_len, r.length]
  refine ⟨fun H => SqL C.K H a xs, fun i H v H' => ∃ T x o, v = .ref T ∧ H T = none ∧ o.dict = none ∧ H' = upd H T (.frz o (.tup [.int (k0 + (i : Int)), x])) ∧ xs[i]? = some x, ⟨fun i H hi q => ⟨xs, xs[i]'(by omega), q, by simp [show i < xs.length by omega]⟩, fun H q => ⟨xs, q, hl.symm⟩,
    fun i H x H' hi q ⟨T, y, o, h1, h2, h5, h3, h4⟩ => ⟨T, y, o, h1, h2, h5, h3, h4 xs q⟩⟩, fun G1 H1 k ok => SqL.of (ok.lk (h.mono k)), fun i G1 H1 x H2 hi k ok y => ?_⟩
  obtain ⟨T, y, ob, rfl, hT, ho, rfl, hy⟩ := y
  obtain ⟨d, hd, rd⟩ := r.getV hy
  obtain ⟨G2, e2, r2⟩ := pair_new (k := k0 + (i : Int)) ok hT ho (rd.mono k)
  exact ⟨_, G2, enumD_get _ _ _ _ hd, e2, r2⟩
theorem itd_enum_t {k0 : Int} (h : TpG C G a xs) (r : RAll C G xs ds) : ItD C G (ItE_t C.K k0 a) (enumD k0 ds) := by
  have hl : (enumD k0 ds).length = xs.length := by rw [enumD_len, r.length]
  refine ⟨fun H => SqT C.K H a xs, fun i H v H' => ∃ T x o, v = .ref T ∧ H T = none ∧ o.dict = none ∧ H' = upd H T (.frz o (.tup [.int (k0 + (i : Int)), x])) ∧ xs[i]? = some x, ⟨fun i H hi q => ⟨xs, xs[i]'(by omega), q, by simp [show i < xs.length by omega]⟩, fun H q => ⟨xs, q, hl.symm⟩,
    fun i H x H' hi q ⟨T, y, o, h1, h2, h5, h3, h4⟩ => ⟨T, y, o, h1, h2, h5, h3, h4 xs q⟩⟩, fun G1 H1 k ok => (h.mono k).seq ok, fun i G1 H1 x H2 hi k ok y => ?_⟩
  obtain ⟨T, y, ob, rfl, hT, ho, rfl, hy⟩ := y
  obtain ⟨d, hd, rd⟩ := r.getV hy
  obtain ⟨G2, e2, r2⟩ := pair_new (k := k0 + (i : Int)) ok hT ho (rd.mono k)
  exact ⟨_, G2, enumD_get _ _ _ _ hd, e2, r2⟩
end
def iSeq (K : PySem.W.Frag) (te : TE) : TI := fun σ H R => te σ H fun x H1 => ∃ a, x = .ref a ∧ (((∃ xs, SqL K H1 a xs) ∧ R (Itl K a) H1) ∨ ((∃ xs, SqT K H1 a xs) ∧ R (Itt K a) H1))
section
variable {X : Cx} {E : St → XK}
theorem pi_seq {tg l : Expr} {tl : TE} (hl : PE X l tl) : PI X tg l (iSeq X.K tl) := by
  refine ⟨fun pins s σ H R I h => ?_⟩
  refine thn (hl.run pins s σ H _ I h) fun v s1 ⟨x, H1, I1, r1, q1⟩ => ?_
  obtain ⟨a, e, q⟩ := q1
  subst e
  cases r1
  rcases q with ⟨⟨xs, hq⟩, q⟩ | ⟨⟨xs, hq⟩, q⟩
  · obtain ⟨its, rv, p, hz⟩ := I1.list hq
    refine wpAny_pyIter_list p.isList ?_
    refine ⟨s1.heap.objs.size, [s1.heap.objs.size], _, _, H1, rfl, I1.kept (t' := s1.toks) fun b o e => Heap.get?_push_of_some _ e, turn_list a _, ⟨_, Heap.get?_push_size _ rfl, rfl, rfl⟩, fun b hb => ?_, q⟩
    have e : b = s1.heap.objs.size := by simpa using hb
    subst e
    exact I1.fpOk (Nat.le_refl _) (I1.hok.fresh (Nat.le_refl _))
  · obtain ⟨its, rv, p, hz⟩ := I1.tuple hq
    refine wpAny_pyIter_tuple (show s1.heap.IsTuple a its.toArray from p) ?_
    refine ⟨s1.heap.objs.size, [s1.heap.objs.size], _, _, H1, rfl, I1.kept (t' := s1.toks) fun b o e => Heap.get?_push_of_some _ e, turn_tuple a _, ⟨_, Heap.get?_push_size _ rfl, rfl, rfl⟩, fun b hb => ?_, q⟩
    have e : b = s1.heap.objs.size := by simpa using hb
    subst e
    exact I1.fpOk (Nat.le_refl _) (I1.hok.fresh (Nat.le_refl _))
def pItems (pe : PX) : PLx := fun δ P P2 => pe δ (fun d => match itemsD d with | some ds => P ds | none => False) P2
theorem R.items {C : Ctx} {G : Gp} {v : V} {d : D} {ds : List D} (r : R C G v d) (e : itemsD d = some ds) : ∃ a xs, v = .ref a ∧ (LkG G a xs ∨ TpG C G a xs) ∧ RAll C G xs ds := by
  unfold itemsD at e
  split at e
  · cases e
    cases r with
    | lst h r => exact ⟨_, _, rfl, .inl (.inl h), r⟩
  · cases e
    cases r with
    | vw h r => exact ⟨_, _, rfl, .inl (.inr h), r⟩
  · cases e
    cases r with
    | tup h r => exact ⟨_, _, rfl, .inr h, r⟩
  · cases e
theorem li_seq {tg l : Expr} {tl : TE} {pe : PX} (hl : LX X E l tl pe) : LI X E tg l (iSeq X.K tl) (pItems pe) := by
  refine ⟨pi_seq hl.py, fun {δ σ G H H0 Q P P2} k s x p q => hl.le k s x p fun v d G' H' y r p' => ?_⟩
  split at p'
  · rename_i ds e
    obtain ⟨a, xs, rfl, h, r⟩ := r.items e
    refine ⟨a, rfl, ?_⟩
    rcases h with h | h
    · exact .inl ⟨⟨xs, SqL.of (y.ok.lk h)⟩, q _ ds _ _ y (itd_list h r) p'⟩
    · exact .inr ⟨⟨xs, h.seq y.ok⟩, q _ ds _ _ y (itd_tup h r) p'⟩
  · exact p'.elim
def pEnum (k0 : Int) (pe : PX) : PLx := fun δ P P2 => pe δ (fun d => match itemsD d with | some ds => P (enumD k0 ds) | none => False) P2
theorem li_enum1 {e : Expr} {te : TE} {pe : PX} {p pos tpos : Pos} {elts : List Expr} {kk : Nat} (hg : Gl X "enumerate") (hm : X.mg "enumerate" = none) (he : LX X E e te pe) (hs : starEach [e] X.env = [(false, eval e X.env)] := by rfl) :
    LI X E (.Tuple elts kk tpos) (.Call (.Name "enumerate" p) [e] [] pos) (iEnum1 X.K (tCons te tNil)) (pEnum 0 pe) := by
  refine ⟨pi_enum1 hg hm (pa_cons he.py pa_nil hs) hs, fun {δ σ G H H0 Q P P2} k s x p q => he.le k s x p fun v d G' H' y r p' => ?_⟩
  split at p'
  · rename_i ds e
    obtain ⟨a, xs, rfl, h, r⟩ := r.items e
    refine ⟨a, rfl, ?_⟩
    rcases h with h | h
    · exact .inl ⟨⟨xs, SqL.of (y.ok.lk h)⟩, q _ _ _ _ y (itd_enum_l h r) p'⟩
    · exact .inr ⟨⟨xs, h.seq y.ok⟩, q _ _ _ _ y (itd_enum_t h r) p'⟩
  · exact p'.elim
def b62 (i : Int) : Prop := -(2 ^ 62) ≤ i ∧ i < 2 ^ 62
def pRange1 (pe : PX) : PLx := fun δ P P2 => pe δ (fun d => match d with | .int j => b62 j ∧ P (rangeD 0 j.toNat) | _ => False) P2
def pRange2 (pe pf : PX) : PLx := fun δ P P2 => pe δ (fun d => pf δ (fun e => match d, e with | .int i, .int j => b62 i ∧ b62 j ∧ P (rangeD i (j - i).toNat) | _, _ => False) P2) P2
theorem R.intR {C : Ctx} {G : Gp} {v : V} {i : Int} (r : R C G v (.int i)) : v = .int i := by cases r; rfl
theorem li_range1 {tg e : Expr} {te : TE} {pe : PX} {p pos : Pos} (hg : Gl X "range") (hm : X.mg "range" = none) (he : LX X E e te pe) (hs : starEach [e] X.env = [(false, eval e X.env)] := by rfl) :
    LI X E tg (.Call (.Name "range" p) [e] [] pos) (iRng1 (tCons te tNil)) (pRange1 pe) := by
  refine ⟨pi_range1 hg hm (pa_cons he.py pa_nil hs) hs, fun {δ σ G H H0 Q P P2} k s x p q => he.le k s x p fun v d G' H' y r p' => ?_⟩
  split at p'
  · obtain rfl := r.intR
    exact ⟨_, rfl, p'.1.1, p'.1.2, q _ _ _ _ y itd_range p'.2⟩
  · exact p'.elim
abbrev PG' := D → Dl → (Dl → Prop) → Prop
def pForL (pg : PG') (body : PSx) (P : PEnds) : List D → Dl → Prop
  | [], δ => P.nx δ
  | d :: ds, δ => pg d δ fun δ' => body { P with nx := pForL pg body P ds, ct := pForL pg body P ds, bk := P.nx } δ'
def pFor (pi : PLx) (pg : PG') (body : PSx) : PSx := fun P δ => pi δ (fun ds => pForL pg body P ds δ) (P.ex δ)
theorem Stt.rebase {C : Ctx} {G0 G' : Gp} {H0 H' : Hp} {σ : St} {δ : Dl} (t : Stt C G0 H0 σ δ G' H') : ∃ Hb, Stt C G' Hb σ δ G' H' ∧ (∀ {G H}, Ext G' Hb G H → Ext G0 H0 G H) ∧ ∀ {σ δ G H}, Stt C G' Hb σ δ G H → Stt C G0 H0 σ δ G H := by
  classical
  let Hb : Hp := fun a => if (G' a).isSome ∨ (H0 a).isSome then H' a else none
  have ext : ∀ {G H}, Ext G' Hb G H → Ext G0 H0 G H := fun {G H} x => ⟨fun a g h => x.g a g (t.ext.g a g h), x.ok, fun a o h g => by
    obtain ⟨h1, g1⟩ := t.ext.h a o h g
    exact x.h a o (by show (if _ then H' a else none) = _; rw [if_pos (.inr (by rw [h]; rfl))]; exact h1) g1⟩
  have nn : ∀ a, Hb a = none → H0 a = none := fun a h => by
    cases e : H0 a with
    | none => rfl
    | some o =>
      have e2 : Hb a = H' a := if_pos (.inr (by rw [e]; rfl))
      rw [h] at e2
      have := t.ext.back e2.symm
      rw [e] at this; cases this
  refine ⟨Hb, ⟨⟨fun _ _ h => h, t.ok, fun a o h g => ⟨?_, g⟩⟩, ⟨t.sr.len, fun i s h => ?_, t.sr.apart, t.sr.apT⟩⟩, ext, fun {σ δ G H} u => ⟨ext u.ext, ⟨u.sr.len, fun i s h => ?_, u.sr.apart, u.sr.apT⟩⟩⟩
  · have h' : (if (G' a).isSome ∨ (H0 a).isSome then H' a else none) = some o := h
    split at h'
    · exact h'
    · cases h'
  · obtain ⟨v, e, r⟩ := t.sr.at_ i s h
    refine ⟨v, e, ?_⟩
    cases r with
    | d r => exact .d r
    | own ha hx gx nx rx => exact .own ha hx gx (if_neg (by rw [gx, nx]; simp)) rx
    | slf m hx gx nx rx l => exact .slf m hx gx (if_neg (by rw [gx, nx]; simp)) rx l
    | exc r => exact .exc r
    | tree t1 t2 r => exact .tree t1 (fun a pa => let ⟨n1, n2, n3⟩ := t2 a pa; ⟨if_neg (by rw [n2, n1]; simp), n2, n3⟩) r
  · obtain ⟨v, e, r⟩ := u.sr.at_ i s h
    refine ⟨v, e, ?_⟩
    cases r with
    | d r => exact .d r
    | own ha hx gx nx rx => exact .own ha hx gx (nn _ nx) rx
    | slf m hx gx nx rx l => exact .slf m hx gx (nn _ nx) rx l
    | exc r => exact .exc r
    | tree t1 t2 r => exact .tree t1 (fun a pa => let ⟨n1, n2, n3⟩ := t2 a pa; ⟨nn _ n1, n2, n3⟩) r
theorem ls_for {tg iter : Expr} {body : List Stmt} {wi : TI} {g : TG} {tb : TS} {pi : PLx} {pg : PG'} {pb : PSx} {js : List Nat} {pos : Pos} (hp : PassesOwn (model X.prog X.w) X.A X.env X.xe) (hc : X.calm = true) (hi : LI X E tg iter wi pi) (hg : LG X tg g pg js) (hb : LSs X E body tb pb)
    (hs : ∀ x, foldedSetIterable iter X.env x = pure x := by intro _; rfl) : LS X E (.For tg iter body [] pos) (tFor wi g tb) (pFor pi pg pb) := by
  refine ⟨ps_for hp hc hi.py hg.py hb.py hs, fun {G0 H0 Dn P δ σ G H} e t p => hi.le t.ok t.sr (e.ex t) p fun J ds G' H' y it q => ?_⟩
  have t1 : Stt (cx X) G0 H0 σ δ G' H' := t.step y
  obtain ⟨Hb, t2, xb, back⟩ := t1.rebase
  obtain ⟨Gd, Y, w, gd, yy⟩ := it
  refine for_it w (fun i σ H => ∃ δ G, Stt (cx X) G' Hb σ δ G H ∧ pForL pg pb P (ds.drop i) δ) ⟨δ, G', t2, q⟩ (fun i σ H _ ⟨δ, G, u, _⟩ => gd G H u.ext.g u.ok) (fun i x σ1 H1 H2 hi' ⟨δ1, G1, u, q1⟩ hy => ?_) fun σ1 H1 ⟨δ1, G1, u, q1⟩ => ?_
  · obtain ⟨d, G2, hd, x2, r2⟩ := yy i G1 H1 x H2 hi' u.ext.g u.ok hy
    have ed : ds.drop i = d :: ds.drop (i + 1) := by
      obtain ⟨hlt, hd'⟩ := List.getElem?_eq_some_iff.mp hd
      rw [← hd']; exact List.drop_eq_getElem_cons hlt
    rw [ed] at q1
    have u2 := u.step x2
    refine hg.le x2.ok u2.sr r2 q1 fun σ3 δ3 s3 _ q3 => ?_
    exact hb.le (P := { P with nx := pForL pg pb P (ds.drop (i + 1)), ct := pForL pg pb P (ds.drop (i + 1)), bk := P.nx }) ⟨fun {σ δ G H} u' q' => ⟨δ, G, u', q'⟩, fun {σ δ v d G H} u' r' q' => e.rt (back u') r' q', fun {σ δ G H} u' q' => e.nx (back u') q', fun {σ δ G H} u' q' => ⟨δ, G, u', q'⟩, fun {σ δ G H} u' => e.ex (back u')⟩ ⟨u2.ext, s3⟩ q3
  · rw [List.drop_length] at q1
    exact e.nx (back u) q1
def teOf (C : Ctx) (E : St → XK) (pe : PX) : TE := fun σ H Q => ∃ (δ : Dl) (G : Gp) (H0 : Hp) (P : D → Prop) (P2 : Exn → Prop), Ok G H ∧ SRel C H0 G H σ δ ∧ EOk C G H (E σ) P2 ∧ pe δ P P2 ∧ ∀ v d G' H', Ext G H G' H' → R C G' v d → P d → Q v H'
def ttOf (C : Ctx) (E : St → XK) (pt : PTx) : TT := fun σ H Q => ∃ (δ : Dl) (G : Gp) (H0 : Hp) (P : Bool → Prop) (P2 : Exn → Prop), Ok G H ∧ SRel C H0 G H σ δ ∧ EOk C G H (E σ) P2 ∧ pt δ P P2 ∧ ∀ b G' H', Ext G H G' H' → P b → Q b H'
def gOf (C : Ctx) (pg : PG') (js : List Nat) : TG := fun v σ H Q => ∃ (δ : Dl) (G : Gp) (H0 : Hp) (d : D) (P : Dl → Prop), Ok G H ∧ SRel C H0 G H σ δ ∧ R C G v d ∧ pg d δ P ∧ ∀ σ' δ', SRel C H0 G H σ' δ' → Out js σ σ' → P δ' → Q σ' H
def tsOf (C : Ctx) (E : St → XK) (ps : PSx) : TS := fun Dn σ H => ∃ (G0 : Gp) (H0 : Hp) (P : PEnds) (δ : Dl) (G : Gp), EndsR C G0 H0 E Dn P ∧ Stt C G0 H0 σ δ G H ∧ ps P δ
theorem LX.sem {e : Expr} {te : TE} {pe : PX} (h : LX X E e te pe) : LX X E e (teOf (cx X) E pe) pe :=
  ⟨⟨fun pins s σ H Q I ⟨δ, G, H0, P, P2, k, r, x, p, q⟩ => h.py.run pins s σ H Q I (h.le k r x p q)⟩, fun k s x p q => ⟨_, _, _, _, _, k, s, x, p, q⟩⟩
theorem LG.sem {tg : Expr} {g : TG} {pg : PG'} {js : List Nat} (h : LG X tg g pg js) : LG X tg (gOf (cx X) pg js) pg js :=
  ⟨⟨fun pins s σ H v u Q I rv ⟨δ, G, H0, d, P, k, r, rd, p, q⟩ => h.py.run pins s σ H v u Q I rv (h.le k r rd p q)⟩, fun k s r p q => ⟨_, _, _, _, _, k, s, r, p, q⟩⟩
theorem LSs.sem {st : List Stmt} {t : TS} {ps : PSx} (h : LSs X E st t ps) : LSs X E st (tsOf (cx X) E ps) ps :=
  ⟨⟨fun pins s σ H D I ⟨G0, H0, P, δ, G, e, r, p⟩ => h.py.run pins s σ H D I (h.le e r p)⟩, fun e t p => ⟨_, _, _, _, _, e, t, p⟩⟩
theorem wipe_wipe {σ : St} {vs : List Nat} : wipe (wipe σ vs) vs = wipe σ vs := by
  apply List.ext_getElem?
  intro i
  by_cases m : i ∈ vs
  · rw [wipe_at m, wipe_at m, wipe_length]
  · rw [wipe_out m]
structure LTs (X : Cx) (E : St → XK) (ifs : List Expr) (tt : TT) (pt : PTx) : Prop where
  py : PTs X ifs tt
  le : ∀ {δ : Dl} {σ : St} {G : Gp} {H H0 : Hp} {Q : Bool → Hp → Prop} {P : Bool → Prop} {P2 : Exn → Prop}, Ok G H → SRel (cx X) H0 G H σ δ → EOk (cx X) G H (E σ) P2 → pt δ P P2 →
    (∀ b G' H', Ext G H G' H' → P b → Q b H') → tt σ H Q
theorem LTs.sem {ifs : List Expr} {tt : TT} {pt : PTx} (h : LTs X E ifs tt pt) : LTs X E ifs (ttOf (cx X) E pt) pt :=
  ⟨⟨fun pins s σ H Q I ⟨δ, G, H0, P, P2, k, r, x, p, q⟩ => h.py.run pins s σ H Q I (h.le k r x p q)⟩, fun k s x p q => ⟨_, _, _, _, _, k, s, x, p, q⟩⟩
def pYes : PTx := fun _ P _ => P true
theorem lts_nil : LTs X E [] tYes pYes := ⟨pts_nil, fun k s x p q => q _ _ _ (.refl k) p⟩
theorem lts_one {c : Expr} {tt : TT} {pt : PTx} (h : LT X E c tt pt) : LTs X E [c] tt pt := ⟨pts_one h.py, h.le⟩
abbrev E0S : St → XK := fun _ _ _ _ => False
theorem eok0 {C : Ctx} {G : Gp} {H : Hp} {σ : St} : EOk C G H (E0S σ) (fun _ => False) := fun _ _ _ _ _ _ _ p => p
def pLcL (pg : PG') (pt : PTx) (pe : PX) (δw : Dl) (P : D → Prop) : List D → List D → Prop
  | [], es => P (.lst es)
  | d :: ds, es => pg d δw fun δ' => pt δ' (fun b => if b = true then pe δ' (fun y => es.length < szl ∧ pLcL pg pt pe δw P ds (es ++ [y])) (fun _ => False) else pLcL pg pt pe δw P ds es) fun _ => False
def pLc (pi : PLx) (pg : PG') (pt : PTx) (pe : PX) (vs : List Nat) : PX := fun δ P P2 => pi δ (fun ds => pLcL pg pt pe (wipeD δ vs) P ds []) P2
theorem lc_le {tg iter elt : Expr} {ifs : List Expr} {wi : TI} {g : TG} {tt : TT} {te : TE} {pi : PLx} {pg : PG'} {pt : PTx} {pe : PX} {js vs : List Nat} {X1 : Cx} (hX : cx X1 = cx X) (hi : LI X E tg iter wi pi) (hg : LG X1 tg g pg js) (ht : LTs X1 E0S ifs tt pt) (he : LX X1 E0S elt te pe) (hj : ∀ i ∈ js, i ∈ vs)
    {δ : Dl} {σ : St} {G : Gp} {H H0 : Hp} {Q : VK} {P : D → Prop} {P2 : Exn → Prop} (k : Ok G H) (s : SRel (cx X) H0 G H σ δ) (x : EOk (cx X) G H (E σ) P2) (p : pLc pi pg pt pe vs δ P P2)
    (q : ∀ p xs ds G' H', Ext G H G' H' → H p = none → H' p = some (.lst xs) → G' p = none → RAll (cx X) G' xs ds → P (.lst ds) → Q (.ref p) H') : tLc wi g tt te vs σ H Q := by
  refine hi.le k s x p fun J ds G' H' y it q1 => ?_
  intro A hA
  obtain ⟨Gd, Y, w, gd, yy⟩ := it
  have sw : SRel (cx X) H0 G' H' (wipe σ vs) (wipeD δ vs) := (s.ext y).wipe vs
  refine lc_it w (fun i H1 => ∃ G1 acc es, Ext G' H' G1 H1 ∧ H1 A = some (.lst acc) ∧ G1 A = none ∧ RAll (cx X) G1 acc es ∧ pLcL pg pt pe (wipeD δ vs) P (ds.drop i) es) ⟨G', [], [], Ext.new y.ok hA, upd_same, y.ok.none_of hA, .nil, q1⟩
    (fun i H1 _ ⟨G1, acc, es, x1, h1, g1, r1, q1⟩ => gd G1 H1 x1.g x1.ok) (fun i v H1 H2 hi' ⟨G1, acc, es, x1, h1, g1, r1, q1⟩ hy => ?_) fun H1 ⟨G1, acc, es, x1, h1, g1, r1, q1⟩ => ?_
  · obtain ⟨d, G2, hd, x2, r2⟩ := yy i G1 H1 v H2 hi' x1.g x1.ok hy
    have ed : ds.drop i = d :: ds.drop (i + 1) := by
      obtain ⟨hlt, hd'⟩ := List.getElem?_eq_some_iff.mp hd
      rw [← hd']; exact List.drop_eq_getElem_cons hlt
    rw [ed] at q1
    have x12 := x1.trans x2
    obtain ⟨h2, g2⟩ := x2.h _ _ h1 g1
    refine hg.le (H0 := H0) x2.ok (by rw [hX]; exact sw.ext x12) (by rw [hX]; exact r2) q1 fun σ3 δ3 s3 o3 q3 => ⟨o3.wipe hj |>.trans (by rw [wipe_wipe]), ?_⟩
    refine ht.le (H0 := H0) x2.ok s3 eok0 q3 fun b G3 H3 x3 q4 => ?_
    obtain ⟨h3, g3⟩ := x3.h _ _ h2 g2
    split at q4
    · rename_i eb
      rw [if_pos eb]
      refine he.le x3.ok (s3.ext x3) eok0 q4 fun u d' G4 H4 x4 r4 q5 => ?_
      obtain ⟨h4, g4⟩ := x4.h _ _ h3 g3
      have x14 : Ext G' H' G4 H4 := (x12.trans x3).trans x4
      rw [hX] at r4
      have r1' := (r1.mono (((x2.trans x3).trans x4).g))
      refine ⟨acc, h4, by rw [r1.length, sizeLine_eq]; exact q5.1, G4, acc ++ [u], es ++ [d'], x14.write hA g4, upd_same, g4, r1'.append (.one r4), q5.2⟩
    · rename_i eb
      rw [if_neg eb]
      exact ⟨G3, acc, es, x12.trans x3, h3, g3, r1.mono ((x2.trans x3).g), q4⟩
  · rw [List.drop_length] at q1
    exact q A acc es G1 H1 (y.trans x1) (y.back hA) h1 g1 r1 q1

section
variable {elt tg iter : Expr} {ifs : List Expr} {scope : Scope} {own : List (Str × Nat)} {pos : Pos} {wi : TI} {g : TG} {tt : TT} {te : TE} {pi : PLx} {pg : PG'} {pt : PTx} {pe : PX} {js : List Nat}
theorem lo_lc (hc : X.calm = true) (hN : X.N.Nodup) (hi : LI X E tg iter wi pi) (ok : BlkOk X.N X.env.scope scope own)
    (hg : ∀ (s : Shared) (H : Hp) (C : Addr) (cl : List (Str × Addr)) (fp : List Addr), ∃ g, LG (X.blk s H scope (compEnvC scope cl C X.env) fp) tg g pg js)
    (ht : ∀ (s : Shared) (H : Hp) (C : Addr) (cl : List (Str × Addr)) (fp : List Addr), ∃ tt, LTs (X.blk s H scope (compEnvC scope cl C X.env) fp) E0S ifs tt pt)
    (he : ∀ (s : Shared) (H : Hp) (C : Addr) (cl : List (Str × Addr)) (fp : List Addr), ∃ te, LX (X.blk s H scope (compEnvC scope cl C X.env) fp) E0S elt te pe)
    (hj : ∀ i ∈ js, i ∈ own.map (·.2)) (hs : ∀ x, foldedSetIterable iter X.env x = pure x := by intro _; rfl) :
    LO X E (.ListComp elt [⟨tg, iter, ifs, 0⟩] scope pos) (tLc wi (gOf (cx X) pg js) (ttOf (cx X) E0S pt) (teOf (cx X) E0S pe) (own.map (·.2))) (pLc pi pg pt pe (own.map (·.2))) :=
  ⟨pe_lc hc hN hi.py ok (fun s H C cl fp => let ⟨_, h⟩ := hg s H C cl fp; h.sem.py) (fun s H C cl fp => let ⟨_, h⟩ := ht s H C cl fp; h.sem.py) (fun s H C cl fp => let ⟨_, h⟩ := he s H C cl fp; h.sem.py) hs,
    fun {δ σ G H H0 Q P P2} k s x p q => lc_le (X := X) (X1 := X.blk ({} : Shared) H scope (compEnvC scope [] 0 X.env) []) rfl hi (Classical.choose_spec (hg _ _ _ _ _)).sem (Classical.choose_spec (ht _ _ _ _ _)).sem (Classical.choose_spec (he _ _ _ _ _)).sem hj k s x p q⟩

theorem ls_setLc (i : Nat) {y : Str} {py spos : Pos} (hc : X.calm = true) (hN : X.N.Nodup) (hi : LI X E tg iter wi pi) (ok : BlkOk X.N X.env.scope scope own)
    (hg : ∀ (s : Shared) (H : Hp) (C : Addr) (cl : List (Str × Addr)) (fp : List Addr), ∃ g, LG (X.blk s H scope (compEnvC scope cl C X.env) fp) tg g pg js)
    (ht : ∀ (s : Shared) (H : Hp) (C : Addr) (cl : List (Str × Addr)) (fp : List Addr), ∃ tt, LTs (X.blk s H scope (compEnvC scope cl C X.env) fp) E0S ifs tt pt)
    (he : ∀ (s : Shared) (H : Hp) (C : Addr) (cl : List (Str × Addr)) (fp : List Addr), ∃ te, LX (X.blk s H scope (compEnvC scope cl C X.env) fp) E0S elt te pe)
    (hj : ∀ i ∈ js, i ∈ own.map (·.2)) (hy : X.N[i]? = some y := by rfl) (hyl : X.env.scope.names.lookup y = some .local := by rfl) (hsw : swapsWith (.ListComp elt [⟨tg, iter, ifs, 0⟩] scope pos) (some (.Name y py)) spos.line X.env = pure true := by exact sw_true rfl rfl rfl (by decide +kernel))
    (hs : ∀ x, foldedSetIterable iter X.env x = pure x := by intro _; rfl) :
    LS X E (.Assign [.Name y py] (.ListComp elt [⟨tg, iter, ifs, 0⟩] scope pos) spos) (tAsg (tLc wi (gOf (cx X) pg js) (ttOf (cx X) E0S pt) (teOf (cx X) E0S pe) (own.map (·.2))) (gName i)) (pAsg (pLc pi pg pt pe (own.map (·.2))) i) :=
  ⟨ps_setLc hc hN hy hyl hsw hi.py ok (fun s H C cl fp => let ⟨_, h⟩ := hg s H C cl fp; h.sem.py) (fun s H C cl fp => let ⟨_, h⟩ := ht s H C cl fp; h.sem.py) (fun s H C cl fp => let ⟨_, h⟩ := he s H C cl fp; h.sem.py) hs,
    fun {G0 H0 Dn P δ σ G H} e t p => lc_le (X := X) (X1 := X.blk ({} : Shared) H scope (compEnvC scope [] 0 X.env) []) rfl hi (Classical.choose_spec (hg _ _ _ _ _)).sem (Classical.choose_spec (ht _ _ _ _ _)).sem (Classical.choose_spec (he _ _ _ _ _)).sem hj t.ok t.sr (e.ex t) p
      fun l xs ds G' H' y hn hp gp r q => by
        have x2 := y.share hn hp gp
        exact e.nx ⟨t.ext.trans x2, (t.sr.ext x2).setD (.lst updG_same (r.mono (updG_keep gp)))⟩ q⟩
end
end
end Pu
set_option Elab.async false
set_option linter.all false
set_option maxRecDepth 100000
set_option maxHeartbeats 2000000
set_option autoImplicit false
namespace Pu
open PySem PySem.Spec L2
def liftSp (C : Ctx) (p : PSp) (n : Nat) : Sp := fun vs H Q E => vs.length = n ∧ ∃ (G : Gp) (ds : List D) (P : D → Prop) (P2 : Exn → Prop), Ok G H ∧ RAll C G vs ds ∧ p ds P P2 ∧
  (∀ v d G' H', Ext G H G' H' → R C G' v d → P d → Q v H') ∧ EOk C G H E P2
def startD (N : Nat) (ds : List D) : Dl := ds.map (fun d => some (.d d)) ++ List.replicate (N - ds.length) none
theorem startD_d {N : Nat} {ds : List D} {i : Nat} {s : S} (h : (startD N ds)[i]? = some (some s)) : ∃ d, s = .d d := by
  unfold startD at h
  by_cases hi : i < ds.length
  · rw [List.getElem?_append_left (by simpa using hi), List.getElem?_map] at h
    cases e : ds[i]? with
    | none => rw [e] at h; cases h
    | some d => rw [e] at h; cases h; exact ⟨d, rfl⟩
  · rw [List.getElem?_append_right (by simpa using hi)] at h
    have := List.mem_of_getElem? h
    simp at this
def wpB (N : Nat) (pb : PSx) : PSp := fun ds P P2 => pb { nx := fun _ => P .non, rt := fun _ => P, bk := fun _ => False, ct := fun _ => False, ex := fun _ => P2 } (startD N ds)
theorem RAll.startR {C : Ctx} {G : Gp} {H H0 : Hp} {N : List Str} {vs : List V} {ds : List D} (r : RAll C G vs ds) : SRel C H0 G H (L2.start N vs) (startD N.length ds) := by
  have hl := r.length
  refine ⟨by unfold L2.start startD; simp [hl], fun i s h => ?_, fun i j s s' v v' n h1 h2 o1 o2 e1 e2 => ?_, fun i j P d s' v' a n h1 h2 e2 pa f => ?_⟩
  · unfold startD at h
    by_cases hi : i < ds.length
    · rw [List.getElem?_append_left (by simpa using hi), List.getElem?_map] at h
      cases e : ds[i]? with
      | none => rw [e] at h; cases h
      | some d =>
        rw [e] at h
        cases h
        obtain ⟨v, ev, rv⟩ := r.get e
        refine ⟨v, ?_, .d rv⟩
        unfold L2.start
        rw [List.getElem?_append_left (by simp; omega), List.getElem?_map, ev]
        rfl
    · rw [List.getElem?_append_right (by simpa using hi)] at h
      have := List.mem_of_getElem? h
      simp at this
  · unfold startD at h1
    by_cases hi : i < ds.length
    · rw [List.getElem?_append_left (by simpa using hi), List.getElem?_map] at h1
      cases e : ds[i]? with
      | none => rw [e] at h1; cases h1
      | some d =>
        rw [e] at h1
        cases h1
        cases o1
    · rw [List.getElem?_append_right (by simpa using hi)] at h1
      have := List.mem_of_getElem? h1
      simp at this
  · unfold startD at h1
    by_cases hi : i < ds.length
    · rw [List.getElem?_append_left (by simpa using hi), List.getElem?_map] at h1
      cases e : ds[i]? with
      | none => rw [e] at h1; cases h1
      | some d =>
        rw [e] at h1
        cases h1
    · rw [List.getElem?_append_right (by simpa using hi)] at h1
      have := List.mem_of_getElem? h1
      simp at this
section
variable {P : Program} {w : World} {K : PySem.W.Frag} {mg : Str → Option Value} {base : Heap}
abbrev WF (E : XK) : WX := fun cls d _ H => E cls d H
theorem fn_mk {x qual : Str} {st : Stmt} {f : Addr} {fd : FuncData} {N ps : List Str} {k : Nat} {pb : PSx} (F : Fun K x qual st f fd) (S : FnScope N ps (defScope st))
    (hbody : ∀ (cdv : Value) (A : Around) (outer : List Env) (s : Shared) (H : Hp) (E : XK), Room k (A.deeper (PyProof.Rows.envOfC qual (defScope st) s.heap.objs.size f cdv)) →
      ∃ t, LSs (cxOf (L2.CX P w) P w K mg base N qual (defScope st) f cdv A outer s H E) (WE (WF E)) (defBody st) t pb) :
    FnOk P w K mg base (L2.CX P w) (k + 1) f fd ps (liftSp ⟨K, mg⟩ (wpB N.length pb) ps.length) := by
  refine F.okX S (fun vs H Q E h => h.1) (fun cdv A outer s H vs Q E hr h => ?_)
  obtain ⟨hl, G, ds, P1, P2, ok, r, p, q, x⟩ := h
  obtain ⟨t, h⟩ := hbody cdv A outer s H E hr
  refine ⟨t, h.py, h.le (P := { nx := fun _ => P1 .non, rt := fun _ => P1, bk := fun _ => False, ct := fun _ => False, ex := fun _ => P2 }) (G0 := G) (H0 := H) ?_ ⟨.refl ok, r.startR⟩ p⟩
  exact ⟨fun t p => q _ _ _ _ t.ext .non p, fun t r p => q _ _ _ _ t.ext r p, fun _ p => p.elim, fun _ p => p.elim, fun t => x.ext t.ext⟩
end
section
variable {X : Cx} {W : WX} {k : Nat} {f : Addr} {fd : FuncData} {ps : List Str} {x m : Str} {p pos apos : Pos} {e o : Expr} {es : List Expr} {ta : TE} {t : TA} {psp : PSp} {pa : PAx} {po : PX}
def pCall (psp : PSp) (pa : PAx) : PX := fun δ P P2 => pa δ (fun ds => psp ds P P2) P2
theorem call_le {vs : List V} {ds : List D} {σ : St} {G : Gp} {H : Hp} {Q : VK} {P : D → Prop} {P2 : Exn → Prop} {n : Nat} (hn : vs.length = n) (ok : Ok G H) (r : RAll (cx X) G vs ds) (x : EOk (cx X) G H (WE W σ) P2) (p : psp ds P P2)
    (q : ∀ v d G' H', Ext G H G' H' → R (cx X) G' v d → P d → Q v H') : liftSp (cx X) psp n vs H Q (WE W σ) := ⟨hn, G, ds, P, P2, ok, r, p, q, x⟩
structure LAn (X : Cx) (E : St → XK) (es : List Expr) (ta : TA) (pa : PAx) (n : Nat) : Prop where
  py : PA X es ta
  le : ∀ {δ : Dl} {σ : St} {G : Gp} {H H0 : Hp} {Q : List V → Hp → Prop} {P : List D → Prop} {P2 : Exn → Prop}, Ok G H → SRel (cx X) H0 G H σ δ → EOk (cx X) G H (E σ) P2 → pa δ P P2 →
    (∀ vs ds G' H', vs.length = n → Ext G H G' H' → RAll (cx X) G' vs ds → P ds → Q vs H') → ta σ H Q
theorem lan_nil {E : St → XK} : LAn X E [] tNil pNil 0 := ⟨pa_nil, fun k s x p q => q _ _ _ _ rfl (.refl k) .nil p⟩
theorem lan_cons {E : St → XK} {te : TE} {pe : PX} {n : Nat} (he : LX X E e te pe) (ha : LAn X E es t pa n) (hs : starEach (e :: es) X.env = (false, eval e X.env) :: starEach es X.env := by rfl) : LAn X E (e :: es) (tCons te t) (pCons pe pa) (n + 1) :=
  ⟨pa_cons he.py ha.py hs, fun k s x p q => he.le k s x p fun v d G1 H1 y1 r1 p1 => ha.le y1.ok (s.ext y1) (x.ext y1) p1 fun vs ds G2 H2 hn y2 r2 p2 =>
    q _ _ G2 H2 (by rw [List.length_cons, hn]) (y1.trans y2) (.cons (r1.mono y2.g) r2) p2⟩
theorem lx_call (tk : Takes X W) (F : FnOk X.prog X.w X.K X.mg X.base (L2.CX X.prog X.w) k f fd ps (liftSp (cx X) psp ps.length)) (hr : Room k X.A) (hg : Gl X x) (hm : X.mg x = some (.ref f)) (hk : PySem.W.keepIn X.K (.ref f) = true) (hb : Binds X.K fd ps [])
    (ha : LAn X (WE W) (e :: es) t pa ps.length) (hdb : (x == ("__debug__" : Str)) = false := by decide) (he : starEach (e :: es) X.env = (false, eval e X.env) :: starEach es X.env := by rfl) (hpl : (backTo pos (starEach es X.env)).any (·.1) = false := by rfl) :
    LX X (WE W) (.Call (.Name x p) (e :: es) [] pos) (tCallS (liftSp (cx X) psp ps.length) (WE W) t) (pCall psp pa) :=
  ⟨pe_callS F hr hg hm hk hb (fun σ => passAt tk σ) ha.py hdb he hpl, fun k s x p q => ha.le k s x p fun vs ds G1 H1 hn y1 r1 p1 =>
    call_le hn y1.ok r1 (x.ext y1) p1 fun v d G' H' y r pd => q v d G' H' (y1.trans y) r pd⟩
def pFld (tbl : List (Nat × Nat)) (po : PX) : PX := fun δ P P2 => po δ (fun x => match x with
  | .obj c ds => (match tbl.lookup c with | some j => (match ds[j]? with | some d => P d | none => False) | none => False)
  | _ => False) P2
theorem lookup_zip : ∀ {ns : List Str} {vs : List V} {j : Nat} {f : Str} {v : V}, ns.Nodup → ns[j]? = some f → vs[j]? = some v → (ns.zip vs).lookup f = some v
  | [], _, j, _, _, _, h, _ => by simp at h
  | _ :: _, [], j, _, _, _, _, h => by simp at h
  | n :: ns, w :: vs, 0, f, v, _, h1, h2 => by
    have e1 : n = f := Option.some.inj h1
    have e2 : w = v := Option.some.inj h2
    subst e1 e2
    simp [List.lookup]
  | n :: ns, w :: vs, j + 1, f, v, nd, h1, h2 => by
    have h1' : ns[j]? = some f := by simpa using h1
    have ne : f ≠ n := fun e => (List.nodup_cons.mp nd).1 (by rw [← e]; exact List.mem_of_getElem? h1')
    have e : (f == n) = false := by simpa using ne
    show ((n, w) :: ns.zip vs).lookup f = some v
    unfold List.lookup
    rw [e]
    exact lookup_zip (List.nodup_cons.mp nd).2 h1' (by simpa using h2)
def FldT (K : PySem.W.Frag) (mg : Str → Option Value) (fn : Str) (tbl : List (Nat × Nat)) : Prop :=
  ∀ c j, tbl.lookup c = some j → (cfs c).Nodup ∧ (cfs c)[j]? = some fn ∧ ∀ A, mg (cname c) = some (.ref A) → Cls K A ∧ NoAttr K A fn
theorem lx_fld {E : St → XK} {fn : Str} {tbl : List (Nat × Nat)} (T : FldT X.K X.mg fn tbl) (ho : LX X E o ta po) (hb : attributeBase o fn X.env (eval o X.env) = eval o X.env := by rfl) :
    LX X E (.Attribute o fn pos) (tFld X.K ta fn) (pFld tbl po) := by
  refine ⟨by first | exact pe_fld ho.py hb | exact pe_fld ho.py, fun {δ σ G H H0 Q P P2} k s x p q => ho.le k s x p fun v d G' H' y r p' => ?_⟩
  split at p'
  · rename_i c ds
    split at p'
    · rename_i j ej
      split at p'
      · rename_i d ed
        cases r with
        | obj hm hg rv hl =>
          obtain ⟨nd, hf, hc⟩ := T c j ej
          obtain ⟨cl, na⟩ := hc _ hm
          obtain ⟨v, ev, rd⟩ := rv.get ed
          exact ⟨_, _, _, _, v, rfl, y.ok.fz hg, cl, na, lookup_zip nd hf ev, q v d G' H' y rd p'⟩
      · exact p'.elim
    · exact p'.elim
  · exact p'.elim
def tMethS (C : Addr) (m : Str) (sp : Sp) (E : St → XK) (ta : TE) (t : TA) : TE := fun σ H Q => ta σ H fun x H1 => ∃ a dx fs, x = .ref a ∧ H1 a = some (.ins C dx fs) ∧ fs.lookup m = none ∧
  t σ H1 fun vs H2 => sp (x :: vs) H2 Q (E σ)
theorem pe_methS {C : Addr} {sp : Sp} {CX : CXT} {E : St → XK} {pl : Sem Bool} (he : PE X o ta) (c : Cls X.K C) (hm : Meth X.K C m f) (F : FnOk X.prog X.w X.K X.mg X.base CX k f fd ps sp) (hr : Room k X.A) (hb : Binds X.K fd ps []) (hx : ∀ σ, PassesAt CX X σ (E σ)) (ha : PA X (e :: es) t)
    (hst : starEach (e :: es) X.env = (false, eval e X.env) :: starEach es X.env := by rfl) (hpl : (backTo pos (starEach es X.env)).any (·.1) = false := by rfl)
    (ht : eval (.Call (.Attribute o m apos) (e :: es) [] pos) X.env = (do
      let ov ← eval o X.env
      standAt apos.atName
      let (f, first) ← holding [ov] (getMethod ov m pl)
      callWith pos f first (backTo pos (starEach (e :: es) X.env)) (backToKw pos (keywordEach [] X.env))) := by rfl) :
    PE X (.Call (.Attribute o m apos) (e :: es) [] pos) (tMethS C m sp E ta t) := by
  refine ⟨fun pins s σ H Q I h => ?_⟩
  refine PySem.W.methodCall_KW (pl := pl) (thn (he.run pins s σ H _ I h) fun u s1 ⟨x, H1, I1, rx, a, dx, fs, ex, ea, l, q⟩ => ?_) ht
  subst ex
  obtain rfl : u = Value.ref a := rx
  refine getmeth_ok I1 ea c hm l ?_
  refine PySem.W.callWith_K (first := [.ref a]) (h₀ := X.base) I.ok.mod.kin hm.kp (thn (ha.run pos pins s1 σ H1 _ I1 q) fun us s2 ⟨vs, H2, I2, r, q2⟩ => ⟨I2.kIn, ?_⟩) hst hpl
  exact run_fnS (us := .ref a :: us) (vs := .ref a :: vs) F hr hb (hx σ) I2 (.cons rfl r) q2
def pMeth (c : Nat) (psp : PSp) (po : PX) (pa : PAx) : PX := fun δ P P2 => po δ (fun x => match x with
  | .obj c' ds0 => c' = c ∧ pa δ (fun ds => psp (.obj c' ds0 :: ds) P P2) P2
  | _ => False) P2
theorem lookup_zip_no {f : Str} : ∀ {ns : List Str} {vs : List V}, f ∉ ns → (ns.zip vs).lookup f = none
  | [], _, _ => rfl
  | _ :: _, [], _ => rfl
  | n :: ns, w :: vs, h => by
    have ne : f ≠ n := fun e => h (by rw [e]; exact List.mem_cons_self)
    have e : (f == n) = false := by simpa using ne
    show ((n, w) :: ns.zip vs).lookup f = none
    unfold List.lookup
    rw [e]
    exact lookup_zip_no fun z => h (List.mem_cons_of_mem _ z)
structure MetT (K : PySem.W.Frag) (mg : Str → Option Value) (c : Nat) (A : Addr) (m : Str) (f : Addr) : Prop where
  mg : mg (cname c) = some (.ref A)
  cl : Cls K A
  met : Meth K A m f
  no : m ∉ cfs c
theorem meth_le {c : Nat} {A : Addr} {n : Nat} (T : MetT X.K X.mg c A m f) (ho : LX X (WE W) o ta po) (ha : LAn X (WE W) es t pa n) {δ : Dl} {σ : St} {G : Gp} {H H0 : Hp} {Q : VK} {P : D → Prop} {P2 : Exn → Prop}
    (k : Ok G H) (s : SRel (cx X) H0 G H σ δ) (x : EOk (cx X) G H (WE W σ) P2) (p : pMeth c psp po pa δ P P2) (q : ∀ v d G' H', Ext G H G' H' → R (cx X) G' v d → P d → Q v H') : tMethS A m (liftSp (cx X) psp (n + 1)) (WE W) ta t σ H Q := by
  refine ho.le k s x p fun v d G1 H1 y r p' => ?_
  split at p'
  · rename_i c' ds0
    obtain ⟨rfl, p'⟩ := p'
    cases r with
    | @obj a A' dx vs _ _ hm hg rv hl =>
      have r0 : R (cx X) G1 (.ref a) (.obj c' ds0) := .obj hm hg rv hl
      have eA : A' = A := by
        have := hm.symm.trans T.mg
        cases this
        rfl
      subst eA
      refine ⟨_, _, _, rfl, y.ok.fz hg, lookup_zip_no T.no, ?_⟩
      refine ha.le y.ok (s.ext y) (x.ext y) p' fun vs ds G2 H2 hn y2 r2 p2 => ?_
      exact call_le (by rw [List.length_cons, hn]) y2.ok (.cons (r0.mono y2.g) r2) ((x.ext y).ext y2) p2 fun v d G' H' y3 r pd => q v d G' H' ((y.trans y2).trans y3) r pd
  · exact p'.elim
theorem lx_meth {c : Nat} {A : Addr} {n : Nat} {pl : Sem Bool} (tk : Takes X W) (T : MetT X.K X.mg c A m f) (F : FnOk X.prog X.w X.K X.mg X.base (L2.CX X.prog X.w) k f fd ps (liftSp (cx X) psp (n + 1))) (hr : Room k X.A) (hb : Binds X.K fd ps []) (ho : LX X (WE W) o ta po) (ha : LAn X (WE W) (e :: es) t pa n)
    (hst : starEach (e :: es) X.env = (false, eval e X.env) :: starEach es X.env := by rfl) (hpl : (backTo pos (starEach es X.env)).any (·.1) = false := by rfl)
    (ht : eval (.Call (.Attribute o m apos) (e :: es) [] pos) X.env = (do
      let ov ← eval o X.env
      standAt apos.atName
      let (f, first) ← holding [ov] (getMethod ov m pl)
      callWith pos f first (backTo pos (starEach (e :: es) X.env)) (backToKw pos (keywordEach [] X.env))) := by rfl) :
    LX X (WE W) (.Call (.Attribute o m apos) (e :: es) [] pos) (tMethS A m (liftSp (cx X) psp (n + 1)) (WE W) ta t) (pMeth c psp po pa) :=
  ⟨pe_methS ho.py T.cl T.met F hr hb (fun σ => passAt tk σ) ha.py hst hpl ht, fun k s x p q => meth_le T ho ha k s x p q⟩
def pProp (c : Nat) (psp : PSp) (po : PX) : PX := fun δ P P2 => po δ (fun x => match x with
  | .obj c' ds0 => c' = c ∧ psp [.obj c' ds0] P (fun _ => False)
  | _ => False) P2
structure PrpT (K : PySem.W.Frag) (mg : Str → Option Value) (c : Nat) (A : Addr) (m : Str) (pa g : Addr) : Prop where
  mg : mg (cname c) = some (.ref A)
  cl : Cls K A
  prop : PropOf K A m pa g
theorem lx_prop {c : Nat} {A pp : Addr} {fn : Str} {E : St → XK} (T : PrpT X.K X.mg c A fn pp f) (F : FnOk X.prog X.w X.K X.mg X.base (L2.CX X.prog X.w) k f fd ps (liftSp (cx X) psp 1)) (hr : Room (k + 1) X.A) (hb : Binds X.K fd ps []) (ho : LX X E o ta po)
    (hab : attributeBase o fn X.env (eval o X.env) = eval o X.env := by rfl) :
    LX X E (.Attribute o fn pos) (tProp A (liftSp (cx X) psp 1) [] E0 ta) (pProp c psp po) := by
  refine ⟨pe_prop ho.py T.cl T.prop F hr hb .nil (by exact passL) hab, fun {δ σ G H H0 Q P P2} k s x p q => ho.le k s x p fun v d G1 H1 y r p' => ?_⟩
  split at p'
  · rename_i c' ds0
    obtain ⟨rfl, p'⟩ := p'
    cases r with
    | @obj a A' dx vs _ _ hm hg rv hl =>
      have r0 : R (cx X) G1 (.ref a) (.obj c' ds0) := .obj hm hg rv hl
      have eA : A' = A := by
        have := hm.symm.trans T.mg
        cases this
        rfl
      subst eA
      exact ⟨_, _, _, rfl, y.ok.fz hg, rfl, G1, _, P, fun _ => False, y.ok, .cons r0 .nil, p', fun v d G' H' y2 r2 p2 => q v d G' H' (y.trans y2) r2 p2, fun _ _ _ _ _ _ _ z => z⟩
  · exact p'.elim
end
end Pu
set_option Elab.async false
set_option linter.all false
set_option maxRecDepth 100000
set_option maxHeartbeats 2000000
set_option autoImplicit false
namespace Pu
open PySem PySem.Spec L2
abbrev PSpI := List D → (List D → Prop) → (Exn → Prop) → Prop
def liftInit (C : Ctx) (c : Nat) (p : PSpI) (n : Nat) : Sp := fun vs H Q E => vs.length = n ∧ ∃ (G : Gp) (H1 : Hp) (x dx A : Addr) (vs' : List V) (ds : List D) (P : List D → Prop) (P2 : Exn → Prop),
  vs = .ref x :: vs' ∧ H = upd (upd H1 dx (.own x)) x (.ins A dx []) ∧ H1 x = none ∧ H1 dx = none ∧ dx ≠ x ∧ C.mg (cname c) = some (.ref A) ∧ Ok G H1 ∧ RAll C G vs' ds ∧ p ds P P2 ∧
  (∀ vsF dsF dx' G' H', Ext G H1 G' H' → H' x = some (.ins A dx' (mkF c vsF)) → G' x = none → RAll C G' vsF dsF → dsF.length = (cfs c).length → P dsF → Q .non H') ∧ EOk C G H1 E P2
def startI (a : Addr) (c : Nat) (N : Nat) (ds : List D) : Dl := some (.slf a c []) :: startD (N - 1) ds
def endI (a : Addr) (c : Nat) (P : List D → Prop) : Dl → Prop := fun (δ : List (Option S)) => match δ[(0 : Nat)]? with | some (some (.slf a' c' fs)) => a' = a ∧ c' = c ∧ fs.length = (cfs c).length ∧ P fs | _ => False
def wpI (c N : Nat) (pb : PSx) : PSpI := fun ds P P2 => ∀ a : Addr, pb { nx := endI a c P, rt := fun _ _ => False, bk := fun _ => False, ct := fun _ => False, ex := fun _ => P2 } (startI a c N ds)
section
variable {P : Program} {w : World} {K : PySem.W.Frag} {mg : Str → Option Value} {base : Heap}
theorem startI_rel {C : Ctx} {G : Gp} {H1 H : Hp} {c N : Nat} {Ns : List Str} {x dx A : Addr} {vs : List V} {ds : List D} (hN : Ns.length = N) (hN0 : 0 < N) (r : RAll C G vs ds) (hm : C.mg (cname c) = some (.ref A)) (hx : H x = some (.ins A dx [])) (gx : G x = none) (nx : H1 x = none) :
    SRel C H1 G H (L2.start Ns (.ref x :: vs)) (startI x c N ds) := by
  obtain ⟨Ns', hNs⟩ : ∃ (Ns' : List Str), Ns'.length = N - 1 := ⟨Ns.tail, by rw [List.length_tail, hN]⟩
  have e1 : L2.start Ns (.ref x :: vs) = some (.ref x) :: L2.start Ns' vs := by
    unfold L2.start
    rw [List.map_cons, List.cons_append, List.length_cons, hN, hNs]
    have : N - (vs.length + 1) = N - 1 - vs.length := by omega
    rw [this]
  have e2 : startD (N - 1) ds = startD Ns'.length ds := by rw [hNs]
  unfold startI
  rw [e1, e2]
  have b : SRel C H1 G H (L2.start Ns' vs) (startD Ns'.length ds) := r.startR
  have noOwn : ∀ (i : Nat) (s : S), (startD Ns'.length ds)[i]? = some (some s) → s.isOwn = false := fun i s h => by
    unfold startD at h
    by_cases hi : i < ds.length
    · rw [List.getElem?_append_left (by simpa using hi), List.getElem?_map] at h
      cases e : ds[i]? with
      | none => rw [e] at h; cases h
      | some d => rw [e] at h; cases h; rfl
    · rw [List.getElem?_append_right (by simpa using hi)] at h
      have := List.mem_of_getElem? h
      simp at this
  refine ⟨by rw [List.length_cons, List.length_cons, b.len], fun i s h => ?_, fun i j s s' v v' n h1 h2 o1 o2 _ _ => ?_, fun i j P d s' v' a n h1 h2 e2 pa f => ?_⟩
  · cases i with
    | zero =>
      have : some (S.slf x c []) = some s := Option.some.inj h
      cases this
      exact ⟨_, rfl, .slf (vs := []) hm (by rw [hx]; unfold mkF; rw [List.zip_nil_right]) gx nx .nil (Nat.zero_le _)⟩
    | succ i => exact b.at_ i s (by simpa using h)
  · exfalso
    cases i with
    | zero =>
      cases j with
      | zero => exact n rfl
      | succ j => rw [noOwn j s' (by simpa using h2)] at o2; cases o2
    | succ i => rw [noOwn i s (by simpa using h1)] at o1; cases o1
  · cases i with
    | zero => cases Option.some.inj h1
    | succ i => obtain ⟨_, z⟩ := startD_d (i := i) (by simpa using h1); cases z
theorem init_mk {x qual : Str} {st : Stmt} {f : Addr} {fd : FuncData} {N ps : List Str} {k c : Nat} {pb : PSx} (F : Fun K x qual st f fd) (S : FnScope N ps (defScope st)) (hN0 : 0 < N.length)
    (hbody : ∀ (cdv : Value) (A : Around) (outer : List Env) (s : Shared) (H : Hp) (E : XK), Room k (A.deeper (PyProof.Rows.envOfC qual (defScope st) s.heap.objs.size f cdv)) →
      ∃ t, LSs (cxOf (L2.CX P w) P w K mg base N qual (defScope st) f cdv A outer s H E) (WE (WF E)) (defBody st) t pb) :
    FnOk P w K mg base (L2.CX P w) (k + 1) f fd ps (liftInit ⟨K, mg⟩ c (wpI c N.length pb) ps.length) := by
  refine F.okX S (fun vs H Q E h => h.1) (fun cdv A outer s H vs Q E hr h => ?_)
  obtain ⟨hl, G, H1, x, dx, A', vs', ds, P1, P2, rfl, rfl, nx, ndx, ne, hm, ok, r, p, q, xx⟩ := h
  obtain ⟨t, h⟩ := hbody cdv A outer s _ E hr
  have x1 : Ext G H1 G (upd H1 dx (.own x)) := .new ok ndx
  have x2 : Ext G H1 G (upd (upd H1 dx (.own x)) x (.ins A' dx [])) := x1.trans (.new x1.ok (by rw [upd_ne (Ne.symm ne)]; exact nx))
  refine ⟨t, h.py, h.le (P := { nx := endI x c P1, rt := fun _ _ => False, bk := fun _ => False, ct := fun _ => False, ex := fun _ => P2 }) (G0 := G) (H0 := H1) ?_
    ⟨x2, startI_rel rfl hN0 r hm upd_same (ok.none_of nx) nx⟩ (p x)⟩
  refine ⟨fun {σ δ G' H'} t p => ?_, fun _ _ p => p.elim, fun _ p => p.elim, fun _ p => p.elim, fun t => xx.ext t.ext⟩
  have p' : endI x c P1 δ := p
  unfold endI at p'
  split at p'
  · rename_i a' c' fs e
    obtain ⟨rfl, rfl, hlen, p'⟩ := p'
    obtain ⟨v, ev, r⟩ := t.sr.at_ 0 _ e
    cases r with
    | @slf _ A2 dx2 _ _ _ hm2 hx gx _ rv _ =>
      have eA : A2 = A' := by
        have z := hm2.symm.trans hm
        cases z
        rfl
      subst eA
      exact q _ fs _ _ _ t.ext hx gx rv hlen p'
  · exact p'.elim

end
section
variable {X : Cx} {W : WX} {k : Nat} {f : Addr} {fd : FuncData} {ps : List Str} {x : Str} {p pos apos : Pos} {e o : Expr} {es : List Expr} {ta : TE} {t : TA} {pa : PAx}
def tMakeS (C : Addr) (sp : Sp) (E : St → XK) (t : TA) : TE := fun σ H Q => t σ H fun vs H1 => ∀ x dx, H1 x = none → H1 dx = none → dx ≠ x →
  sp (.ref x :: vs) (upd (upd H1 dx (.own x)) x (.ins C dx [])) (fun v H2 => v = .non ∧ Q (.ref x) H2) (E σ)
theorem run_makeS {CX : CXT} {C : Addr} {sp : Sp} {E : St → XK} {pins : List (Addr × Obj)} {σ : St} {H : Hp} {s : Shared} {Q : VK} {us : List Value} {vs : List V} (M : Mk X.K C f) (F : FnOk X.prog X.w X.K X.mg X.base CX k f fd ps sp) (hr : Room (k + 1) X.A) (hb : Binds X.K fd ps [])
    (hx : ∀ σ, PassesAt CX X σ (E σ)) (I : Inv X pins σ H s) (r : Vals vs us)
    (h : ∀ x dx, H x = none → H dx = none → dx ≠ x → sp (.ref x :: vs) (upd (upd H dx (.own x)) x (.ins C dx [])) (fun v H2 => v = .non ∧ Q (.ref x) H2) (E σ)) :
    wpAny (model X.prog X.w) X.A (call (.ref C) us) (EP X pins σ Q) X.xe s := by
  have hq := h (s.heap.objs.size + 1) s.heap.objs.size (I.hok.fresh (Nat.le_succ _)) (I.hok.fresh (Nat.le_refl _)) (Nat.ne_of_lt (Nat.lt_succ_self _))
  have I2 := Inv.made (C := C) I
  have r2 : Vals (V.ref (s.heap.objs.size + 1) :: vs) (Value.ref (s.heap.objs.size + 1) :: us) := .cons rfl r
  have hl : (Value.ref (s.heap.objs.size + 1) :: us ++ []).length = ps.length := by
    have e := r2.length
    rw [F.len _ _ _ _ hq] at e
    rw [List.append_nil]
    exact e.symm
  have b := hb _ (Value.ref (s.heap.objs.size + 1) :: us) I2.kIn hl
  rw [List.append_nil] at b
  refine wpAny_call (make_map (f := f) I.kIn M.makes M.init (beq_iff_eq.mp M.fn) (codeAny_mono (F.run _ X.stack _ _ ⟨Value.ref (s.heap.objs.size + 1) :: us, []⟩ (Value.ref (s.heap.objs.size + 1) :: us) _ _ (E σ) (hr.make C us [])
    (I2.env0.make C us []) b r2 hq) fun r s' hq' => ?_))
  cases r with
  | error e => exact hx σ pins _ _ e s' I2 hq'
  | ok fl =>
    cases fl with
    | ret u =>
      obtain ⟨v, H', I3, rv, ev, q3⟩ := I2.after hq'
      subst ev
      exact ⟨rv, ⟨V.ref (s.heap.objs.size + 1), H', I3, rfl, q3⟩⟩
    | next => exact False.elim hq'
    | brk => exact False.elim hq'
    | cont => exact False.elim hq'
theorem pe_makeS {CX : CXT} {C : Addr} {sp : Sp} {E : St → XK} (M : Mk X.K C f) (F : FnOk X.prog X.w X.K X.mg X.base CX k f fd ps sp) (hr : Room (k + 1) X.A) (hg : Gl X x) (hm : X.mg x = some (.ref C)) (hb : Binds X.K fd ps []) (hx : ∀ σ, PassesAt CX X σ (E σ))
    (ha : PA X (e :: es) t) (hdb : (x == ("__debug__" : Str)) = false := by decide) (he : starEach (e :: es) X.env = (false, eval e X.env) :: starEach es X.env := by rfl) (hpl : (backTo pos (starEach es X.env)).any (·.1) = false := by rfl) :
    PE X (.Call (.Name x p) (e :: es) [] pos) (tMakeS C sp E t) := by
  refine ⟨fun pins s σ H Q I h => ?_⟩
  refine wpAny_Call_Name_kw (ld_glob I hg hm ?_ hdb)
  refine PySem.W.callWith_K (h₀ := X.base) I.ok.mod.kin M.kp (thn (ha.run pos pins s σ H _ I h) fun us s1 ⟨vs, H1, I1, r, q⟩ => ⟨I1.kIn, ?_⟩) he hpl
  exact run_makeS M F hr hb hx I1 r q
def pMake (c : Nat) (pi : PSpI) (pa : PAx) : PX := fun δ P P2 => pa δ (fun ds => pi ds (fun fs => P (.obj c fs)) P2) P2
theorem lx_make {c n : Nat} {C : Addr} {pi : PSpI} (tk : Takes X W) (M : Mk X.K C f) (hm : X.mg (cname c) = some (.ref C)) (F : FnOk X.prog X.w X.K X.mg X.base (L2.CX X.prog X.w) k f fd ps (liftInit (cx X) c pi (n + 1))) (hr : Room (k + 1) X.A) (hg : Gl X (cname c)) (hb : Binds X.K fd ps [])
    (ha : LAn X (WE W) (e :: es) t pa n) (hdb : (cname c == ("__debug__" : Str)) = false := by decide) (he : starEach (e :: es) X.env = (false, eval e X.env) :: starEach es X.env := by rfl) (hpl : (backTo pos (starEach es X.env)).any (·.1) = false := by rfl) :
    LX X (WE W) (.Call (.Name (cname c) p) (e :: es) [] pos) (tMakeS C (liftInit (cx X) c pi (n + 1)) (WE W) t) (pMake c pi pa) := by
  refine ⟨pe_makeS M F hr hg hm hb (fun σ => passAt tk σ) ha.py hdb he hpl, fun {δ σ G H H0 Q P P2} k s x p q => ha.le k s x p fun vs ds G1 H1 hn y r p1 => ?_⟩
  intro a dx na nd ne
  refine ⟨by rw [List.length_cons, hn], G1, H1, a, dx, C, vs, ds, _, P2, rfl, rfl, na, nd, ne, hm, y.ok, r, p1, fun vsF dsF dx' G' H' y2 hx gx rF hl pF => ⟨rfl, ?_⟩, x.ext y⟩
  refine q (.ref a) (.obj c dsF) (updG G' a (.fz (.ins C dx' (mkF c vsF)))) H' ((y.trans y2).share (y.back na) hx gx) (.obj hm updG_same (rF.mono (updG_keep gx)) hl) pF
theorem putF_zip : ∀ {ns : List Str} {vs : List V} {f : Str} {v : V}, ns.Nodup → ns[vs.length]? = some f → putF f v (ns.zip vs) = ns.zip (vs ++ [v])
  | [], _, _, _, _, h => by simp at h
  | n :: ns, [], f, v, _, h => by
    have e : n = f := by simpa using h
    subst e
    show putF n v [] = (n, v) :: ns.zip []
    rw [List.zip_nil_right]
    rfl
  | n :: ns, w :: vs, f, v, nd, h => by
    have h' : ns[vs.length]? = some f := by simpa using h
    have ne : ¬ n = f := fun e => (List.nodup_cons.mp nd).1 (by rw [e]; exact List.mem_of_getElem? h')
    show putF f v ((n, w) :: ns.zip vs) = (n, w) :: ns.zip (vs ++ [v])
    show (if n = f then (n, v) :: ns.zip vs else (n, w) :: putF f v (ns.zip vs)) = _
    rw [if_neg ne, putF_zip (List.nodup_cons.mp nd).2 h']
def pSetF (i c j : Nat) (pe : PX) : PSx := fun P δ => pe δ (fun d => match δ[i]? with
  | some (some (.slf a c' ds)) => c' = c ∧ ds.length = j ∧ P.nx (δ.set i (some (.slf a c (ds ++ [d]))))
  | _ => False) (P.ex δ)
theorem SRel.writeS {C : Ctx} {G : Gp} {H H0 : Hp} {σ : St} {δ : Dl} {i : Nat} {a : Addr} {c : Nat} {ds ds' : List D} {vs' : List V} {A dx : Addr} (s : SRel C H0 G H σ δ) (e : δ[i]? = some (some (.slf a c ds))) (hm : C.mg (cname c) = some (.ref A)) (r' : RAll C G vs' ds') (hl' : ds'.length ≤ (cfs c).length) :
    SRel C H0 G (upd H a (.ins A dx (mkF c vs'))) σ (δ.set i (some (.slf a c ds'))) := by
  obtain ⟨v, ev, r⟩ := s.at_ i _ e
  cases r with
  | slf hm2 h g n r l =>
  have hl : i < δ.length := (List.getElem?_eq_some_iff.mp e).1
  have key : ∀ (j : Nat) (u : S), (δ.set i (some (.slf a c ds')))[j]? = some (some u) → (j = i ∧ u = .slf a c ds') ∨ (j ≠ i ∧ δ[j]? = some (some u)) := fun j u h => by
    by_cases z : i = j
    · subst z
      rw [List.getElem?_set_self hl] at h
      exact .inl ⟨rfl, (Option.some.inj (Option.some.inj h)).symm⟩
    · rw [List.getElem?_set_ne z] at h
      exact .inr ⟨fun y => z y.symm, h⟩
  refine ⟨by rw [List.length_set, s.len], fun j u hu => ?_, fun j k u u' v1 v2 nn h1 h2 o1 o2 e1 e2 => ?_, fun j k P d u v2 b nn h1 h2 e2 pa f => ?_⟩
  · rcases key j u hu with ⟨rfl, rfl⟩ | ⟨z, hu⟩
    · exact ⟨_, ev, .slf hm upd_same g n r' hl'⟩
    · obtain ⟨v, e2, q⟩ := s.at_ j u hu
      refine ⟨v, e2, ?_⟩
      cases q with
      | d q => exact .d q
      | @own b ob ys es hob hb gb nb rb =>
        have ne : b ≠ a := fun y => s.apart j i _ _ _ _ z hu e rfl rfl e2 ev (by rw [y])
        exact .own hob (by rw [upd_ne ne]; exact hb) gb nb rb
      | @slf b A2 dx2 vs2 c2 es mb hb gb nb rb lb =>
        have ne : b ≠ a := fun y => s.apart j i _ _ _ _ z hu e rfl rfl e2 ev (by rw [y])
        exact .slf mb (by rw [upd_ne ne]; exact hb) gb nb rb lb
      | exc q => exact .exc q
      | @tree _ _ TP TG t1 t2 q =>
        have np : ∀ b, TP b → b ≠ a := fun b pb y => s.apT j i _ _ _ _ b z hu e ev pb (by rw [y]; rfl)
        refine .tree (fun b g eg => ?_) (fun b pb => ?_) q
        · rcases t1 b g eg with ⟨pb, xs2, rfl, hx2⟩ | t3
          · exact .inl ⟨pb, xs2, rfl, by rw [upd_ne (np b pb)]; exact hx2⟩
          · exact .inr t3
        · obtain ⟨n1, n2, xs2, n3⟩ := t2 b pb
          exact ⟨n1, n2, xs2, by rw [upd_ne (np b pb)]; exact n3⟩
  · have k1 : ∃ s1, δ[j]? = some (some s1) ∧ s1.isOwn = true := by
      rcases key j u h1 with ⟨rfl, _⟩ | ⟨_, h1⟩
      · exact ⟨_, e, rfl⟩
      · exact ⟨_, h1, o1⟩
    have k2 : ∃ s1, δ[k]? = some (some s1) ∧ s1.isOwn = true := by
      rcases key k u' h2 with ⟨rfl, _⟩ | ⟨_, h2⟩
      · exact ⟨_, e, rfl⟩
      · exact ⟨_, h2, o2⟩
    obtain ⟨s1, g1, w1⟩ := k1
    obtain ⟨s2, g2, w2⟩ := k2
    exact s.apart j k s1 s2 v1 v2 nn g1 g2 w1 w2 e1 e2
  · have kj : δ[j]? = some (some (.tree P d)) := by
      rcases key j _ h1 with ⟨_, z⟩ | ⟨_, h1⟩
      · cases z
      · exact h1
    rcases key k u h2 with ⟨rfl, rfl⟩ | ⟨_, h2⟩
    · exact s.apT j _ P d _ v2 b nn kj e e2 pa f
    · exact s.apT j k P d u v2 b nn kj h2 e2 pa f
theorem ls_setF {E : St → XK} (i c j : Nat) {sn fn : Str} {ap p1 : Pos} {te : TE} {pe : PX} (he : LX X E e te pe) (T : ∀ A, X.mg (cname c) = some (.ref A) → Cls X.K A ∧ NoAttr X.K A fn) (hf : (cfs c)[j]? = some fn) (hnd : (cfs c).Nodup) (hlen : (cfs c).length ≤ 900)
    (hN : X.N[i]? = some sn := by rfl) (hv : Vis X.env.scope sn := by first | exact Or.inl rfl | exact Or.inr (Or.inl rfl) | exact Or.inr (Or.inr rfl)) (hd : (sn == ("__debug__" : Str)) = false := by decide) (hcd : (sn == ("__classdict__" : Str)) = false := by decide)
    (hs : swapsWith e (some (.Attribute (.Name sn p1) fn ap)) pos.line X.env = pure false := by rfl) : LS X E (.Assign [.Attribute (.Name sn p1) fn ap] e pos) (sFld X.K (tVar i) te fn) (pSetF i c j pe) := by
  refine ⟨ps_fld (pe_var hN hv hd hcd) he.py hs, fun {G0 H0 Dn P δ σ G H} en t p => he.le t.ok t.sr (en.ex t) p fun v d G' H' y r q => ?_⟩
  split at q
  · rename_i a c' ds ed
    obtain ⟨rfl, rfl, q⟩ := q
    have t1 := t.step y
    obtain ⟨v0, ev, r0⟩ := t1.sr.at_ i _ ed
    cases r0 with
    | @slf _ A dx vs _ _ hm hx gx nx rv hl =>
      obtain ⟨cl, na⟩ := T A hm
      have hlv : vs.length = ds.length := rv.length
      have hj : ds.length < (cfs c').length := (List.getElem?_eq_some_iff.mp hf).1
      refine ⟨_, ev, a, A, dx, mkF c' vs, rfl, hx, cl, na, ?_, ?_⟩
      · unfold mkF
        rw [List.length_zip]
        omega
      · have e1 : putF fn v (mkF c' vs) = mkF c' (vs ++ [v]) := putF_zip hnd (by rw [hlv]; exact hf)
        rw [e1]
        exact en.nx ⟨t1.ext.write nx gx, t1.sr.writeS ed hm (rv.append (.one r)) (by rw [List.length_append]; show ds.length + 1 ≤ _; omega)⟩ q
  · exact q.elim

def pFldS (i c j : Nat) : PX := fun δ P _ => match δ[i]? with
  | some (some (.slf _ c' ds)) => c' = c ∧ (match ds[j]? with | some d => P d | none => False)
  | _ => False
theorem lx_fldS {E : St → XK} (i c j : Nat) {sn fn : Str} {p1 : Pos} (T : ∀ A, X.mg (cname c) = some (.ref A) → Cls X.K A ∧ NoAttr X.K A fn) (hf : (cfs c)[j]? = some fn) (hnd : (cfs c).Nodup)
    (hN : X.N[i]? = some sn := by rfl) (hv : Vis X.env.scope sn := by first | exact Or.inl rfl | exact Or.inr (Or.inl rfl) | exact Or.inr (Or.inr rfl)) (hd : (sn == ("__debug__" : Str)) = false := by decide) (hcd : (sn == ("__classdict__" : Str)) = false := by decide)
    (hb : attributeBase (.Name sn p1) fn X.env (eval (.Name sn p1) X.env) = eval (.Name sn p1) X.env := by rfl) : LX X E (.Attribute (.Name sn p1) fn pos) (tFld X.K (tVar i) fn) (pFldS i c j) := by
  refine ⟨pe_fld (pe_var hN hv hd hcd) hb, fun {δ σ G H H0 Q P P2} k s x p q => ?_⟩
  unfold pFldS at p
  split at p
  · rename_i a c' ds ed
    obtain ⟨rfl, p⟩ := p
    split at p
    · rename_i d e
      obtain ⟨v0, ev, r0⟩ := s.at_ i _ ed
      cases r0 with
      | @slf _ A dx vs _ _ hm hx gx nx rv hl =>
        obtain ⟨cl, na⟩ := T A hm
        obtain ⟨v, e2, rd⟩ := rv.get e
        exact ⟨_, ev, a, A, dx, _, v, rfl, hx, cl, na, lookup_zip hnd hf e2, q v d _ _ (.refl k) rd p⟩
    · exact p.elim
  · exact p.elim
section
variable {E : St → XK} {sn : Str} {p1 : Pos} {te : TE} {pe : PX}
def tyOwn : V → Prop := fun _ => True
theorem tyV_lst {K : PySem.W.Frag} {H : Hp} {a : Addr} {xs : List V} (h : H a = some (.lst xs)) : tyV K "list" (.ref a) H := .inl ⟨rfl, _, SqL.of h⟩
def pApp (i : Nat) (pe : PX) : PSx := fun P δ => match δ[i]? with
  | some (some (.own oa ds)) => pe δ (fun d => ds.length < szl ∧ P.nx (δ.set i (some (.own oa (ds ++ [d]))))) (P.ex δ)
  | _ => False
theorem ls_app (i : Nat) (he : LX X E e te pe) (hN : X.N[i]? = some sn := by rfl) (hv : Vis X.env.scope sn := by first | exact Or.inl rfl | exact Or.inr (Or.inl rfl) | exact Or.inr (Or.inr rfl)) (hd : (sn == ("__debug__" : Str)) = false := by decide) (hcd : (sn == ("__classdict__" : Str)) = false := by decide)
    (hbase : attributeBase (.Name sn p1) "append" X.env (eval (.Name sn p1) X.env) = eval (.Name sn p1) X.env := by rfl)
    (hfew : ((backTo p (starEach [e] X.env)).all (fun x => !x.1) && (backToKw p (keywordEach [] X.env)).all (fun x => x.1.isSome)
      && decide ([e].length + ([] : List Keyword).length + (if ([] : List Keyword).isEmpty then 0 else 1) < 30)) = true := by rfl)
    (hline : (apos.endLine == p.line) = true := by rfl) (hs : starEach [e] X.env = (false, eval e X.env) :: starEach [] X.env := by rfl) (hplain : (backTo p (starEach [] X.env)).any (·.1) = false := by rfl)
    (hsw : swapsWith (.Call (.Attribute (.Name sn p1) "append" apos) [e] [] p) none pos.line X.env = pure false := by rfl) :
    LS X E (.Expr (.Call (.Attribute (.Name sn p1) "append" apos) [e] [] p) pos) (tDrop (tBM X.K "list" rAppend (tVar i) (tCons te tNil))) (pApp i pe) := by
  refine ⟨ps_expr (pe_bm PySem.F.plainAttrs_list PySem.F.slot_list_append PySem.F.type_list_append mt_append (pe_var hN hv hd hcd) (pa_cons he.py pa_nil hs) hbase hfew hline hs hplain) hsw, fun {G0 H0 Dn P δ σ G H} en t p => ?_⟩
  unfold pApp at p
  split at p
  · rename_i oa ds ed
    obtain ⟨a, xs, ev, hoa, h, g, n, r⟩ := t.sr.own ed
    refine ⟨_, ev, tyV_lst h, he.le t.ok t.sr (en.ex t) p fun v d G' H' y rd q => ?_⟩
    obtain ⟨h', g'⟩ := y.h _ _ h g
    have t1 := t.step y
    refine ⟨a, xs, v, rfl, rfl, h', by rw [r.length, sizeLine_eq]; exact q.1, en.nx ⟨t1.ext.write n g', t1.sr.write ed ev ((r.mono y.g).append (.one rd))⟩ q.2⟩
  · exact p.elim
def pIns (i : Nat) (pk pe : PX) : PSx := fun P δ => match δ[i]? with
  | some (some (.own oa ds)) => pk δ (fun k => pe δ (fun d => match k with
      | .int j => ds.length < szl ∧ 0 ≤ j ∧ j < 2 ^ 63 ∧ P.nx (δ.set i (some (.own oa (ds.take j.toNat ++ [d] ++ ds.drop j.toNat))))
      | _ => False) (P.ex δ)) (P.ex δ)
  | _ => False
theorem ls_ins (i : Nat) {e2 : Expr} {te2 : TE} {pe2 : PX} (he : LX X E e te pe) (he2 : LX X E e2 te2 pe2) (hN : X.N[i]? = some sn := by rfl) (hv : Vis X.env.scope sn := by first | exact Or.inl rfl | exact Or.inr (Or.inl rfl) | exact Or.inr (Or.inr rfl)) (hd : (sn == ("__debug__" : Str)) = false := by decide) (hcd : (sn == ("__classdict__" : Str)) = false := by decide)
    (hbase : attributeBase (.Name sn p1) "insert" X.env (eval (.Name sn p1) X.env) = eval (.Name sn p1) X.env := by rfl)
    (hfew : ((backTo p (starEach [e, e2] X.env)).all (fun x => !x.1) && (backToKw p (keywordEach [] X.env)).all (fun x => x.1.isSome)
      && decide ([e, e2].length + ([] : List Keyword).length + (if ([] : List Keyword).isEmpty then 0 else 1) < 30)) = true := by rfl)
    (hline : (apos.endLine == p.line) = true := by rfl) (hs : starEach [e, e2] X.env = (false, eval e X.env) :: starEach [e2] X.env := by rfl) (hs2 : starEach [e2] X.env = (false, eval e2 X.env) :: starEach [] X.env := by rfl) (hplain : (backTo p (starEach [e2] X.env)).any (·.1) = false := by rfl)
    (hsw : swapsWith (.Call (.Attribute (.Name sn p1) "insert" apos) [e, e2] [] p) none pos.line X.env = pure false := by rfl) :
    LS X E (.Expr (.Call (.Attribute (.Name sn p1) "insert" apos) [e, e2] [] p) pos) (tDrop (tBM X.K "list" (fun x vs H Q => ∃ (l : Addr) (xs : List V) (i : Int) (y : V), x = .ref l ∧ vs = [.int i, y] ∧ H l = some (.lst xs) ∧ xs.length < sizeLine ∧ 0 ≤ i ∧ i < 2 ^ 63 ∧
      Q .non (upd H l (.lst (xs.take i.toNat ++ [y] ++ xs.drop i.toNat)))) (tVar i) (tCons te (tCons te2 tNil)))) (pIns i pe pe2) := by
  refine ⟨ps_expr (pe_bm PySem.F.plainAttrs_list PySem.F.slot_list_insert PySem.F.type_list_insert mt_insert (pe_var hN hv hd hcd) (pa_cons he.py (pa_cons he2.py pa_nil hs2) hs) hbase hfew hline hs hplain) hsw, fun {G0 H0 Dn P δ σ G H} en t p => ?_⟩
  unfold pIns at p
  split at p
  · rename_i oa ds ed
    obtain ⟨a, xs, ev, hoa, h, g, n, r⟩ := t.sr.own ed
    refine ⟨_, ev, tyV_lst h, he.le t.ok t.sr (en.ex t) p fun v d G' H' y rd q => ?_⟩
    refine he2.le y.ok (t.sr.ext y) ((en.ex t).ext y) q fun v2 d2 G2 H2 y2 rd2 q2 => ?_
    have y12 := y.trans y2
    obtain ⟨h', g'⟩ := y12.h _ _ h g
    have t1 := t.step y12
    split at q2
    · obtain rfl := rd.intR
      have rr := r.mono y12.g
      exact ⟨a, xs, _, v2, rfl, rfl, h', by rw [r.length, sizeLine_eq]; exact q2.1, q2.2.1, q2.2.2.1, en.nx ⟨t1.ext.write n g', t1.sr.write ed ev (((rr.take _).append (.one rd2)).append (rr.drop _))⟩ q2.2.2.2⟩
    · exact q2.elim
  · exact p.elim
def pExt (i : Nat) (pe : PX) : PSx := fun P δ => match δ[i]? with
  | some (some (.own oa ds)) => pe δ (fun d => match d with
      | .lst es => ds.length + es.length ≤ szl ∧ P.nx (δ.set i (some (.own oa (ds ++ es))))
      | _ => False) (P.ex δ)
  | _ => False
def pMut (i : Nat) (f : List D → Option (List D)) : PSx := fun P δ => match δ[i]? with
  | some (some (.own oa ds)) => (match f ds with | some es => P.nx (δ.set i (some (.own oa es))) | none => False)
  | _ => False
theorem ls_reverse (i : Nat) (hN : X.N[i]? = some sn := by rfl) (hv : Vis X.env.scope sn := by first | exact Or.inl rfl | exact Or.inr (Or.inl rfl) | exact Or.inr (Or.inr rfl)) (hd : (sn == ("__debug__" : Str)) = false := by decide) (hcd : (sn == ("__classdict__" : Str)) = false := by decide)
    (hbase : attributeBase (.Name sn p1) "reverse" X.env (eval (.Name sn p1) X.env) = eval (.Name sn p1) X.env := by rfl) (hline : (apos.endLine == p.line) = true := by rfl)
    (hsw : swapsWith (.Call (.Attribute (.Name sn p1) "reverse" apos) [] [] p) none pos.line X.env = pure false := by rfl) :
    LS X E (.Expr (.Call (.Attribute (.Name sn p1) "reverse" apos) [] [] p) pos) (tDrop (tBM0 X.K "list" rReverse (tVar i))) (pMut i fun ds => some ds.reverse) := by
  refine ⟨ps_expr (pe_bm0 PySem.F.plainAttrs_list PySem.F.slot_list_reverse PySem.F.type_list_reverse mt_reverse (pe_var hN hv hd hcd) hbase hline) hsw, fun {G0 H0 Dn P δ σ G H} en t p => ?_⟩
  unfold pMut at p
  split at p
  · rename_i oa ds ed
    obtain ⟨a, xs, ev, hoa, h, g, n, r⟩ := t.sr.own ed
    exact ⟨_, ev, tyV_lst h, a, xs, rfl, rfl, h, en.nx ⟨t.ext.write n g, t.sr.write ed ev r.reverse⟩ p⟩
  · exact p.elim
def pPopAt (i : Nat) (pe : PX) : PSx := fun P δ => match δ[i]? with
  | some (some (.own oa ds)) => pe δ (fun d => match d with
      | .int k => -(2 ^ 63) ≤ k ∧ k < 2 ^ 63 ∧ (match ixN ds.length k with | some j => P.nx (δ.set i (some (.own oa (ds.eraseIdx j)))) | none => False)
      | _ => False) (P.ex δ)
  | _ => False
theorem ixN_seq' {n : Nat} {i : Int} {j : Nat} (h : ixN n i = some j) : seqIndex? i n = some j ∧ j < n := by
  unfold ixN at h
  split at h
  · split at h
    · cases h
      rename_i h0 h1
      exact ⟨seqIndex_of h0 h1, by omega⟩
    · cases h
  · split at h
    · cases h
      rename_i h0 h1
      exact ⟨seqIndex_neg (by omega) h1, by omega⟩
    · cases h
theorem ls_popAt (i : Nat) (he : LX X E e te pe) (hN : X.N[i]? = some sn := by rfl) (hv : Vis X.env.scope sn := by first | exact Or.inl rfl | exact Or.inr (Or.inl rfl) | exact Or.inr (Or.inr rfl)) (hd : (sn == ("__debug__" : Str)) = false := by decide) (hcd : (sn == ("__classdict__" : Str)) = false := by decide)
    (hbase : attributeBase (.Name sn p1) "pop" X.env (eval (.Name sn p1) X.env) = eval (.Name sn p1) X.env := by rfl)
    (hfew : ((backTo p (starEach [e] X.env)).all (fun x => !x.1) && (backToKw p (keywordEach [] X.env)).all (fun x => x.1.isSome)
      && decide ([e].length + ([] : List Keyword).length + (if ([] : List Keyword).isEmpty then 0 else 1) < 30)) = true := by rfl)
    (hline : (apos.endLine == p.line) = true := by rfl) (hs : starEach [e] X.env = (false, eval e X.env) :: starEach [] X.env := by rfl) (hplain : (backTo p (starEach [] X.env)).any (·.1) = false := by rfl)
    (hsw : swapsWith (.Call (.Attribute (.Name sn p1) "pop" apos) [e] [] p) none pos.line X.env = pure false := by rfl) :
    LS X E (.Expr (.Call (.Attribute (.Name sn p1) "pop" apos) [e] [] p) pos) (tDrop (tBM X.K "list" rPopAt (tVar i) (tCons te tNil))) (pPopAt i pe) := by
  refine ⟨ps_expr (pe_bm PySem.F.plainAttrs_list PySem.F.slot_list_pop PySem.F.type_list_pop mt_popAt (pe_var hN hv hd hcd) (pa_cons he.py pa_nil hs) hbase hfew hline hs hplain) hsw, fun {G0 H0 Dn P δ σ G H} en t p => ?_⟩
  unfold pPopAt at p
  split at p
  · rename_i oa ds ed
    obtain ⟨a, xs, ev, hoa, h, g, n, r⟩ := t.sr.own ed
    refine ⟨_, ev, tyV_lst h, he.le t.ok t.sr (en.ex t) p fun v d G' H' y rd q => ?_⟩
    obtain ⟨h', g'⟩ := y.h _ _ h g
    have t1 := t.step y
    split at q
    · obtain rfl := rd.intR
      obtain ⟨q1, q2, q⟩ := q
      split at q
      · rename_i j ej
        rw [← r.length] at ej
        obtain ⟨e1, e2⟩ := ixN_seq' ej
        exact ⟨a, xs, _, j, xs[j], rfl, rfl, h', q1, q2, e1, List.getElem?_eq_getElem e2, en.nx ⟨t1.ext.write n g', t1.sr.write ed ev ((r.mono y.g).eraseIdx j)⟩ q⟩
      · exact q.elim
    · exact q.elim
  · exact p.elim
def pSetI (i : Nat) (pk pe : PX) : PSx := fun P δ => pe δ (fun d => match δ[i]? with
  | some (some (.own oa ds)) => pk δ (fun k => match k with
      | .int j => (match ixN ds.length j with | some n => P.nx (δ.set i (some (.own oa (ds.set n d)))) | none => False)
      | _ => False) (P.ex δ)
  | _ => False) (P.ex δ)
theorem ls_setI (i : Nat) {e2 : Expr} {te2 : TE} {pe2 : PX} {sp : Pos} (he : LX X E e te pe) (he2 : LX X E e2 te2 pe2) (hN : X.N[i]? = some sn := by rfl) (hv : Vis X.env.scope sn := by first | exact Or.inl rfl | exact Or.inr (Or.inl rfl) | exact Or.inr (Or.inr rfl)) (hd : (sn == ("__debug__" : Str)) = false := by decide) (hcd : (sn == ("__classdict__" : Str)) = false := by decide)
    (ha : ∀ v, assign (.Subscript (.Name sn p1) e2 sp) X.env v = (do
      let ov ← holding [v] (eval (.Name sn p1) X.env)
      let iv ← holding [v, ov] (eval e2 X.env)
      standAt sp
      holding [v, ov, iv] (setItem ov iv v)
      release [v, ov, iv] []) := by intro _; rfl)
    (hs : swapsWithSole [.Subscript (.Name sn p1) e2 sp] e pos.line X.env = pure false := by rfl) (hw : swappedStores [.Subscript (.Name sn p1) e2 sp] e X.env = pure none := by rfl)
    (h1 : (assignEach [.Subscript (.Name sn p1) e2 sp] X.env).map (·.2) = [assign (.Subscript (.Name sn p1) e2 sp) X.env] := by rfl) :
    LS X E (.Assign [.Subscript (.Name sn p1) e2 sp] e pos) (tAsg te (gSub (tVar i) te2 rSetL)) (pSetI i pe2 pe) := by
  refine ⟨ps_asg he.py (pg_sub (pe_var hN hv hd hcd) he2.py set_list ha) hs hw h1, fun {G0 H0 Dn P δ σ G H} en t p => ?_⟩
  refine he.le t.ok t.sr (en.ex t) p fun v d G' H' y rd q => ?_
  have t1 := t.step y
  split at q
  · rename_i oa ds ed
    obtain ⟨a, xs, ev, hoa, h, g, n, r⟩ := t1.sr.own ed
    refine ⟨_, ev, he2.le t1.ok t1.sr (en.ex t1) q fun v2 d2 G2 H2 y2 rd2 q2 => ?_⟩
    obtain ⟨h', g'⟩ := y2.h _ _ h g
    have t2 := t1.step y2
    split at q2
    · obtain rfl := rd2.intR
      split at q2
      · rename_i j ej
        rw [← r.length] at ej
        exact ⟨a, xs, _, j, rfl, rfl, h', ej, en.nx ⟨t2.ext.write n g', t2.sr.write ed ev (RAll.set (rd.mono y2.g) j (r.mono y2.g))⟩ q2⟩
      · exact q2.elim
    · exact q2.elim
  · exact q.elim
end
end
end Pu
set_option Elab.async false
set_option linter.all false
set_option maxRecDepth 100000
set_option maxHeartbeats 2000000
set_option autoImplicit false
namespace Pu
open PySem PySem.Spec L2
def PB (s0 s1 s2 s3 : Int) (ns : List Int) : Prop := ns.length ≤ 63 ∧ 0 ≤ s0 ∧ 0 ≤ s1 ∧ s1 < 2147483629 ∧ 0 ≤ s2 ∧ 0 ≤ s3 ∧ s3 ≤ ns.length
def plD (s0 s1 s2 s3 : Int) (l : Addr) (ns : List Int) : List D := [.int s0, .int s1, .int s2, .int s3, .pin l ns]
def plE (p l : Addr) (ns : List Int) (δ : Dl) : Prop := ∃ s0 s1 s2 s3, δ[(0 : Nat)]? = some (some (.own (some p) (plD s0 s1 s2 s3 l ns))) ∧ PB s0 s1 s2 s3 ns
def wpPl (N : Nat) (pb : PSx) : PSp := fun ds P P2 => match ds with
  | .pool :: rest => rest.all flatD = true ∧ ∀ (p l : Addr) (s0 s1 s2 s3 : Int) (ns : List Int), PB s0 s1 s2 s3 ns →
      pb { nx := fun δ => plE p l ns δ ∧ P .non, rt := fun δ d => plE p l ns δ ∧ P d, bk := fun _ => False, ct := fun _ => False, ex := fun _ _ => False }
        (some (.own (some p) (plD s0 s1 s2 s3 l ns)) :: startD (N - 1) rest)
  | _ => False
theorem R.flatG {C : Ctx} {G G' : Gp} {v : V} {d : D} (r : R C G v d) (h : flatD d = true) : R C G' v d := by
  cases r <;> first | exact .non | exact .bl _ | exact .int _ | exact .str _ | cases h
theorem RAll.flatG {C : Ctx} {G G' : Gp} : ∀ {vs : List V} {ds : List D}, RAll C G vs ds → ds.all flatD = true → RAll C G' vs ds
  | _, _, .nil, _ => .nil
  | _, _, .cons r t, h => by
    simp only [List.all_cons, Bool.and_eq_true] at h
    exact .cons (r.flatG h.1) (RAll.flatG t h.2)
section
variable {P : Program} {w : World} {K : PySem.W.Frag} {mg : Str → Option Value} {base : Heap}
theorem pl_rel {C : Ctx} {G : Gp} {Hb H : Hp} {N : Nat} {Ns : List Str} {p : Addr} {xs : List V} {es : List D} {vs : List V} {ds : List D} (hN : Ns.length = N) (hN0 : 0 < N) (r : RAll C G vs ds) (hx : H p = some (.lst xs)) (gx : G p = none) (nx : Hb p = none) (re : RAll C G xs es) :
    SRel C Hb G H (L2.start Ns (.ref p :: vs)) (some (.own (some p) es) :: startD (N - 1) ds) := by
  obtain ⟨Ns', hNs⟩ : ∃ (Ns' : List Str), Ns'.length = N - 1 := ⟨Ns.tail, by rw [List.length_tail, hN]⟩
  have e1 : L2.start Ns (.ref p :: vs) = some (.ref p) :: L2.start Ns' vs := by
    unfold L2.start
    rw [List.map_cons, List.cons_append, List.length_cons, hN, hNs]
    have : N - (vs.length + 1) = N - 1 - vs.length := by omega
    rw [this]
  have e2 : startD (N - 1) ds = startD Ns'.length ds := by rw [hNs]
  rw [e1, e2]
  have b : SRel C Hb G H (L2.start Ns' vs) (startD Ns'.length ds) := r.startR
  have noOwn : ∀ (i : Nat) (s : S), (startD Ns'.length ds)[i]? = some (some s) → s.isOwn = false := fun i s h => by
    unfold startD at h
    by_cases hi : i < ds.length
    · rw [List.getElem?_append_left (by simpa using hi), List.getElem?_map] at h
      cases e : ds[i]? with
      | none => rw [e] at h; cases h
      | some d => rw [e] at h; cases h; rfl
    · rw [List.getElem?_append_right (by simpa using hi)] at h
      have := List.mem_of_getElem? h
      simp at this
  refine ⟨by rw [List.length_cons, List.length_cons, b.len], fun i s h => ?_, fun i j s s' v v' n h1 h2 o1 o2 _ _ => ?_, fun i j P d s' v' a n h1 h2 e2 pa f => ?_⟩
  · cases i with
    | zero =>
      have : some (S.own (some p) es) = some s := Option.some.inj h
      cases this
      exact ⟨_, rfl, .own (fun b z => by cases z; rfl) hx gx nx re⟩
    | succ i => exact b.at_ i s (by simpa using h)
  · exfalso
    cases i with
    | zero =>
      cases j with
      | zero => exact n rfl
      | succ j => rw [noOwn j s' (by simpa using h2)] at o2; cases o2
    | succ i => rw [noOwn i s (by simpa using h1)] at o1; cases o1
  · cases i with
    | zero => cases Option.some.inj h1
    | succ i => obtain ⟨_, z⟩ := startD_d (i := i) (by simpa using h1); cases z
theorem fn_mkPl {x qual : Str} {st : Stmt} {f : Addr} {fd : FuncData} {N ps : List Str} {k : Nat} {pb : PSx} (F : Fun K x qual st f fd) (S : FnScope N ps (defScope st)) (hN0 : 0 < N.length)
    (hbody : ∀ (cdv : Value) (A : Around) (outer : List Env) (s : Shared) (H : Hp) (E : XK), Room k (A.deeper (PyProof.Rows.envOfC qual (defScope st) s.heap.objs.size f cdv)) →
      ∃ t, LSs (cxOf (L2.CX P w) P w K mg base N qual (defScope st) f cdv A outer s H E) (WE (WF E)) (defBody st) t pb) :
    FnOk P w K mg base (L2.CX P w) (k + 1) f fd ps (liftSp ⟨K, mg⟩ (wpPl N.length pb) ps.length) := by
  refine F.okX S (fun vs H Q E h => h.1) (fun cdv A outer s H vs Q E hr h => ?_)
  obtain ⟨hl, G, ds, P1, P2, ok, r, p, q, xx⟩ := h
  obtain ⟨t, h⟩ := hbody cdv A outer s _ E hr
  unfold wpPl at p
  split at p
  · rename_i rest
    obtain ⟨fr, p⟩ := p
    cases r with
    | cons r0 rr =>
      cases r0 with
      | @pool pa l ns hg =>
        obtain ⟨⟨hns, s0, s1, s2, s3, hp, b0, b1, b2, b3, b4, b5⟩, gl⟩ : PoolAt H pa l ns ∧ LkG G l (ns.map V.int) := ok.at_ pa _ hg
        have lp : l ≠ pa := fun z => by rw [z] at gl; rcases gl with gl | gl <;> (rw [hg] at gl; cases gl)
        classical
        let Gr : Gp := fun a => if a = pa then none else G a
        let Hb : Hp := fun a => if a = pa then none else H a
        have grn : ∀ {a}, a ≠ pa → Gr a = G a := fun h => if_neg h
        have grp : Gr pa = none := if_pos rfl
        have hbp : Hb pa = none := if_pos rfl
        have okr : Ok Gr H := ⟨fun a g h => by
          by_cases e : a = pa
          · rw [e, grp] at h; cases h
          · rw [grn e] at h
            have z := ok.at_ a g h
            cases g with
            | fz o => exact z
            | pool l2 ns2 =>
              obtain ⟨z1, z2⟩ : PoolAt H a l2 ns2 ∧ LkG G l2 (ns2.map V.int) := z
              exact ⟨z1, by
                unfold LkG
                rw [grn (fun y => by rw [y] at z2; rcases z2 with z2 | z2 <;> (rw [hg] at z2; cases z2))]; exact z2⟩
            | vw u => exact z⟩
        have x1 : Ext Gr Hb Gr H := ⟨fun _ _ h => h, okr, fun a o h g => ⟨by
          have h' : (if a = pa then none else H a) = some o := h
          split at h'
          · cases h'
          · exact h', g⟩⟩
        have re : RAll ⟨K, mg⟩ Gr [.int s0, .int s1, .int s2, .int s3, .ref l] (plD s0 s1 s2 s3 l ns) :=
          .cons (.int _) (.cons (.int _) (.cons (.int _) (.cons (.int _) (.cons (.pin (by unfold LkG; rw [grn lp]; exact gl)) .nil))))
        refine ⟨t, h.py, h.le (P := { nx := fun δ => plE pa l ns δ ∧ P1 .non, rt := fun δ d => plE pa l ns δ ∧ P1 d, bk := fun _ => False, ct := fun _ => False, ex := fun _ _ => False }) (G0 := Gr) (H0 := Hb) ?_
          ⟨x1, pl_rel rfl hN0 (rr.flatG fr) hp grp hbp re⟩ (p pa l s0 s1 s2 s3 ns ⟨hns, b0, b1, b2, b3, b4, b5⟩)⟩
        -- the pool is given back
        have back : ∀ {σ : L2.St} {δ : Dl} {G2 : Gp} {H2 : Hp}, Stt ⟨K, mg⟩ Gr Hb σ δ G2 H2 → plE pa l ns δ → ∃ G3, Ext G H G3 H2 ∧ ∀ a g, G2 a = some g → G3 a = some g := fun {σ δ G2 H2} t ⟨t0, t1, t2, t3, ed, hns', c0, c1, c2, c3, c4, c5⟩ => by
          obtain ⟨a, ys, ev, hoa, hy, gy, _, ry⟩ := t.sr.own ed
          obtain rfl := hoa pa rfl
          have ok2 : Ok G2 H2 := t.ext.ok
          obtain ⟨hys, gl'⟩ : ys = [.int t0, .int t1, .int t2, .int t3, .ref l] ∧ LkG G2 l (ns.map V.int) := by
            cases ry with
            | cons r1 ry => cases ry with
              | cons r2 ry => cases ry with
                | cons r3 ry => cases ry with
                  | cons r4 ry => cases ry with
                    | cons r5 ry =>
                      cases ry
                      cases r1; cases r2; cases r3; cases r4
                      cases r5 with
                      | pin hl => exact ⟨rfl, hl⟩
          subst hys
          let G3 : Gp := fun a => if a = pa then some (.pool l ns) else G2 a
          have g3p : G3 pa = some (.pool l ns) := if_pos rfl
          have g3n : ∀ {a}, a ≠ pa → G3 a = G2 a := fun h => if_neg h
          have sub : ∀ a g, G2 a = some g → G3 a = some g := fun a g h => by rw [g3n (fun z => by rw [z, gy] at h; cases h)]; exact h
          refine ⟨G3, ⟨fun a g h => ?_, ⟨fun a g h => ?_⟩, fun a o h g => ?_⟩, sub⟩
          · by_cases e : a = pa
            · rw [e, hg] at h; rw [e, g3p]; exact h
            · exact sub a g (t.ext.g a g (by rw [grn e]; exact h))
          · by_cases e : a = pa
            · rw [e, g3p] at h
              cases h
              rw [e]
              exact ⟨⟨hns, t0, t1, t2, t3, hy, c0, c1, c2, c3, c4, c5⟩, gl'.mono sub⟩
            · rw [g3n e] at h
              have z := ok2.at_ a g h
              cases g with
              | fz o => exact z
              | pool l2 ns2 =>
                obtain ⟨z1, z2⟩ : PoolAt H2 a l2 ns2 ∧ LkG G2 l2 (ns2.map V.int) := z
                exact ⟨z1, z2.mono sub⟩
              | vw u => exact z
          · have e : a ≠ pa := fun z => by rw [z, hg] at g; cases g
            obtain ⟨h1, g1⟩ := t.ext.h a o (by show (if a = pa then none else H a) = _; rw [if_neg e]; exact h) (by rw [grn e]; exact g)
            exact ⟨h1, by rw [g3n e]; exact g1⟩
        refine ⟨fun t p => ?_, fun t r p => ?_, fun _ p => p.elim, fun _ p => p.elim, fun t _ _ _ _ _ _ _ p => False.elim p⟩
        · obtain ⟨G3, x3, _⟩ := back t p.1
          exact q _ _ _ _ x3 .non p.2
        · obtain ⟨G3, x3, sb⟩ := back t p.1
          exact q _ _ _ _ x3 (r.mono sb) p.2
  · exact p.elim

def wpNewPool : PSp := fun ds P _ => ∃ ns : List Int, ds = [.script ns] ∧ ns.length ≤ 63 ∧ P .pool
theorem fn_newPool {x qual : Str} {st : Stmt} {f : Addr} {fd : FuncData} {N ps : List Str} {k : Nat} {e : Expr} {pos : Pos} {pe : PX} (F : Fun K x qual st f fd) (S : FnScope N ps (defScope st)) (hps : ps.length = 1) (hst : defBody st = [.Return (some e) pos])
    (hbody : ∀ (cdv : Value) (A : Around) (outer : List Env) (s : Shared) (H : Hp) (E : XK), Room k (A.deeper (PyProof.Rows.envOfC qual (defScope st) s.heap.objs.size f cdv)) →
      ∃ te, LO (cxOf (L2.CX P w) P w K mg base N qual (defScope st) f cdv A outer s H E) (WE (WF E)) e te pe)
    (hp : ∀ (ns : List Int) (P : D → Prop), P (.lst [.int 0, .int 1, .int 0, .int 0, .lst (ns.map .int)]) → pe (startD N.length [.script ns]) P (fun _ => False)) :
    FnOk P w K mg base (L2.CX P w) (k + 1) f fd ps (liftSp ⟨K, mg⟩ wpNewPool ps.length) := by
  refine F.okX S (fun vs H Q E h => h.1) (fun cdv A outer s H vs Q E hr h => ?_)
  obtain ⟨hl, G, ds, P1, P2, ok, r, ⟨ns, rfl, hns, p⟩, q, xx⟩ := h
  obtain ⟨te, h⟩ := hbody cdv A outer s H E hr
  refine ⟨tRet te, by rw [hst]; exact pss_one (ps_ret h.py), ?_⟩
  refine h.le (P := fun d => d = .lst [.int 0, .int 1, .int 0, .int 0, .lst (ns.map .int)]) (P2 := fun _ => False) (H0 := H) ok r.startR (fun _ _ _ _ _ _ _ z => z.elim) (hp ns _ rfl) fun a xs ds G' H' y hn ha ga ra ed => ?_
  cases ed
  cases ra with
  | cons r1 ra => cases ra with
    | cons r2 ra => cases ra with
      | cons r3 ra => cases ra with
        | cons r4 ra => cases ra with
          | cons r5 ra =>
            cases ra
            cases r1; cases r2; cases r3; cases r4
            cases r5 with
            | @lst l5 _ _ hl5 rl =>
              have e5 := rl.int
              subst e5
              have sub := updG_keep (g := GO.pool l5 ns) ga
              have x3 : Ext G H (updG G' a (.pool l5 ns)) H' := by
                refine ⟨fun b g h => sub b g (y.g b g h), ⟨fun b g h => ?_⟩, fun b o h g => ?_⟩
                · by_cases e : b = a
                  · rw [e, updG_same] at h
                    cases h
                    rw [e]
                    exact ⟨⟨hns, 0, 1, 0, 0, ha, by decide, by decide, by decide, by decide, by decide, by omega⟩, .inl (sub _ _ hl5)⟩
                  · rw [updG_ne e] at h
                    have z := y.ok.at_ b g h
                    cases g with
                    | fz o => exact z
                    | pool l2 ns2 =>
                      obtain ⟨z1, z2⟩ : PoolAt H' b l2 ns2 ∧ LkG G' l2 (ns2.map V.int) := z
                      exact ⟨z1, z2.mono sub⟩
                    | vw u => exact z
                · obtain ⟨h1, g1⟩ := y.h b o h g
                  exact ⟨h1, by rw [updG_ne (ne_of_none h hn)]; exact g1⟩
              exact q _ .pool _ _ x3 (.pool updG_same) p
end
end Pu
set_option Elab.async false
set_option linter.all false
set_option maxRecDepth 100000
set_option maxHeartbeats 2000000
set_option autoImplicit false
namespace Pu
open PySem PySem.Spec L2
structure ExT (K : PySem.W.Frag) (mg : Str → Option Value) (c : Nat) (A fI : Addr) : Prop where
  mg : mg (cname c) = some (.ref A)
  ox : OexC K A
  ini : PySem.W.findIn K (.ref A) "__init__" = some (some (.ref fI))
  ty : PySem.W.typeIn K (.ref fI) = some (.type "function")
  no : ∀ f ∈ cfs c, PySem.W.findIn K (.ref A) f = some none
def spX (C : Ctx) (c n : Nat) : Sp := fun vs H Q _ => vs.length = n ∧ ∃ (a A : Addr) (ws : List V), vs = .ref a :: ws ∧ C.mg (cname c) = some (.ref A) ∧ H a = some (exo a A none) ∧
  ∀ (d : Addr) (H' : Hp), H d = none → d ≠ a → H' a = some (exo a A (some d)) → H' d = some (exd d (mkF c ws).reverse) → (∀ b o, b ≠ a → H b = some o → H' b = some o) → Q .non H'
def spXt (C : Ctx) (c n : Nat) : Sp := fun vs H Q _ => vs.length = n ∧ ∃ (a A t : Addr) (xs : List V), vs = [.ref a, .ref t] ∧ SqT C.K H t xs ∧ C.mg (cname c) = some (.ref A) ∧ H a = some (exo a A none) ∧
  ∀ (d : Addr) (H' : Hp), H d = none → d ≠ a → H' a = some (exo a A (some d)) → H' d = some (exd d (mkF c [.ref t]).reverse) → (∀ b o, b ≠ a → H b = some o → H' b = some o) → Q .non H'
section
variable {X : Cx} {W : WX} {k : Nat} {f : Addr} {fd : FuncData} {ps : List Str} {p pos rpos : Pos} {e : Expr} {es : List Expr} {ta : TA} {pa : PAx}
def pRaise (c : Nat) (pa : PAx) : PSx := fun P δ => pa δ (fun ds => ds.length = (cfs c).length ∧ ds ≠ [] ∧ P.ex δ ⟨c, ds⟩) (P.ex δ)
theorem raise_end {C : Ctx} {G1 : Gp} {H1 H' : Hp} {a A d : Addr} {c : Nat} {vs : List V} {ds : List D} {E : XK} {P : Exn → Prop} (ok : Ok G1 H1) (hm : C.mg (cname c) = some (.ref A)) (na : H1 a = none) (r : RAll C G1 vs ds) (hlen : ds.length = (cfs c).length)
    (nd : upd H1 a (exo a A none) d = none) (ha : H' a = some (exo a A (some d))) (hd : H' d = some (exd d (mkF c vs).reverse)) (keep : ∀ b o, b ≠ a → upd H1 a (exo a A none) b = some o → H' b = some o) (eo : EOk C G1 H1 E P) (p : P ⟨c, ds⟩) :
    ∃ (d' : Addr) (fs : List (Str × V)), H' a = some (exo a A (some d')) ∧ H' d' = some (exd d' fs) ∧ H1 d' = none ∧ E (.ref A) (some d') (upd (del H' a) d' (.xd fs)) := by
  have da : d ≠ a := fun z => by rw [z, upd_same] at nd; cases nd
  have nd1 : H1 d = none := by rw [upd_ne da] at nd; exact nd
  refine ⟨d, _, ha, hd, nd1, ?_⟩
  have keep1 : ∀ b o, H1 b = some o → upd (del H' a) d (.xd (mkF c vs).reverse) b = some o := fun b o h => by
    have ba : b ≠ a := ne_of_none h na
    have bd : b ≠ d := ne_of_none h nd1
    rw [upd_ne bd, del_ne ba]
    exact keep b o ba (by rw [upd_ne ba]; exact h)
  have gd : G1 d = none := ok.none_of nd1
  have x : Ext G1 H1 (updG G1 d (.fz (.xd (mkF c vs).reverse))) (upd (del H' a) d (.xd (mkF c vs).reverse)) := by
    refine ⟨fun b g h => updG_keep gd b g h, ⟨fun b g h => ?_⟩, fun b o h g => ⟨keep1 b o h, by rw [updG_ne (ne_of_none h nd1)]; exact g⟩⟩
    by_cases e : b = d
    · rw [e, updG_same] at h
      cases h
      rw [e]
      exact upd_same
    · rw [updG_ne e] at h
      have z := ok.at_ b g h
      cases g with
      | fz o => exact keep1 b o z
      | pool l ns =>
        obtain ⟨⟨h1, s0, s1, s2, s3, h2, h3⟩, h4⟩ : PoolAt H1 b l ns ∧ _ := z
        exact ⟨⟨h1, s0, s1, s2, s3, keep1 _ _ h2, h3⟩, h4.mono (updG_keep gd)⟩
      | vw u => exact keep1 b _ z
  exact eo _ _ _ _ ⟨c, ds⟩ x ⟨A, hm, rfl, hlen, .inr ⟨d, vs, rfl, updG_same, r.mono (updG_keep gd)⟩⟩ p
theorem ls_raise {c n : Nat} {A fI : Addr} (hc : X.calm = true) (tk : Takes X W) (T : ExT X.K X.mg c A fI) (F : FnOk X.prog X.w X.K X.mg X.base (L2.CX X.prog X.w) k fI fd ps (spX (cx X) c (n + 1))) (hr : Room (k + 1) X.A) (hb : Binds X.K fd ps []) (hg : Gl X (cname c))
    (ha : LAn X (WE W) (e :: es) ta pa n) (hsz : n ≤ 1000 := by decide) (hdb : (cname c == ("__debug__" : Str)) = false := by decide) (he : starEach (e :: es) X.env = (false, eval e X.env) :: starEach es X.env := by rfl) (hpl : (backTo pos (starEach es X.env)).any (·.1) = false := by rfl) :
    LS X (WE W) (.Raise (some (.Call (.Name (cname c) p) (e :: es) [] pos)) none rpos) (fun _ σ H => tMkO A (spX (cx X) c (n + 1)) [] ta σ H fun cls d H' => W cls d σ H') (pRaise c pa) := by
  refine ⟨ps_raise hc tk (pmk_oex T.ox T.ini T.ty F hr hb .nil passL hg T.mg ha.py hdb he hpl), fun {G0 H0 Dn P δ σ G H} en t q => ha.le t.ok t.sr (en.ex t) q fun vs ds G1 H1 hn y r p1 => ?_⟩
  refine ⟨by rw [hn]; exact hsz, fun a na => ?_⟩
  rw [List.append_nil]
  refine ⟨by rw [List.length_cons, hn], a, A, vs, rfl, T.mg, upd_same, fun d H' nd nda ha' hd' kp => ⟨rfl, ?_⟩⟩
  exact raise_end y.ok T.mg na r p1.1 nd ha' hd' kp ((en.ex t).ext y) p1.2.2
def pRaiseT (c : Nat) (pa : PAx) : PSx := fun P δ => pa δ (fun ds => match ds with | [.tup es] => (cfs c).length = 1 ∧ P.ex δ ⟨c, [.tup es]⟩ | _ => False) (P.ex δ)
end
section
variable {P : Program} {w : World} {K : PySem.W.Frag} {mg : Str → Option Value} {base : Heap}
theorem xinit2 {c : Nat} {qual : Str} {st : Stmt} {f A : Addr} {fd : FuncData} {N : List Str} {n0 n1 n2 : Str} {q1 q2 q3 q4 q5 q6 q7 q8 : Pos} (F : Fun K "__init__" qual st f fd) (S : FnScope N [n0, n1, n2] (defScope st)) (hN : N = [n0, n1, n2]) (T : ExT K mg c A f)
    (hst : defBody st = [.Assign [.Attribute (.Name n0 q1) n1 q2] (.Name n1 q3) q4, .Assign [.Attribute (.Name n0 q5) n2 q6] (.Name n2 q7) q8]) (hf : cfs c = [n1, n2])
    (hb : ∀ (cdv : Value) (A' : Around) (outer : List Env) (s : Shared) (H : Hp) (E : XK),
      (PSs (cxOf (L2.CX P w) P w K mg base N qual (defScope st) f cdv A' outer s H E) [.Assign [.Attribute (.Name n0 q1) n1 q2] (.Name n1 q3) q4, .Assign [.Attribute (.Name n0 q5) n2 q6] (.Name n2 q7) q8] (tSeq (tOst K n1 (tVar 0) (tVar 1)) (tOst K n2 (tVar 0) (tVar 2))))) :
    FnOk P w K mg base (L2.CX P w) 1 f fd [n0, n1, n2] (spX ⟨K, mg⟩ c 3) := by
  refine F.okX S (fun vs H Q E h => h.1) (fun cdv A' outer s H vs Q E hr h => ?_)
  obtain ⟨hl, a, A2, ws, rfl, hm, ha, q⟩ := h
  obtain ⟨y1, y2, rfl⟩ : ∃ y1 y2, ws = [y1, y2] := by
    match ws, hl with
    | [y1, y2], _ => exact ⟨y1, y2, rfl⟩
  have eA : A2 = A := by
    have z := hm.symm.trans T.mg
    cases z
    rfl
  subst eA
  refine ⟨_, by rw [hst]; exact hb cdv A' outer s H E, ?_⟩
  subst hN
  refine ⟨y1, rfl, .ref a, rfl, a, A2, rfl, T.ox, T.no n1 (by rw [hf]; simp), .inl ⟨ha, fun dx ndx ne => ?_⟩⟩
  refine ⟨y2, rfl, .ref a, rfl, a, A2, rfl, T.ox, T.no n2 (by rw [hf]; simp), .inr ⟨dx, _, upd_same, by rw [upd_ne ne]; exact upd_same, by show 1 ≤ 900; decide, ?_⟩⟩
  refine q dx _ ndx ne (by rw [upd_ne (Ne.symm ne)]; exact upd_same) (by rw [upd_same]; unfold mkF; rw [hf]; rfl) fun b o hba hb' => ?_
  have hbd : b ≠ dx := ne_of_none hb' ndx
  rw [upd_ne hbd, upd_ne hba, upd_ne hbd]
  exact hb'
end
end Pu
set_option Elab.async false
set_option linter.all false
set_option maxRecDepth 100000
set_option maxHeartbeats 2000000
set_option autoImplicit false
namespace Pu
open PySem PySem.Spec PyProof.Rows L2
section
variable {X : Cx} {E : L2.St → XK}
theorem PE.or {e : Expr} {t u : TE} (h : PE X e t) (h' : PE X e u) : PE X e (fun σ H Q => t σ H Q ∨ u σ H Q) := ⟨fun pins s σ H Q I q => by
  rcases q with q | q
  · exact h.run pins s σ H Q I q
  · exact h'.run pins s σ H Q I q⟩
theorem LX.or {e : Expr} {t u : TE} {p q : PX} (h : LX X E e t p) (h' : LX X E e u q) : LX X E e (fun σ H Q => t σ H Q ∨ u σ H Q) (fun δ P P2 => p δ P P2 ∨ q δ P P2) := ⟨PE.or h.py h'.py, fun k s x pq c => by
  rcases pq with pq | pq
  · exact .inl (h.le k s x pq c)
  · exact .inr (h'.le k s x pq c)⟩
structure OLo (X : Cx) (r : R2) (f : POp) : Prop where
  le : ∀ {G : Gp} {H : Hp} {x y : V} {dx dy : D} {Q : VK} {P : D → Prop}, Ok G H → RV (cx X) G H x dx → RV (cx X) G H y dy → f dx dy P →
    (∀ p xs ds G' H', Ext G H G' H' → H p = none → H' p = some (.lst xs) → G' p = none → RAll (cx X) G' xs ds → P (.lst ds) → Q (.ref p) H') → r x y H Q
theorem lo_bin {op : Operator} {r : R2} {f : POp} {a b : Expr} {ta tb : TE} {pa pb : PX} {pos : Pos} (ho : OpR X (binaryOp op) r) (ol : OLo X r f) (ha : LV X E a ta pa) (hb : LV X E b tb pb) : LO X E (.BinOp a op b pos) (tOp r ta tb) (pOp f pa pb) := by
  refine ⟨pe_op ho ha.py hb.py, fun {δ σ G H H0 Q P P2} k s x p q => ha.le k s x p fun v d G1 H1 y1 r1 p1 => ?_⟩
  refine hb.le y1.ok (s.ext y1) (x.ext y1) p1 fun u d2 G2 H2 y2 r2 p2 => ?_
  exact ol.le y2.ok (r1.ext y2) r2 p2 fun l xs ds G3 H3 y3 hn hp gp rr p3 => q l xs ds G3 H3 ((y1.trans y2).trans y3) ((y1.trans y2).back hn) hp gp rr p3
def fCat : POp := fun x y P => match x, y with | .lst a, .lst b => a.length + b.length ≤ szl ∧ P (.lst (a ++ b)) | _, _ => False
def fRep : POp := fun x y P => match x, y with | .lst a, .int j => -(2 ^ 63) ≤ j ∧ j < 2 ^ 63 ∧ a.length * j.toNat ≤ szl ∧ P (.lst (List.replicate j.toNat a).flatten) | _, _ => False
theorem olo_rep : OLo X rRep fRep := by
  refine ⟨fun {G H x y dx dy Q P} k rx ry p q => ?_⟩
  unfold fRep at p
  split at p
  · obtain ⟨a, xs, e1, h1, r1⟩ := rx.lst k
    exact ⟨a, _, xs, e1, ry.int, h1, p.1, p.2.1, by rw [r1.length, sizeLine_eq]; exact p.2.2.1, fun l hl => q l _ _ G _ (Ext.new k hl) hl upd_same (k.none_of hl) (r1.rep _) p.2.2.2⟩
  · exact p.elim
abbrev POx := Dl → (Option Int → Prop) → (Exn → Prop) → Prop
structure LP (X : Cx) (E : L2.St → XK) (e : Option Expr) (t : TO) (p : POx) : Prop where
  py : PO X e t
  le : ∀ {δ : Dl} {σ : L2.St} {G : Gp} {H H0 : Hp} {Q : Option Int → Hp → Prop} {P : Option Int → Prop} {P2 : Exn → Prop}, Ok G H → SRel (cx X) H0 G H σ δ → EOk (cx X) G H (E σ) P2 → p δ P P2 →
    (∀ o G' H', Ext G H G' H' → P o → Q o H') → t σ H Q
def pNo : POx := fun _ P _ => P none
def pPart (pe : PX) : POx := fun δ P P2 => pe δ (fun d => match d with | .int i => P (some i) | _ => False) P2
theorem lp_none : LP X E none tNoPart pNo := ⟨po_none, fun k s x p q => q _ _ _ (.refl k) p⟩
theorem lp_some {e : Expr} {te : TE} {pe : PX} (h : LX X E e te pe) : LP X E (some e) (tPart te) (pPart pe) := ⟨po_some h.py, fun k s x p q => h.le k s x p fun v d G' H' y r p' => by
  split at p'
  · obtain rfl := r.intR
    exact ⟨_, rfl, q _ _ _ y p'⟩
  · exact p'.elim⟩
def cutD (xs : List D) (lo hi : Option Int) : List D := (xs.drop (HT.sIx xs.length 0 lo)).take (HT.sIx xs.length xs.length hi - HT.sIx xs.length 0 lo)
theorem RAll.cut {C : Ctx} {G : Gp} {xs : List V} {ds : List D} {lo hi : Option Int} (r : RAll C G xs ds) : RAll C G (cutV xs lo hi) (cutD ds lo hi) := by
  unfold cutV cutD
  rw [r.length]
  exact (r.drop _).take _
def fSl : D → Option Int → Option Int → (D → Prop) → Prop := fun x lo hi P => match x with
  | .lst ds => P (.lst (cutD ds lo hi))
  | .vw ds => P (.lst (cutD ds lo hi))
  | .tup ds => P (.tup (cutD ds lo hi))
  | .str z => z.length ≤ szl ∧ P (.str (cutS z lo hi))
  | _ => False
def pSl (pe : PX) (pl ph : POx) : PX := fun δ P P2 => pe δ (fun x => pl δ (fun lo => ph δ (fun hi => fSl x lo hi P) P2) P2) P2
def rSlAll (K : PySem.W.Frag) : V → Option Int → Option Int → Hp → VK → Prop := fun x lo hi H Q => rSlL K x lo hi H Q ∨ rSlN K x lo hi H Q ∨ rSlS x lo hi H Q
theorem sl_all : SlR X (rSlAll X.K) := sl_list.or (sl_tupN.or sl_str)
theorem lx_slice {e : Expr} {lo hi : Option Expr} {te : TE} {tl th : TO} {pe : PX} {pl ph : POx} {p2 pos : Pos} (he : LV X E e te pe) (hl : LP X E lo tl pl) (hh : LP X E hi th ph) : LX X E (.Subscript e (.Slice lo hi none p2) pos) (tSl (rSlAll X.K) te tl th) (pSl pe pl ph) := by
  refine ⟨pe_slice sl_all he.py hl.py hh.py, fun {δ σ G H H0 Q P P2} k s x p q => he.le k s x p fun v d G1 H1 y1 r1 p1 => ?_⟩
  refine hl.le y1.ok (s.ext y1) (x.ext y1) p1 fun o G2 H2 y2 p2 => ?_
  refine hh.le y2.ok ((s.ext y1).ext y2) ((x.ext y1).ext y2) p2 fun o2 G3 H3 y3 p3 => ?_
  have r3 := (r1.ext y2).ext y3
  have y := (y1.trans y2).trans y3
  unfold fSl at p3
  split at p3
  · obtain ⟨a, xs, rfl, h, rr⟩ := r3.lst y3.ok
    exact .inl ⟨a, xs, rfl, SqL.of h, fun l hl => q _ (.lst _) _ _ (y.trans (Ext.newG y3.ok hl)) (.lst updG_same (rr.cut.mono (updG_keep (y3.ok.none_of hl)))) p3⟩
  · obtain ⟨a, xs, rfl, h, rr⟩ := r3.vw y3.ok
    exact .inl ⟨a, xs, rfl, SqL.of h, fun l hl => q _ (.lst _) _ _ (y.trans (Ext.newG y3.ok hl)) (.lst updG_same (rr.cut.mono (updG_keep (y3.ok.none_of hl)))) p3⟩
  · rename_i ds
    have r0 := r3.tupR
    obtain ⟨a, xs, rfl, h, rr⟩ := r3.tup y3.ok
    refine .inr (.inl ⟨a, xs, rfl, h, fun w => ?_, fun _ l ob hl ho => let ⟨x1, x2⟩ := Ext.newT (C := cx X) (o := ob) y3.ok hl ho rr.cut; q _ (.tup _) _ _ (y.trans x1) x2 p3⟩)
    refine q _ _ _ _ y r0 ?_
    have e : cutD ds o o2 = ds := by
      unfold cutD
      rw [← rr.length, w.1, w.2, List.drop_zero, Nat.sub_zero, rr.length, List.take_length]
    rw [e] at p3
    exact p3
  · exact .inr (.inr ⟨_, r3.str, by rw [sizeLine_eq]; exact p3.1, q _ _ _ _ y (.str _) p3.2⟩)
  · exact p3.elim
theorem RV.nd {C : Ctx} {G : Gp} {H : Hp} {v : V} {d : D} {ds : List D} {ns : List Int} (k : Ok G H) (r : RV C G H v d) (e : itemsD d = some ds) (en : intsD ds = some ns) : ∃ a T, v = .ref a ∧ ∀ G' H', Ext G H G' H' → Nd C.K H' a T (ns.map V.int) := by
  rw [intsD_eq en] at e
  unfold itemsD at e
  split at e
  · cases e
    rcases r with r | ⟨a, xs, ds', rfl, e, h, g, r⟩
    · cases r with
      | @lst a xs _ h r =>
        rw [r.int] at h
        exact ⟨a, "list", rfl, fun G' H' x => .inl ⟨rfl, SqL.of (x.ok.fz (x.g _ _ h))⟩⟩
    · cases e
      rw [r.int] at h
      exact ⟨a, "list", rfl, fun G' H' x => .inl ⟨rfl, SqL.of (x.h _ _ h g).1⟩⟩
  · cases e
    cases r.scal (fun _ z => by cases z) with
    | @vw a xs _ h r =>
      rw [r.int] at h
      exact ⟨a, "list", rfl, fun G' H' x => .inl ⟨rfl, SqL.of (x.ok.vw (x.g _ _ h))⟩⟩
  · cases e
    cases r.tupR with
    | @tup a xs _ h r =>
      refine ⟨a, "tuple", rfl, fun G' H' x => .inr ⟨rfl, ?_⟩⟩
      rw [r.int] at h
      rcases h.mono x.g with ⟨o, h, hd⟩ | h
      · exact .inl ⟨o, x.ok.fz h, hd⟩
      · exact .inr h
  · cases e
def pCount (po pe : PX) : PX := fun δ P P2 => po δ (fun x => match itemsD x with
  | some ds => (match intsD ds with | some ns => pe δ (fun y => match y with | .int k => P (.int (ns.count k : Nat)) | _ => False) P2 | none => False)
  | none => False) P2
theorem lx_count {o e : Expr} {to te : TE} {po pe : PX} {apos cpos : Pos} (ho : LV X E o to po) (he : LX X E e te pe)
    (hbase : attributeBase o "count" X.env (eval o X.env) = eval o X.env := by rfl)
    (hfew : ((backTo cpos (starEach [e] X.env)).all (fun x => !x.1) && (backToKw cpos (keywordEach [] X.env)).all (fun x => x.1.isSome)
      && decide ([e].length + ([] : List Keyword).length + (if ([] : List Keyword).isEmpty then 0 else 1) < 30)) = true := by rfl)
    (hline : (apos.endLine == cpos.line) = true := by rfl) (hs : starEach [e] X.env = (false, eval e X.env) :: starEach [] X.env := by rfl) :
    LX X E (.Call (.Attribute o "count" apos) [e] [] cpos) (tCnt X.K to te) (pCount po pe) := by
  refine ⟨pe_cnt ho.py he.py hbase hfew hline hs, fun {δ σ G H H0 Q P P2} k s x p q => ho.le k s x p fun v d G1 H1 y1 r1 p1 => ?_⟩
  split at p1
  · rename_i ds ed
    split at p1
    · rename_i ns en
      obtain ⟨a, T, ev, nd⟩ := r1.nd y1.ok ed en
      refine ⟨a, T, ns, ev, nd _ _ (.refl y1.ok), he.le y1.ok (s.ext y1) (x.ext y1) p1 fun w d2 G2 H2 y2 r2 p2 => ?_⟩
      split at p2
      · obtain rfl := r2.intR
        exact ⟨_, rfl, nd _ _ y2, q _ _ _ _ (y1.trans y2) (.int _) p2⟩
      · exact p2.elim
    · exact p1.elim
  · exact p1.elim
end
end Pu
set_option Elab.async false
set_option linter.all false
set_option maxRecDepth 100000
set_option maxHeartbeats 2000000
set_option autoImplicit false
namespace Pu
open PySem PySem.Spec PyProof.Rows L2
def isTy (T : String) : D → Option Bool
  | .non => some false
  | .bl _ => some (T == "bool" || T == "int")
  | .int _ => some (T == "int")
  | .str _ => some (T == "str")
  | .lst _ => some (T == "list")
  | .vw _ => some (T == "list")
  | .script _ => some (T == "list")
  | .tup _ => some (T == "tuple")
  | _ => none
def IsTyT (T : String) : Prop := kitB "NoneType" T = some false ∧ kitB "bool" T = some (T == "bool" || T == "int") ∧ kitB "int" T = some (T == "int") ∧ kitB "str" T = some (T == "str") ∧ kitB "list" T = some (T == "list") ∧ kitB "tuple" T = some (T == "tuple")
theorem isTy_bool : IsTyT "bool" := by unfold IsTyT; decide +kernel
theorem isTy_int : IsTyT "int" := by unfold IsTyT; decide +kernel
theorem isTy_str : IsTyT "str" := by unfold IsTyT; decide +kernel
theorem isTy_list : IsTyT "list" := by unfold IsTyT; decide +kernel
theorem isTy_tuple : IsTyT "tuple" := by unfold IsTyT; decide +kernel
def tyD : D → Option String
  | .non => some "NoneType"
  | .bl _ => some "bool"
  | .int _ => some "int"
  | .str _ => some "str"
  | .lst _ => some "list"
  | .vw _ => some "list"
  | .script _ => some "list"
  | .tup _ => some "tuple"
  | _ => none
theorem isTy_kit {T : String} (h : IsTyT T) {d : D} {b : Bool} (e : isTy T d = some b) : ∃ t, tyD d = some t ∧ kitB t T = some b := by
  obtain ⟨h0, h1, h2, h3, h4, h5⟩ := h
  cases d with
  | non => cases e; exact ⟨_, rfl, h0⟩
  | bl _ => cases e; exact ⟨_, rfl, h1⟩
  | int _ => cases e; exact ⟨_, rfl, h2⟩
  | str _ => cases e; exact ⟨_, rfl, h3⟩
  | lst _ => cases e; exact ⟨_, rfl, h4⟩
  | vw _ => cases e; exact ⟨_, rfl, h4⟩
  | script _ => cases e; exact ⟨_, rfl, h4⟩
  | tup _ => cases e; exact ⟨_, rfl, h5⟩
  | obj _ _ => cases e
  | pool => cases e
  | pin _ _ => cases e
  | cls _ => cases e
section
variable {X : Cx} {E : L2.St → XK}
theorem ty_RV {C : Ctx} {G : Gp} {H : Hp} {v : V} {d : D} {t : String} (k : Ok G H) (r : RV C G H v d) (e : tyD d = some t) : TyX C.K H v (.type t) := by
  rcases r with r | ⟨a, xs, ds, rfl, rfl, h, g, r⟩
  · cases r with
    | non => cases e; exact .base .non
    | bl b => cases e; exact .base (.bl b)
    | int i => cases e; exact .base (.int i)
    | str x => cases e; exact .base (.str x)
    | lst h r => cases e; exact .base (.lst (k.fz h))
    | vw h r => cases e; exact .base (.lst (k.vw h))
    | script h =>
      cases e
      rcases h with h | ⟨o, h⟩ | ⟨o, its, n, h, hc, _⟩
      · exact .base (.lst (k.lk h))
      · exact .base (.frz (k.fz h))
      · exact .kList h hc
    | tup h r =>
      cases e
      rcases h with ⟨o, h, _⟩ | ⟨o, its, n, h, hc, _⟩
      · exact .fTuple (k.fz h)
      · exact .kTuple h hc
    | obj _ _ _ _ => cases e
    | pool _ => cases e
    | pin _ => cases e
    | cls _ => cases e
  · cases e
    exact .base (.lst h)
def pIsT (T : String) (pe : PX) : PX := fun δ P P2 => pe δ (fun d => match isTy T d with | some b => P (.bl b) | none => False) P2
theorem lx_isT (T : String) {e : Expr} {te : TE} {pe : PX} {x : Str} {p p2 pos : Pos} (hT : IsTyT T) (he : LV X E e te pe) (hg : Gl X "isinstance") (hm : X.mg "isinstance" = none) (hgx : Gl X x) (hmx : X.mg x = none) (hv : bootBuiltins x = some (.type T)) (hv2 : bootBuiltins "isinstance" = some (.builtin "isinstance"))
    (hn : x ≠ "__name__" := by decide) (hd : (x == ("__debug__" : Str)) = false := by decide)
    (h1 : starEach [e, .Name x p2] X.env = (false, eval e X.env) :: starEach [.Name x p2] X.env := by rfl) (h2 : starEach [.Name x p2] X.env = (false, eval (.Name x p2) X.env) :: starEach [] X.env := by rfl)
    (hpl : (backTo pos (starEach [.Name x p2] X.env)).any (·.1) = false := by rfl) :
    LX X E (.Call (.Name "isinstance" p) [e, .Name x p2] [] pos) (tCB (rIsi X.K) (tCons te (tCons (tC (.ty T)) tNil))) (pIsT T pe) := by
  refine ⟨pe_callB call_isi hg hm hv2 (pa_cons he.py (pa_cons (pe_bltn hgx hmx hv rfl hn hd) pa_nil h2) h1) (by decide) (by decide) h1 hpl, fun {δ σ G H H0 Q P P2} k s x p q => he.le k s x p fun v d G1 H1 y1 r1 p1 => ?_⟩
  split at p1
  · rename_i b eb
    obtain ⟨t, et, ek⟩ := isTy_kit hT eb
    exact ⟨v, .ty T, .type t, .type T, b, rfl, .ty T, ty_RV y1.ok r1 et, kit_ty ek, q _ _ _ _ y1 (.bl b) p1⟩
  · exact p1.elim
structure IsC (K : PySem.W.Frag) (mgv : Str → Option Value) (c : Nat) (A : Addr) (cs : List Nat) : Prop where
  mg : mgv (cname c) = some (.ref A)
  ty : ∀ t ∈ ["NoneType", "bool", "int", "str", "list", "tuple"], PySem.W.kitOne K (.type t) (.ref A) = some false
  own : ∀ c' ∈ cs, ∀ A', mgv (cname c') = some (.ref A') → PySem.W.kitOne K (.ref A') (.ref A) = some (c' == c) ∧ Cls K A' ∧ PySem.W.findIn K (.ref A') "__class__" = some (some (.builtin "object.__class__")) ∧ PySem.W.mroIn K A' (.type "object") = some true
  hn : PySem.W.specialIn K (.builtin "object.__class__") "__get__" = some (some (.builtin "getset_descriptor.__get__"))
  ht : PySem.W.takesIn K (.builtin "object.__class__") = some true
def isCl (c : Nat) (cs : List Nat) : D → Option Bool := fun d => match d with
  | .obj c' _ => if cs.contains c' then some (c' == c) else none
  | d => match tyD d with | some _ => some false | none => none
def pIsC (c : Nat) (cs : List Nat) (pe : PX) : PX := fun δ P P2 => pe δ (fun d => match isCl c cs d with | some b => P (.bl b) | none => False) P2
end
abbrev WN : WX := fun _ _ _ _ => False
def pTryEx (i : Nat) (f : Nat → Option Bool) (ps : Addr → Value → Option Addr → PSx) (P : PEnds) : Dl → Exn → Prop := fun δ' e => match f e.c with
  | some true => ∀ a cls d, ps a cls d { nx := fun δ2 => P.nx (δ2.set i none), rt := P.rt, bk := fun δ2 => P.bk (δ2.set i none), ct := fun δ2 => P.ct (δ2.set i none), ex := fun _ _ => False } (δ'.set i (some (.exc a cls d e)))
  | some false => P.ex δ' e
  | none => False
def pTryAs (i : Nat) (f : Nat → Option Bool) (pb : PSx) (ps : Addr → Value → Option Addr → PSx) : PSx := fun P δ => pb { P with ex := pTryEx i f ps P } δ
def CatT (K : PySem.W.Frag) (mg : Str → Option Value) (cv : Value) (f : Nat → Option Bool) : Prop := ∀ c b, f c = some b → ∀ A, mg (cname c) = some (.ref A) → PySem.W.exmOne K (.ref A) cv = some b
section
variable {X : Cx} {W : WX} {x n : Str} {cv : Value} {i : Nat} {body suite : List Stmt} {b₀ : Stmt} {np pos pos' : Pos} {pb : PSx} {ps : Addr → Value → Option Addr → PSx} {f : Nat → Option Bool}
theorem takes_any {W' : WX} {pn : List (Addr × Obj)} (hs : X.stack = X.env :: X.outer) (hf : X.env.frame = some X.env.locals) :
    Takes (X.tr pn fun e s1 => wpAny (model X.prog X.w) X.A (noteFrame e X.env) (fun _ s2 => wpAny (model X.prog X.w) X.A (setFlight e none) (fun _ _ => True) X.xe s2) X.xe s1) W' := by
  intro u s' ⟨a, B, sI, pins, σ, H, cls, d, eu, J, nb, up, sky, na, os, ag, w⟩
  subst eu
  have hfr : X.A.frames = some (X.env :: X.outer) := J.ok.frames.trans (congrArg some hs)
  have sky' : Sky B (X.env :: X.outer) a (Zc cls d) X.env.locals s'.heap := by rw [← hs]; exact sky
  exact Sky.land Zc.steady hfr hf sky' fun _ _ _ => trivial
theorem dummyZ (cls : Value) (d : Option Addr) : Zc cls d { cls := cls, dict := d, data := .fields #[] } ∧ ∃ vs : Array Value, ({ cls := cls, dict := d, data := .fields #[] } : Obj).data = .fields vs := ⟨⟨rfl, rfl⟩, _, rfl⟩
theorem ls_tryAs (i : Nat) (f : Nat → Option Bool) (hs : X.stack = X.env :: X.outer) (hf : X.env.frame = some X.env.locals) (hN : X.N.Nodup) (hi : X.N[i]? = some n) (hln : X.env.kindOf n = some .local) (hc : Names X x cv) (tk : Takes X W) (T : CatT X.K X.mg cv f)
    (hb : ∀ (W' : WX) (pn : List (Addr × Obj)) (xe : Value → Shared → Prop), Takes (X.tr pn xe) W' → PassesOwn (model X.prog X.w) X.A X.env xe → ∃ t, LSs (X.tr pn xe) (WE W') body t pb)
    (hsu : ∀ (a : Addr) (oe : Obj) (cls : Value) (d : Option Addr) (pn : List (Addr × Obj)), Zc cls d oe → (∃ vs, oe.data = .fields vs) → ∃ t, LSs (X.suite a ((a, oe) :: pn)) (WE WN) (b₀ :: suite) t (ps a cls d)) :
    LS X (WE W) (.Try body [.ExceptHandler (some (.Name x np)) (some n) (b₀ :: suite) pos'] [] [] pos) (fun D σ H => tsOf (cx X) (WE (wAs X.K cv i (fun a cls d => tsOf (cx X) (WE WN) (ps a cls d)) W D)) pb D σ H) (pTryAs i f pb ps) := by
  refine ⟨ps_try_as hs hf hN hi hln hc tk (tb := fun W' => tsOf (cx X) (WE W') pb) (fun W' pn xe h1 h2 => let ⟨_, h⟩ := hb W' pn xe h1 h2; h.sem.py) (fun a oe cls d pn h1 h2 => let ⟨_, h⟩ := hsu a oe cls d pn h1 h2; h.sem.py), fun {G0 H0 Dn P δ σ G H} e t p => ?_⟩
  obtain ⟨t0, ht0⟩ := hb (wAs X.K cv i (fun a cls d => tsOf (cx X) (WE WN) (ps a cls d)) W Dn) [] _ (takes_any hs hf) PassesOwn.looking
  refine ht0.sem.le (P := { P with ex := pTryEx i f ps P }) ⟨e.nx, e.rt, e.bk, e.ct, fun {σ δ G H} t => ?_⟩ t p
  intro G' H' cls d ex y xr p1
  obtain ⟨A, hm, ec, hlen, hd⟩ := id xr
  have p1' : pTryEx i f ps P δ ex := p1
  unfold pTryEx at p1'
  show wAs X.K cv i (fun a cls d => tsOf (cx X) (WE WN) (ps a cls d)) W Dn cls d σ H'
  split at p1'
  · rename_i ef
    refine ⟨true, by rw [ec]; exact T _ _ ef _ hm, fun _ a na => ?_, fun z => absurd z.symm Bool.false_ne_true⟩
    obtain ⟨z1, z2⟩ := dummyZ cls d
    obtain ⟨t1, ht1⟩ := hsu a _ cls d [] z1 z2
    refine ht1.sem.le (P := { nx := fun δ2 => P.nx (δ2.set i none), rt := P.rt, bk := fun δ2 => P.bk (δ2.set i none), ct := fun δ2 => P.ct (δ2.set i none), ex := fun _ _ => False }) (G0 := G0) (H0 := H0) (G := G')
      ⟨fun t p => e.nx ⟨t.ext, t.sr.setN⟩ p, fun t r p => e.rt t r p, fun t p => e.bk ⟨t.ext, t.sr.setN⟩ p, fun t p => e.ct ⟨t.ext, t.sr.setN⟩ p, fun _ _ _ _ _ _ _ _ p => p.elim⟩ ?_ (p1' a cls d)
    exact ⟨t.ext.trans y, (t.sr.ext y).set (.exc xr) (fun z => by cases z) (fun _ _ _ _ _ _ _ _ f => f.elim)⟩
  · rename_i ef
    exact ⟨false, by rw [ec]; exact T _ _ ef _ hm, fun z => absurd z Bool.false_ne_true, fun _ => e.ex t G' H' cls d ex y xr p1'⟩
  · exact p1'.elim
def tXm (K : PySem.W.Frag) (a : Addr) (cls : Value) (d : Option Addr) (fn : Str) (te : TE) : TE := fun σ H Q => ∃ C, XfC K C ∧ PySem.W.findIn K (.ref C) fn = some none ∧ tXf a cls d C fn te σ H Q
def pXm (a : Addr) (cls : Value) (d : Option Addr) (i : Nat) (tbl : List (Nat × Nat)) : PX := fun δ P _ => match δ[i]? with
  | some (some (.exc a' cls' d' e)) => a' = a ∧ cls' = cls ∧ d' = d ∧ (match tbl.lookup e.c with | some j => (match e.ds[j]? with | some x => P x | none => False) | none => False)
  | _ => False
def XfT (K : PySem.W.Frag) (mg : Str → Option Value) (fn : Str) (tbl : List (Nat × Nat)) : Prop := ∀ c j, tbl.lookup c = some j → (cfs c).Nodup ∧ (cfs c)[j]? = some fn ∧ ∀ A, mg (cname c) = some (.ref A) → XfC K A ∧ PySem.W.findIn K (.ref A) fn = some none
theorem lookup_zipR {ns : List Str} {vs : List V} {j : Nat} {f : Str} {v : V} (nd : ns.Nodup) (h1 : ns[j]? = some f) (h2 : vs[j]? = some v) (hl : vs.length = ns.length) : (ns.zip vs).reverse.lookup f = some v := by
  have key : ∀ (l : List (Str × V)), (l.map (·.1)).Nodup → (f, v) ∈ l → l.lookup f = some v := by
    intro l
    induction l with
    | nil => intro _ h; cases h
    | cons p l ih =>
      intro nd h
      obtain ⟨f', v'⟩ := p
      rw [List.map_cons, List.nodup_cons] at nd
      unfold List.lookup
      by_cases e : f = f'
      · subst e
        have eb : (f == f) = true := by simp
        rw [eb]
        rcases List.mem_cons.mp h with h | h
        · cases h; rfl
        · exact absurd (List.mem_map.mpr ⟨_, h, rfl⟩) nd.1
      · have eb : (f == f') = false := by simpa using e
        rw [eb]
        rcases List.mem_cons.mp h with h | h
        · cases h; exact absurd rfl e
        · exact ih nd.2 h
  refine key _ ?_ ?_
  · rw [List.map_reverse, List.map_fst_zip (by omega)]
    exact (List.reverse_perm _).nodup_iff.mpr nd
  · refine List.mem_reverse.mpr (List.mem_of_getElem? (i := j) ?_)
    rw [List.getElem?_zip_eq_some]
    exact ⟨h1, h2⟩
end
section
variable {X : Cx} {a : Addr} {oe : Obj} {cls : Value} {d : Option Addr} {pn : List (Addr × Obj)} {E : L2.St → XK}
theorem lx_xm (i : Nat) (tbl : List (Nat × Nat)) {fn n : Str} {np pos : Pos} (T : XfT X.K X.mg fn tbl) (hz : Zc cls d oe) (hf : ∃ vs, oe.data = .fields vs) (hN : X.N[i]? = some n := by rfl) (hv : Vis X.env.scope n := by first | exact Or.inl rfl | exact Or.inr (Or.inl rfl) | exact Or.inr (Or.inr rfl))
    (hd : (n == ("__debug__" : Str)) = false := by decide) (hcd : (n == ("__classdict__" : Str)) = false := by decide) (hb : attributeBase (.Name n np) fn X.env (eval (.Name n np) X.env) = eval (.Name n np) X.env := by rfl) :
    LX (X.suite a ((a, oe) :: pn)) E (.Attribute (.Name n np) fn pos) (tXm X.K a cls d fn (tVar i)) (pXm a cls d i tbl) := by
  refine ⟨⟨fun pins s σ H Q I ⟨C, h1, h2, h3⟩ => (pe_xf h1 h2 hz hf (pe_var (X := X.suite a ((a, oe) :: pn)) hN hv hd hcd) hb).run pins s σ H Q I h3⟩, fun {δ σ G H H0 Q P P2} k s x p q => ?_⟩
  unfold pXm at p
  split at p
  · rename_i a' cls' d' e es
    obtain ⟨rfl, rfl, rfl, p⟩ := p
    split at p
    · rename_i j ej
      split at p
      · rename_i w ew
        obtain ⟨v, ev, r⟩ := s.at_ i _ es
        cases r with
        | exc xr =>
          obtain ⟨A, hm, rfl, hlen, hd⟩ := xr
          obtain ⟨nd, hfj, hA⟩ := T _ _ ej
          obtain ⟨c1, c2⟩ := hA _ hm
          refine ⟨A, c1, c2, _, ev, rfl, rfl, ?_⟩
          rcases hd with ⟨h0, _⟩ | ⟨dd, vs, rfl, hg, rv⟩
          · rw [h0] at ew; simp at ew
          · obtain ⟨v, evj, rw1⟩ := rv.get ew
            exact ⟨dd, _, v, rfl, k.fz hg, lookup_zipR nd hfj evj (by rw [rv.length, hlen]), q _ _ _ _ (.refl k) rw1 p⟩
      · exact p.elim
    · exact p.elim
  · exact p.elim
def rIsX (K : PySem.W.Frag) (a : Addr) (cls : Value) (d : Option Addr) : List V → Hp → VK → Prop := fun xs H Q => ∃ (c : V) (cv : Value) (b : Bool) (C : Addr), cls = .ref C ∧ ExcC K C ∧ (d = none ∨ ∃ dd fs, d = some dd ∧ H dd = some (.xd fs)) ∧ xs = [.ref a, c] ∧ ClsV c cv ∧ PySem.W.kitOne K (.ref C) cv = some b ∧ Q (.bl b) H
theorem call_isX (hz : Zc cls d oe) (hf : ∃ vs, oe.data = .fields vs) : CallR (X.suite a ((a, oe) :: pn)) (.builtin "isinstance") (rIsX X.K a cls d) := fun pins s σ H xs us Q I r ⟨c, cv, b, C, ec, T, hd, ex, hc, hk, q⟩ => by
  subst ec ex
  obtain ⟨u1, u2, rfl, r1, r2⟩ := vals2 r
  cases r1
  obtain rfl := hc.eq r2
  obtain ⟨at1, _⟩ := I.pin (a, oe) (List.mem_append.mpr (.inl List.mem_cons_self))
  obtain ⟨vs, hv⟩ := hf
  obtain ⟨oc, od, dt, sl⟩ := oe
  obtain ⟨z1, z2⟩ := hz
  simp only at z1 z2 hv
  subst z1 z2 hv
  have J : ∃ o2, PySem.W.InstAt s.heap a ⟨.ref C, od, .fields vs, sl⟩ C o2 := by
    rcases hd with rfl | ⟨dd, fs, rfl, hx⟩
    · exact ⟨none, at1, rfl, rfl, trivial⟩
    · obtain ⟨mA, ns, _⟩ := (show ObjOk X.prog X.w H s.heap dd (.xd fs) from I.hok dd _ hx)
      obtain ⟨o, ho, _⟩ := lookIn_ns ns
      exact ⟨some o, at1, rfl, rfl, ho⟩
  obtain ⟨o2, J⟩ := J
  have hcl : (PySem.W.clsIn X.K C).isSome = true := by
    obtain ⟨cd, hc, _⟩ := PySem.W.any_some T.hd
    rw [hc] <;> rfl
  exact PySem.W.kia_one (PySem.W.kitx_exc hcl T.hg T.hk T.hs T.ha T.hn T.ht T.hm) I.kIn J hk (fun z => nomatch z) fun tk => ⟨.bl b, H, I.tok tk, rfl, q⟩
def IsXT (K : PySem.W.Frag) (mg : Str → Option Value) (cv : Value) (f : Nat → Option Bool) : Prop := ∀ c b, f c = some b → ∀ A, mg (cname c) = some (.ref A) → ExcC K A ∧ PySem.W.kitOne K (.ref A) cv = some b
def pIsX (a : Addr) (cls : Value) (d : Option Addr) (i : Nat) (f : Nat → Option Bool) : PX := fun δ P _ => match δ[i]? with
  | some (some (.exc a' cls' d' e)) => a' = a ∧ cls' = cls ∧ d' = d ∧ (match f e.c with | some b => P (.bl b) | none => False)
  | _ => False
theorem isx_le {i : Nat} {f : Nat → Option Bool} {c : V} {cv : Value} (T : IsXT X.K X.mg cv f) (hc : ClsV c cv) {δ : Dl} {σ : L2.St} {G : Gp} {H H0 : Hp} {Q : VK} {P : D → Prop} {P2 : Exn → Prop} (k : Ok G H) (s : SRel (cx X) H0 G H σ δ) (p : pIsX a cls d i f δ P P2)
    (q : ∀ v d G' H', Ext G H G' H' → R (cx X) G' v d → P d → Q v H') : ∃ v, σ[i]? = some (some v) ∧ rIsX X.K a cls d [v, c] H Q := by
  unfold pIsX at p
  split at p
  · rename_i a' cls' d' e es
    obtain ⟨rfl, rfl, rfl, p⟩ := p
    split at p
    · rename_i b eb
      obtain ⟨v, ev, r⟩ := s.at_ i _ es
      cases r with
      | exc xr =>
        obtain ⟨A, hm, rfl, hlen, hd⟩ := xr
        obtain ⟨t1, t2⟩ := T _ _ eb _ hm
        refine ⟨_, ev, c, cv, b, A, rfl, t1, ?_, rfl, hc, t2, q _ _ _ _ (.refl k) (.bl b) p⟩
        rcases hd with ⟨_, h0⟩ | ⟨dd, vs, e2, hg, rv⟩
        · exact .inl h0
        · exact .inr ⟨dd, _, e2, k.fz hg⟩
    · exact p.elim
  · exact p.elim
theorem lx_isXC (i : Nat) (f : Nat → Option Bool) {x n : Str} {C : Addr} {np p p2 pos : Pos} (T : IsXT X.K X.mg (.ref C) f) (hz : Zc cls d oe) (hf : ∃ vs, oe.data = .fields vs) (hg : Gl X "isinstance") (hm : X.mg "isinstance" = none) (hv2 : bootBuiltins "isinstance" = some (.builtin "isinstance")) (hgx : Gl X x) (hmx : X.mg x = some (.ref C))
    (hN : X.N[i]? = some n := by rfl) (hv : Vis X.env.scope n := by first | exact Or.inl rfl | exact Or.inr (Or.inl rfl) | exact Or.inr (Or.inr rfl))
    (hd : (n == ("__debug__" : Str)) = false := by decide) (hcd : (n == ("__classdict__" : Str)) = false := by decide) (hdx : (x == ("__debug__" : Str)) = false := by decide) :
    LX (X.suite a ((a, oe) :: pn)) E (.Call (.Name "isinstance" p) [.Name n np, .Name x p2] [] pos) (tCB (rIsX X.K a cls d) (tCons (tVar i) (tCons (tC (.ref C)) tNil))) (pIsX a cls d i f) :=
  ⟨pe_callB (X := X.suite a ((a, oe) :: pn)) (call_isX hz hf) hg hm hv2 (pa_cons (pe_var (X := X.suite a ((a, oe) :: pn)) hN hv hd hcd) (pa_cons (pe_glob (X := X.suite a ((a, oe) :: pn)) hgx hmx rfl hdx) pa_nil)),
    fun k s x p q => isx_le T (.own C) k s p q⟩
theorem lx_isXT (i : Nat) (f : Nat → Option Bool) {x n : Str} {B : String} {np p p2 pos : Pos} (T : IsXT X.K X.mg (.type B) f) (hz : Zc cls d oe) (hf : ∃ vs, oe.data = .fields vs) (hg : Gl X "isinstance") (hm : X.mg "isinstance" = none) (hv2 : bootBuiltins "isinstance" = some (.builtin "isinstance")) (hgx : Gl X x) (hmx : X.mg x = none) (hvx : bootBuiltins x = some (.type B))
    (hN : X.N[i]? = some n := by rfl) (hv : Vis X.env.scope n := by first | exact Or.inl rfl | exact Or.inr (Or.inl rfl) | exact Or.inr (Or.inr rfl))
    (hd : (n == ("__debug__" : Str)) = false := by decide) (hcd : (n == ("__classdict__" : Str)) = false := by decide) (hnx : x ≠ "__name__" := by decide) (hdx : (x == ("__debug__" : Str)) = false := by decide) :
    LX (X.suite a ((a, oe) :: pn)) E (.Call (.Name "isinstance" p) [.Name n np, .Name x p2] [] pos) (tCB (rIsX X.K a cls d) (tCons (tVar i) (tCons (tC (.ty B)) tNil))) (pIsX a cls d i f) :=
  ⟨pe_callB (X := X.suite a ((a, oe) :: pn)) (call_isX hz hf) hg hm hv2 (pa_cons (pe_var (X := X.suite a ((a, oe) :: pn)) hN hv hd hcd) (pa_cons (pe_bltn (X := X.suite a ((a, oe) :: pn)) hgx hmx hvx rfl hnx hdx) pa_nil)),
    fun k s x p q => isx_le T (.ty B) k s p q⟩
end
end Pu
set_option Elab.async false
set_option linter.all false
set_option maxRecDepth 100000
set_option maxHeartbeats 2000000
set_option autoImplicit false
namespace Pu
open PySem PySem.Spec PyProof.Rows L2
mutual
def noL : D → Bool
  | .non => true
  | .bl _ => true
  | .int _ => true
  | .str _ => true
  | .lst _ => false
  | .vw _ => false
  | .tup ds => noLL ds
  | .obj _ ds => noLL ds
  | .pool => false
  | .cls _ => true
  | .script _ => false
  | .pin _ _ => false
def noLL : List D → Bool
  | [] => true
  | d :: ds => noL d && noLL ds
end
section
variable {C : Ctx} {G G1 G2 G3 : Gp} {H H1 H2 : Hp}
mutual
theorem R.noL (k : ∀ a g, G2 a = some g → (∀ xs, g ≠ .fz (.lst xs)) → (∀ l ns, g ≠ .pool l ns) → G3 a = some g) : ∀ {v : V} {d : D}, R C G2 v d → noL d = true → R C G3 v d
  | _, _, .non, _ => .non
  | _, _, .bl b, _ => .bl b
  | _, _, .int i, _ => .int i
  | _, _, .str x, _ => .str x
  | _, _, .tup h r, e => by
    unfold Pu.noL at e
    refine .tup ?_ (RAll.noL k r e)
    rcases h with ⟨o, h, hd⟩ | h
    · exact .inl ⟨o, k _ _ h (fun _ z => by cases z) (fun _ _ z => by cases z), hd⟩
    · exact .inr h
  | _, _, .obj m h r l, e => by
    unfold Pu.noL at e
    exact .obj m (k _ _ h (fun _ z => by cases z) (fun _ _ z => by cases z)) (RAll.noL k r e) l
  | _, _, .cls m, _ => .cls m
  | _, _, .lst _ _, e => by unfold Pu.noL at e; cases e
  | _, _, .vw _ _, e => by unfold Pu.noL at e; cases e
  | _, _, .script _, e => by unfold Pu.noL at e; cases e
  | _, _, .pool _, e => by unfold Pu.noL at e; cases e
  | _, _, .pin _, e => by unfold Pu.noL at e; cases e
theorem RAll.noL (k : ∀ a g, G2 a = some g → (∀ xs, g ≠ .fz (.lst xs)) → (∀ l ns, g ≠ .pool l ns) → G3 a = some g) : ∀ {vs : List V} {ds : List D}, RAll C G2 vs ds → noLL ds = true → RAll C G3 vs ds
  | _, _, .nil, _ => .nil
  | _, _, .cons r t, e => by
    unfold noLL at e
    rw [Bool.and_eq_true] at e
    exact .cons (R.noL k r e.1) (RAll.noL k t e.2)
end
structure Lent (G G1 : Gp) (H : Hp) : Prop where
  g : ∀ a g, G a = some g → G1 a = some g
  n : ∀ a g, G1 a = some g → G a = some g ∨ (G a = none ∧ ∃ xs, g = .fz (.lst xs) ∧ H a = some (.lst xs))
  ok : Ok G1 H
theorem Lent.refl (k : Ok G H) : Lent G G H := ⟨fun _ _ h => h, fun _ _ h => .inl h, k⟩
theorem lend : ∀ {vs : List V} {ds : List D} {G1 : Gp}, Lent G G1 H → RVAll C G H vs ds → ∃ G2, Lent G G2 H ∧ (∀ a g, G1 a = some g → G2 a = some g) ∧ RAll C G2 vs ds
  | _, _, _, l, .nil => ⟨_, l, fun _ _ h => h, .nil⟩
  | _, _, G1, l, .cons (v := v) (d := d) r t => by
    have one : ∃ G3, Lent G G3 H ∧ (∀ a g, G1 a = some g → G3 a = some g) ∧ R C G3 v d := by
      rcases r with r | ⟨a, xs, ds, rfl, rfl, h, g, r⟩
      · exact ⟨G1, l, fun _ _ h => h, r.mono l.g⟩
      · cases e : G1 a with
        | some u =>
          rcases l.n a u e with z | ⟨_, ys, rfl, hy⟩
          · rw [g] at z; cases z
          · rw [h] at hy
            cases hy
            exact ⟨G1, l, fun _ _ h => h, .lst e (r.mono l.g)⟩
        | none =>
          refine ⟨updG G1 a (.fz (.lst xs)), ⟨fun b u hb => updG_keep e b u (l.g b u hb), fun b u hb => ?_, l.ok.fzG h e⟩, updG_keep e, .lst updG_same (r.mono fun b u hb => updG_keep e b u (l.g b u hb))⟩
          by_cases z : b = a
          · subst z
            rw [updG_same] at hb
            cases hb
            exact .inr ⟨g, xs, rfl, h⟩
          · rw [updG_ne z] at hb
            exact l.n b u hb
    obtain ⟨G3, l3, k3, r3⟩ := one
    obtain ⟨G2, l2, k2, r2⟩ := lend l3 t
    exact ⟨G2, l2, fun a g h => k2 a g (k3 a g h), .cons (r3.mono k2) r2⟩
def backG (G G1 G2 : Gp) : Gp := fun a => match G a with
  | some g => some g
  | none => match G1 a with
    | some _ => none
    | none => match G2 a with
      | some (.fz (.lst _)) => none
      | some (.pool _ _) => none
      | x => x
theorem back_keep {G G1 G2 : Gp} {a : Addr} {g : GO} (h : G2 a = some g) (h1 : ∀ xs, g ≠ .fz (.lst xs)) (h2 : ∀ l ns, g ≠ .pool l ns) (l : Lent G G1 H) (x : ∀ a g, G1 a = some g → G2 a = some g) : backG G G1 G2 a = some g := by
  unfold backG
  cases e : G a with
  | some u =>
    have z := x _ _ (l.g _ _ e)
    rw [h] at z
    exact z.symm
  | none =>
    cases e1 : G1 a with
    | some u =>
      rcases l.n _ _ e1 with z | ⟨_, xs, rfl, _⟩
      · rw [e] at z; cases z
      · have z := x _ _ e1
        rw [h] at z
        cases z
        exact absurd rfl (h1 xs)
    | none =>
      simp only
      rw [h]
      split
      · rename_i xs z
        cases z
        exact absurd rfl (h1 _)
      · rename_i l ns z
        cases z
        exact absurd rfl (h2 _ _)
      · rfl
theorem Ext.back_of {G G1 G2 : Gp} {H H2 : Hp} (l : Lent G G1 H) (x : Ext G1 H G2 H2) (k : Ok G H) : Ext G H (backG G G1 G2) H2 := by
  refine ⟨fun a g h => by unfold backG; rw [h], ⟨fun a g h => ?_⟩, fun a o h g => ?_⟩
  · unfold backG at h
    cases e : G a with
    | some u =>
      have eu : u = g := by rw [e] at h; exact Option.some.inj h
      subst eu
      have z := x.ok.at_ a _ (x.g _ _ (l.g _ _ e))
      cases u with
      | fz o => exact z
      | pool p ns =>
        have z0 : PoolAt H a p ns ∧ LkG G p (ns.map V.int) := k.at_ a _ e
        have z1 : PoolAt H2 a p ns ∧ _ := z
        refine ⟨z1.1, ?_⟩
        unfold LkG backG
        rcases z0.2 with z2 | z2
        · rw [z2]; exact .inl rfl
        · rw [z2]; exact .inr rfl
      | vw u => exact z
    | none =>
      rw [e] at h
      cases e1 : G1 a with
      | some u => rw [e1] at h; cases h
      | none =>
        rw [e1] at h
        simp only at h
        split at h
        · cases h
        · cases h
        · rename_i n1 n2
          have z := x.ok.at_ a g h
          cases g with
          | fz o => exact z
          | pool p ns => exact absurd h (n2 p ns)
          | vw u => exact z
  · cases e1 : G1 a with
    | some u =>
      rcases l.n _ _ e1 with z | ⟨_, xs, rfl, hx⟩
      · rw [g] at z; cases z
      · rw [h] at hx
        cases hx
        refine ⟨x.ok.fz (x.g _ _ e1), ?_⟩
        unfold backG
        rw [g]
        simp only
        rw [e1]
    | none =>
      obtain ⟨h1, g1⟩ := x.h a o h e1
      refine ⟨h1, ?_⟩
      unfold backG
      rw [g]
      simp only
      rw [e1]
      simp only
      rw [g1]
end

theorem XR.noL {C : Ctx} {G2 G3 : Gp} {cls : Value} {d : Option Addr} {e : Exn} (k : ∀ a g, G2 a = some g → (∀ xs, g ≠ .fz (.lst xs)) → (∀ l ns, g ≠ .pool l ns) → G3 a = some g) (r : XR C G2 cls d e) (h : noLL e.ds = true) : XR C G3 cls d e := by
  obtain ⟨A, h1, h2, h3, h4⟩ := r
  refine ⟨A, h1, h2, h3, ?_⟩
  rcases h4 with h4 | ⟨dd, vs, e1, e2, e3⟩
  · exact .inl h4
  · exact .inr ⟨dd, vs, e1, k _ _ e2 (fun _ z => by cases z) (fun _ _ z => by cases z), RAll.noL k e3 h⟩
theorem EOk.lent {C : Ctx} {G G1 : Gp} {H : Hp} {E : XK} {P : Exn → Prop} (x : EOk C G H E P) (l : Lent G G1 H) (k : Ok G H) : EOk C G1 H E (fun e => noLL e.ds = true ∧ P e) := fun G' H' cls d e y r p =>
  x (backG G G1 G') H' cls d e (Ext.back_of l y k) (r.noL (fun _ _ h h1 h2 => back_keep h h1 h2 l y.g) p.1) p.2
section
variable {X : Cx} {W : WX} {k : Nat} {f : Addr} {fd : FuncData} {ps : List Str} {x m : Str} {p pos apos : Pos} {e o : Expr} {es : List Expr} {ta : TE} {t : TA} {psp : PSp} {pa : PAx} {po : PX}
structure LWn (X : Cx) (E : L2.St → XK) (es : List Expr) (ta : TA) (pa : PAx) (n : Nat) : Prop where
  py : PA X es ta
  le : ∀ {δ : Dl} {σ : L2.St} {G : Gp} {H H0 : Hp} {Q : List V → Hp → Prop} {P : List D → Prop} {P2 : Exn → Prop}, Ok G H → SRel (cx X) H0 G H σ δ → EOk (cx X) G H (E σ) P2 → pa δ P P2 →
    (∀ vs ds G' H', vs.length = n → Ext G H G' H' → RVAll (cx X) G' H' vs ds → P ds → Q vs H') → ta σ H Q
theorem lwn_nil {E : L2.St → XK} : LWn X E [] tNil pNil 0 := ⟨pa_nil, fun k s x p q => q _ _ _ _ rfl (.refl k) .nil p⟩
theorem lwn_cons {E : L2.St → XK} {te : TE} {pe : PX} {n : Nat} (he : LV X E e te pe) (ha : LWn X E es t pa n) (hs : starEach (e :: es) X.env = (false, eval e X.env) :: starEach es X.env := by rfl) : LWn X E (e :: es) (tCons te t) (pCons pe pa) (n + 1) :=
  ⟨pa_cons he.py ha.py hs, fun k s x p q => he.le k s x p fun v d G1 H1 y1 r1 p1 => ha.le y1.ok (s.ext y1) (x.ext y1) p1 fun vs ds G2 H2 hn y2 r2 p2 =>
    q _ _ G2 H2 (by rw [List.length_cons, hn]) (y1.trans y2) (.cons (r1.ext y2) r2) p2⟩
def spW (psp : PSp) (ds : List D) (P : D → Prop) (P2 : Exn → Prop) : Prop := psp ds (fun d => noL d = true ∧ P d) (fun e => noLL e.ds = true ∧ P2 e)
def pCallW (psp : PSp) (pa : PAx) : PX := fun δ P P2 => pa δ (fun ds => spW psp ds P P2) P2
theorem callW_le {vs : List V} {ds : List D} {σ : L2.St} {G : Gp} {H : Hp} {Q : VK} {P : D → Prop} {P2 : Exn → Prop} {n : Nat} (hn : vs.length = n) (ok : Ok G H) (r : RVAll (cx X) G H vs ds) (x : EOk (cx X) G H (WE W σ) P2) (p : spW psp ds P P2)
    (q : ∀ v d G' H', Ext G H G' H' → R (cx X) G' v d → P d → Q v H') : liftSp (cx X) psp n vs H Q (WE W σ) := by
  obtain ⟨G2, l, _, r2⟩ := lend (Lent.refl ok) r
  exact ⟨hn, G2, ds, _, _, l.ok, r2, p, fun v d G' H' y r pd => q v d (backG G G2 G') H' (Ext.back_of l y ok) (r.noL (fun _ _ h h1 h2 => back_keep h h1 h2 l y.g) pd.1) pd.2, x.lent l ok⟩
theorem lx_callW (tk : Takes X W) (F : FnOk X.prog X.w X.K X.mg X.base (L2.CX X.prog X.w) k f fd ps (liftSp (cx X) psp ps.length)) (hr : Room k X.A) (hg : Gl X x) (hm : X.mg x = some (.ref f)) (hk : PySem.W.keepIn X.K (.ref f) = true) (hb : Binds X.K fd ps [])
    (ha : LWn X (WE W) (e :: es) t pa ps.length) (hdb : (x == ("__debug__" : Str)) = false := by decide) (he : starEach (e :: es) X.env = (false, eval e X.env) :: starEach es X.env := by rfl) (hpl : (backTo pos (starEach es X.env)).any (·.1) = false := by rfl) :
    LX X (WE W) (.Call (.Name x p) (e :: es) [] pos) (tCallS (liftSp (cx X) psp ps.length) (WE W) t) (pCallW psp pa) :=
  ⟨pe_callS F hr hg hm hk hb (fun σ => passAt tk σ) ha.py hdb he hpl, fun k s x p q => ha.le k s x p fun vs ds G1 H1 hn y1 r1 p1 =>
    callW_le hn y1.ok r1 (x.ext y1) p1 fun v d G' H' y r pd => q v d G' H' (y1.trans y) r pd⟩
def pMakeW (c : Nat) (pi : PSpI) (pa : PAx) : PX := fun δ P P2 => pa δ (fun ds => pi ds (fun fs => noLL fs = true ∧ P (.obj c fs)) (fun e => noLL e.ds = true ∧ P2 e)) P2
theorem makeW_le {c n : Nat} {C : Addr} {pi : PSpI} (hm : X.mg (cname c) = some (.ref C)) {vs : List V} {ds : List D} {σ : L2.St} {G : Gp} {H : Hp} {Q : VK} {P : D → Prop} {P2 : Exn → Prop} (hn : vs.length = n) (ok : Ok G H) (r : RVAll (cx X) G H vs ds) (x : EOk (cx X) G H (WE W σ) P2)
    (p : pi ds (fun fs => noLL fs = true ∧ P (.obj c fs)) (fun e => noLL e.ds = true ∧ P2 e)) (q : ∀ v d G' H', Ext G H G' H' → R (cx X) G' v d → P d → Q v H') {a dx : Addr} (na : H a = none) (nd : H dx = none) (ne : dx ≠ a) :
    liftInit (cx X) c pi (n + 1) (.ref a :: vs) (upd (upd H dx (.own a)) a (.ins C dx [])) (fun v H2 => v = .non ∧ Q (.ref a) H2) (WE W σ) := by
  obtain ⟨G2, l, _, r2⟩ := lend (Lent.refl ok) r
  refine ⟨by rw [List.length_cons, hn], G2, H, a, dx, C, vs, ds, _, _, rfl, rfl, na, nd, ne, hm, l.ok, r2, p, fun vsF dsF dx' G' H' y2 hx gx rF hl pF => ⟨rfl, ?_⟩, x.lent l ok⟩
  have gb : backG G G2 G' a = none := by
    unfold backG
    rw [ok.none_of na]
    simp only
    rw [l.ok.none_of na]
    simp only
    rw [gx]
  have kp : ∀ b g, G' b = some g → (∀ xs, g ≠ .fz (.lst xs)) → (∀ l ns, g ≠ .pool l ns) → backG G G2 G' b = some g := fun _ _ h h1 h2 => back_keep h h1 h2 l y2.g
  exact q (.ref a) (.obj c dsF) (updG (backG G G2 G') a (.fz (.ins C dx' (mkF c vsF)))) H' ((Ext.back_of l y2 ok).share na hx gb) (.obj hm updG_same ((RAll.noL kp rF pF.1).mono (updG_keep gb)) hl) pF.2
theorem lx_makeW {c n : Nat} {C : Addr} {pi : PSpI} (tk : Takes X W) (M : Mk X.K C f) (hm : X.mg (cname c) = some (.ref C)) (F : FnOk X.prog X.w X.K X.mg X.base (L2.CX X.prog X.w) k f fd ps (liftInit (cx X) c pi (n + 1))) (hr : Room (k + 1) X.A) (hg : Gl X (cname c)) (hb : Binds X.K fd ps [])
    (ha : LWn X (WE W) (e :: es) t pa n) (hdb : (cname c == ("__debug__" : Str)) = false := by decide) (he : starEach (e :: es) X.env = (false, eval e X.env) :: starEach es X.env := by rfl) (hpl : (backTo pos (starEach es X.env)).any (·.1) = false := by rfl) :
    LX X (WE W) (.Call (.Name (cname c) p) (e :: es) [] pos) (tMakeS C (liftInit (cx X) c pi (n + 1)) (WE W) t) (pMakeW c pi pa) :=
  ⟨pe_makeS M F hr hg hm hb (fun σ => passAt tk σ) ha.py hdb he hpl, fun {δ σ G H H0 Q P P2} k s x p q => ha.le k s x p fun vs ds G1 H1 hn y r p1 => fun a dx na nd ne =>
    makeW_le hm hn y.ok r (x.ext y) p1 (fun v d G' H' y2 r2 p2 => q v d G' H' (y.trans y2) r2 p2) na nd ne⟩
def tMakeV (C : Addr) (sp : Sp) (E : L2.St → XK) (tf : TE) (t : TA) : TE := fun σ H Q => tf σ H fun v H1 => v = .ref C ∧ tMakeS C sp E t σ H1 Q
def pMakeV (i c : Nat) (pi : PSpI) (pa : PAx) : PX := fun δ P P2 => match δ[i]? with
  | some (some (.d (.cls c'))) => c' = c ∧ pMakeW c pi pa δ P P2
  | _ => False
def tCMS (C : Addr) (sp : Sp) (E : L2.St → XK) (ta : TE) (t : TA) : TE := fun σ H Q => ta σ H fun v H1 => v = .ref C ∧ t σ H1 fun vs H2 => sp (.ref C :: vs) H2 Q (E σ)
structure CmT (K : PySem.W.Frag) (mgv : Str → Option Value) (c : Nat) (A : Addr) (m : Str) (f : Addr) : Prop where
  mg : mgv (cname c) = some (.ref A)
  rd : ∃ mc pp, ClX.CRead K A mc ∧ ClX.CMet K A mc m pp f
def pCm (c : Nat) (psp : PSp) (pa : PAx) : PX := fun δ P P2 => pa δ (fun ds => spW psp (.cls c :: ds) P P2) P2
structure CvT (K : PySem.W.Frag) (mgv : Str → Option Value) (c : Nat) (A : Addr) (fn : Str) (i : Int) : Prop where
  mg : mgv (cname c) = some (.ref A)
  rd : ∃ mc u, ClX.CRead K A mc ∧ ClX.CVal K A mc fn (.int i) u
theorem lx_cval {E : L2.St → XK} {c : Nat} {A : Addr} {fn : Str} {i : Int} {np : Pos} (T : CvT X.K X.mg c A fn i) (hgx : Gl X (cname c)) (hdb : (cname c == ("__debug__" : Str)) = false := by decide)
    (hb : attributeBase (.Name (cname c) np) fn X.env (eval (.Name (cname c) np) X.env) = eval (.Name (cname c) np) X.env := by rfl) :
    LX X E (.Attribute (.Name (cname c) np) fn pos) (ClX.tCVal X.K (tC (.ref A)) fn) (pC (.int i)) := by
  obtain ⟨mc, u, cr, cv⟩ := T.rd
  exact ⟨ClX.pe_cval (pe_glob hgx T.mg rfl hdb) hb, fun k s x p q => ⟨A, mc, .int i, u, rfl, cr, cv, q _ _ _ _ (.refl k) (.int i) p⟩⟩
def rSumA (K : PySem.W.Frag) : List V → Hp → VK → Prop := fun vs H Q => ∃ a ns, vs = [V.ref a] ∧ (SqL K H a (ns.map V.int) ∨ SqT K H a (ns.map V.int)) ∧ Q (.int (List.sum ns)) H
theorem cr_sumA (hc : X.calm = true) : CallR X (.builtin "sum") (rSumA X.K) := fun pins s σ H vs us Q I r ⟨a, ns, e, h, q⟩ => by
  rcases h with h | h
  · exact cr_sum hc pins s σ H vs us Q I r ⟨a, ns, e, h, q⟩
  · subst e
    obtain ⟨its, rv, p, _⟩ := I.tuple h
    rw [Vals.ref1 r]
    obtain ⟨xs, ex⟩ := rv.ints.allInts.items
    have hn : numsOf (intItems xs).toList = ns := by rw [← ex]; exact rv.ints.numsOf
    rw [nums_intItems] at hn
    have p' : s.heap.IsTuple a (intItems xs) := by rw [← ex]; exact p
    refine PySem.W.ktm_sumG (I.ok.hd hc) p' fun h' tk t' hk => ⟨.int _, H, I.kept hk, ⟨t', ?_⟩, q⟩
    rw [preSum_eq, List.take_of_length_le (by simp), hn]
def fSumA : PFn := fun ds P => match ds with | [d] => (match itemsD d with | some es => (match intsD es with | some ns => P (.int (List.sum ns)) | none => False) | none => False) | _ => False
theorem cl_sumA : CL X (rSumA X.K) fSumA := by
  refine ⟨fun {G H vs ds Q P} k r0 p q => ?_⟩
  unfold fSumA at p
  split at p
  · split at p
    · rename_i es e1
      split at p
      · rename_i ns e2
        obtain ⟨v, rfl, r⟩ := r0.one
        obtain ⟨a, xs, rfl, h, r⟩ := r.items k e1
        rw [intsD_eq e2] at r
        rw [r.int] at h
        exact ⟨_, _, rfl, h, q _ _ _ _ (.refl k) (.int _) p⟩
      · exact p.elim
    · exact p.elim
  · exact p.elim
def fSortI : PFn := fun ds P => match ds with | [.lst es] => (match intsD es with | some ns => ∀ ns' : List Int, ns'.Perm ns → ns'.Pairwise (· ≤ ·) → P (.lst (ns'.map .int)) | none => False) | _ => False
theorem cl_sortI : CLo X (rSortedI X.K) fSortI := by
  refine ⟨fun {G H vs ds Q P} k r0 p q => ?_⟩
  unfold fSortI at p
  split at p
  · split at p
    · rename_i ns e
      obtain ⟨v, rfl, r⟩ := r0.one
      obtain ⟨a, xs, rfl, h, r⟩ := r.lst k
      rw [intsD_eq e] at r
      rw [r.int] at h
      exact ⟨_, _, rfl, SqL.of h, fun ns' l hp ho hl => q l _ _ G _ (Ext.new k hl) hl upd_same (k.none_of hl) (RAll.ints _) (p ns' hp ho)⟩
    · exact p.elim
  · exact p.elim
end
section
variable {X : Cx} {k : Nat} {f : Addr} {fd : FuncData} {ps : List Str} {psp : PSp}
def rEqO (K : PySem.W.Frag) (A : Addr) (sp : Sp) : R2 := fun x y H Q => ∃ (a dx : Addr) (fs : List (Str × V)) (t : Value), x = .ref a ∧ H a = some (.ins A dx fs) ∧ TyX K H y t ∧ PySem.W.notFirst K A t = true ∧ sp [x, y] H (fun v H' => (∃ b, v = .bl b) ∧ Q v H') E0
structure EqT (K : PySem.W.Frag) (mgv : Str → Option Value) (c : Nat) (A f : Addr) (cs : List Nat) : Prop where
  is : IsC K mgv c A cs
  fi : PySem.W.findIn K (.ref A) "__eq__" = some (some (.ref f))
  fn : PySem.W.isFn K (.ref f) = true
  ty : ∀ t ∈ ["NoneType", "bool", "int", "str", "list", "tuple"], PySem.W.notFirst K A (.type t) = true
  own : ∀ c' ∈ cs, ∀ A', mgv (cname c') = some (.ref A') → PySem.W.notFirst K A (.ref A') = true
def fEqO (c : Nat) (cs : List Nat) (psp : PSp) : POp := fun x y P => match x with
  | .obj c' fs => c' = c ∧ (isCl c cs y).isSome = true ∧ noL y = true ∧ psp [.obj c' fs, y] (fun d => ∃ b, d = .bl b ∧ P (.bl b)) (fun _ => False)
  | _ => False
end
end Pu
set_option Elab.async false
set_option linter.all false
set_option maxRecDepth 100000
set_option maxHeartbeats 2000000
set_option autoImplicit false
namespace Pu
open PySem PySem.Spec PyProof.Rows L2
section
variable {P : Program} {w : World} {K : PySem.W.Frag} {mg : Str → Option Value} {base : Heap}
theorem fn_never {k n : Nat} {f : Addr} {fd : FuncData} {ps : List Str} : FnOk P w K mg base (L2.CX P w) k f fd ps (liftSp ⟨K, mg⟩ (fun _ _ _ => False) n) :=
  ⟨fun _ _ _ _ ⟨_, _, _, _, _, _, _, p, _⟩ => p.elim, fun _ _ _ _ _ _ _ _ _ _ _ _ _ ⟨_, _, _, _, _, _, _, p, _⟩ => p.elim⟩
end
theorem lx_gint {X : Cx} {E : L2.St → XK} {x : Str} {i : Int} {pos : Pos} (hg : Gl X x) (hm : ∃ t, X.mg x = some (.int i t)) (hd : (x == ("__debug__" : Str)) = false := by decide) : LX X E (.Name x pos) (tC (.int i)) (pC (.int i)) := by
  obtain ⟨t, h⟩ := hm
  exact lx_glob (v := .int i) hg h ⟨t, rfl⟩ (fun _ => .int i) hd
def pSlo (pe : PX) (pl ph : POx) : PX := fun δ P P2 => pe δ (fun x => pl δ (fun lo => ph δ (fun hi => match x with | .lst ds => P (.lst (cutD ds lo hi)) | _ => False) P2) P2) P2
end Pu
set_option Elab.async false
set_option linter.all false
set_option maxRecDepth 100000
set_option maxHeartbeats 2000000
set_option autoImplicit false
namespace Pu
open PySem PySem.Spec PyProof.Rows L2
def spLaw (K : PySem.W.Frag) : Sp := fun vs H Q _ => ∃ (a : Addr) (ns : List Int), vs = [.ref a] ∧ SqL K H a (ns.map V.int) ∧ ns.length ≤ 63 ∧ ∀ H', Q (.bl true) H'
theorem law_imp {P : Program} {w : World} {K : PySem.W.Frag} {mg : Str → Option Value} {base : Heap} {k : Nat} {f : Addr} {fd : FuncData} {ps : List Str} {psp : PSp} (F : FnOk P w K mg base (L2.CX P w) k f fd ps (liftSp ⟨K, mg⟩ psp 1))
    (h : ∀ ns : List Int, ns.length ≤ 63 → psp [.script ns] (fun d => d = .bl true) (fun _ => False)) : FnOk P w K mg base (L2.CX P w) k f fd ps (spLaw K) := by
  refine F.imp fun vs H Q E ⟨a, ns, ev, hs, hl, q⟩ => ?_
  subst ev
  have key : ∃ G : Gp, Ok G H ∧ LsG ⟨K, mg⟩ G a (ns.map V.int) := by
    rcases hs with (hs | ⟨o, hs⟩) | hs
    · refine ⟨updG (fun _ => none) a (.fz (.lst (ns.map V.int))), ⟨fun b g hb => ?_⟩, .inl (.inl updG_same)⟩
      by_cases e : b = a
      · rw [e, updG_same] at hb
        cases hb
        rw [e]
        exact hs
      · rw [updG_ne e] at hb
        cases hb
    · refine ⟨updG (fun _ => none) a (.fz (.frz o (.lst (ns.map V.int)))), ⟨fun b g hb => ?_⟩, .inr (.inl ⟨o, updG_same⟩)⟩
      by_cases e : b = a
      · rw [e, updG_same] at hb
        cases hb
        rw [e]
        exact hs
      · rw [updG_ne e] at hb
        cases hb
    · exact ⟨fun _ => none, ⟨fun _ _ hb => by cases hb⟩, .inr (.inr hs)⟩
  obtain ⟨G, ok, r⟩ := key
  refine ⟨rfl, G, [.script ns], _, _, ok, .cons (.script r) .nil, h ns hl, fun v d G' H' _ rv ed => ?_, fun _ _ _ _ _ _ _ z => z.elim⟩
  subst ed
  cases rv
  exact q _
theorem cx_none {P : Program} {w : World} (H : Hp) (s : Shared) (e : Value) (s' : Shared) (h : L2.CX P w [] H s (fun _ _ _ => False) e s') : False := by
  obtain ⟨_, _, _, _, _, _, _, _, _, _, _, _, z⟩ := h
  exact z
theorem at1 {mg : Str → Option Value} {x : Str} {A : Addr} {P : Addr → Prop} (h : mg x = some (.ref A)) (p : P A) : ∀ A', mg x = some (.ref A') → P A' := fun A' h' => by
  cases h.symm.trans h'
  exact p
theorem all6 {P : String → Prop} (h0 : P "NoneType") (h1 : P "bool") (h2 : P "int") (h3 : P "str") (h4 : P "list") (h5 : P "tuple") : ∀ t ∈ ["NoneType", "bool", "int", "str", "list", "tuple"], P t := fun t h => by
  simp only [List.mem_cons, List.not_mem_nil, or_false] at h
  rcases h with rfl | rfl | rfl | rfl | rfl | rfl <;> assumption
theorem lookup_mem {c j : Nat} : ∀ {l : List (Nat × Nat)}, l.lookup c = some j → (c, j) ∈ l
  | [], h => by cases h
  | (a, b) :: l, h => by
    unfold List.lookup at h
    split at h
    · rename_i e
      cases h
      have : c = a := by simpa using e
      subst this
      exact List.mem_cons_self
    · exact List.mem_cons_of_mem _ (lookup_mem h)
theorem exm_of {K : PySem.W.Frag} {A C : Addr} {b : Bool} (h1 : PySem.W.subIn K (.ref C) (.type "BaseException") = some true) (h2 : PySem.W.hasDictIn K C = true) (h3 : PySem.W.typeIn K (.ref C) = some (.type "type")) (h4 : PySem.W.subIn K (.ref A) (.ref C) = some b) :
    PySem.W.exmOne K (.ref A) (.ref C) = some b := PySem.W.exm_ref h1 h2 h3 h4
end Pu
set_option Elab.async false
set_option linter.all false
set_option maxRecDepth 100000
set_option maxHeartbeats 1000000
set_option autoImplicit false
namespace Pu
open PySem L2 PyProof.Rows
inductive Sk | l | t
def SqS (K : PySem.W.Frag) : Sk → Hp → Addr → List V → Prop
  | .l => SqL K
  | .t => SqT K
def ItS : Sk → Heap → Addr → Addr → Nat → Prop
  | .l => fun h it a i => h.IsListIter it a i
  | .t => fun h it a i => h.IsTupleIter it a i
def IsS : Sk → Heap → Addr → Array Value → Prop
  | .l => fun h a xs => h.IsList a xs
  | .t => fun h a xs => h.IsTuple a xs
def obS : Sk → Addr → Obj
  | .l => fun a => { cls := .type "list_iterator", data := .fields #[.ref a, .int 0 0] }
  | .t => fun a => { cls := .type "tuple_iterator", data := .fields #[.ref a, .int 0 0] }
def ItZ2 (K : PySem.W.Frag) (k1 k2 : Sk) (a b : Addr) : It :=
  ⟨fun i H => ∃ (xs ys : List V) (x y : V), SqS K k1 H a xs ∧ SqS K k2 H b ys ∧ xs[i]? = some x ∧ ys[i]? = some y,
    fun i H v H' => ∃ (T : Addr) (x y : V) (o : Obj), v = .ref T ∧ H T = none ∧ o.dict = none ∧ H' = upd H T (.frz o (.tup [x, y])) ∧ (∀ xs, SqS K k1 H a xs → xs[i]? = some x) ∧ ∀ ys, SqS K k2 H b ys → ys[i]? = some y,
    fun i H => ∃ xs ys : List V, SqS K k1 H a xs ∧ SqS K k2 H b ys ∧ i = min xs.length ys.length⟩
def iZip2 (K : PySem.W.Frag) (ta : TA) : TI := fun σ H R => ta σ H fun vs H1 => ∃ (a b : Addr) (k1 k2 : Sk), vs = [.ref a, .ref b] ∧ (∃ xs, SqS K k1 H1 a xs) ∧ (∃ ys, SqS K k2 H1 b ys) ∧ R (ItZ2 K k1 k2 a b) H1
def ItZ3 (K : PySem.W.Frag) (k1 k2 k3 : Sk) (a b c : Addr) : It :=
  ⟨fun i H => ∃ (xs ys zs : List V) (x y z : V), SqS K k1 H a xs ∧ SqS K k2 H b ys ∧ SqS K k3 H c zs ∧ xs[i]? = some x ∧ ys[i]? = some y ∧ zs[i]? = some z,
    fun i H v H' => ∃ (T : Addr) (x y z : V) (o : Obj), v = .ref T ∧ H T = none ∧ o.dict = none ∧ H' = upd H T (.frz o (.tup [x, y, z])) ∧ (∀ xs, SqS K k1 H a xs → xs[i]? = some x) ∧ (∀ ys, SqS K k2 H b ys → ys[i]? = some y) ∧ ∀ zs, SqS K k3 H c zs → zs[i]? = some z,
    fun i H => ∃ xs ys zs : List V, SqS K k1 H a xs ∧ SqS K k2 H b ys ∧ SqS K k3 H c zs ∧ i = min xs.length (min ys.length zs.length)⟩
def iZip3 (K : PySem.W.Frag) (ta : TA) : TI := fun σ H R => ta σ H fun vs H1 => ∃ (a b c : Addr) (k1 k2 k3 : Sk), vs = [.ref a, .ref b, .ref c] ∧ (∃ xs, SqS K k1 H1 a xs) ∧ (∃ ys, SqS K k2 H1 b ys) ∧ (∃ zs, SqS K k3 H1 c zs) ∧ R (ItZ3 K k1 k2 k3 a b c) H1
def SqD (C : Ctx) (G : Gp) : Sk → Addr → List V → Prop
  | .l => fun a xs => LkG G a xs
  | .t => fun a xs => TpG C G a xs
theorem SqD.mono {C : Ctx} {G G' : Gp} {k : Sk} {a : Addr} {xs : List V} (e : Sub G G') (h : SqD C G k a xs) : SqD C G' k a xs := by
  cases k
  · exact LkG.mono e h
  · exact TpG.mono e h
def zipD : List D → List D → List D
  | d :: ds, e :: es => .tup [d, e] :: zipD ds es
  | _, _ => []
def pZip2 (pe pf : PX) : PLx := fun δ P P2 => pe δ (fun d => pf δ (fun e => match itemsD d, itemsD e with | some ds, some es => P (zipD ds es) | _, _ => False) P2) P2
def zipD3 : List D → List D → List D → List D
  | d :: ds, e :: es, f :: fs => .tup [d, e, f] :: zipD3 ds es fs
  | _, _, _ => []
def pZip3 (pe pf pg : PX) : PLx := fun δ P P2 => pe δ (fun d => pf δ (fun e => pg δ (fun f => match itemsD d, itemsD e, itemsD f with | some ds, some es, some fs => P (zipD3 ds es fs) | _, _, _ => False) P2) P2) P2
def pRevL (pe : PX) : PX := fun δ P P2 => pe δ (fun d => match d with | .lst ds => P (.lst ds.reverse) | _ => False) P2
end Pu
set_option Elab.async false
set_option linter.all false
set_option maxRecDepth 100000
set_option maxHeartbeats 1000000
set_option autoImplicit false
namespace Pu
open PySem L2 PyProof.Rows
structure XA (A : Addr) (G : Gp) (H : Hp) (G' : Gp) (H' : Hp) : Prop where
  g : ∀ a o, G a = some o → G' a = some o
  h : ∀ b o, b ≠ A → H b = some o → G b = none → H' b = some o ∧ G' b = none
theorem XA.of {A : Addr} {G G' : Gp} {H H' : Hp} (x : Ext G H G' H') : XA A G H G' H' := ⟨x.g, fun b o _ => x.h b o⟩
theorem XA.trans {A : Addr} {G G1 G2 : Gp} {H H1 H2 : Hp} (x : XA A G H G1 H1) (y : XA A G1 H1 G2 H2) : XA A G H G2 H2 :=
  ⟨fun a o h => y.g a o (x.g a o h), fun b o n h g => let ⟨h1, g1⟩ := x.h b o n h g; y.h b o n h1 g1⟩
def tiOf (C : Ctx) (E : L2.St → XK) (pi : PLx) : TI := fun σ H Q => ∃ (δ : Dl) (G : Gp) (H0 : Hp) (P : List D → Prop) (P2 : Exn → Prop), Ok G H ∧ SRel C H0 G H σ δ ∧ EOk C G H (E σ) P2 ∧ pi δ P P2 ∧ ∀ J ds G' H', Ext G H G' H' → ItD C G' J ds → P ds → Q J H'
theorem LI.sem {X : Cx} {E : L2.St → XK} {tg it : Expr} {wi : TI} {pi : PLx} (h : LI X E tg it wi pi) : LI X E tg it (tiOf (cx X) E pi) pi :=
  ⟨⟨fun pins s σ H R I ⟨δ, G, H0, P, P2, k, r, x, p, q⟩ => h.py.run pins s σ H R I (h.le k r x p q)⟩, fun k s x p q => ⟨_, _, _, _, _, k, s, x, p, q⟩⟩
def pLcIn (pg : PG') (pt : PTx) (pe : PX) (δw : Dl) (K : List D → Prop) : List D → List D → Prop
  | [], es => K es
  | d :: ds, es => pg d δw fun δ' => pt δ' (fun b => if b = true then pe δ' (fun y => es.length < szl ∧ pLcIn pg pt pe δw K ds (es ++ [y])) (fun _ => False) else pLcIn pg pt pe δw K ds es) fun _ => False
def pLcOut (pg : PG') (pt : PTx) (pi1 : PLx) (pg1 : PG') (pt1 : PTx) (pe : PX) (δw : Dl) (vs1 : List Nat) (P : D → Prop) : List D → List D → Prop
  | [], es => P (.lst es)
  | d :: ds, es => pg d δw fun δ' => pt δ' (fun b => if b = true then pi1 δ' (fun ds1 => pLcIn pg1 pt1 pe (wipeD δ' vs1) (fun es' => pLcOut pg pt pi1 pg1 pt1 pe δw vs1 P ds es') ds1 es) (fun _ => False) else pLcOut pg pt pi1 pg1 pt1 pe δw vs1 P ds es) fun _ => False
def pLc2 (pi : PLx) (pg : PG') (pt : PTx) (pi1 : PLx) (pg1 : PG') (pt1 : PTx) (pe : PX) (vs vs1 : List Nat) : PX := fun δ P P2 => pi δ (fun ds => pLcOut pg pt pi1 pg1 pt1 pe (wipeD δ vs) vs1 P ds []) P2
section
variable {X : Cx} {E : L2.St → XK} {elt tg iter tg1 iter1 : Expr} {ifs ifs1 : List Expr} {scope : Scope} {own : List (Str × Nat)} {pos : Pos} {wi : TI} {pi pi1 : PLx} {pg pg1 : PG'} {pt pt1 : PTx} {pe : PX} {js js1 vs1 : List Nat}
end
end Pu
set_option Elab.async false
set_option linter.all false
set_option maxRecDepth 100000
set_option maxHeartbeats 1000000
set_option autoImplicit false
namespace Pu
open PySem PySem.Spec PyProof.Rows L2
structure SmT (K : PySem.W.Frag) (mgv : Str → Option Value) (c : Nat) (A : Addr) (m : Str) (f : Addr) : Prop where
  mg : mgv (cname c) = some (.ref A)
  rd : ∃ mc pp, ClX.CRead K A mc ∧ PySem.W.findCls K (.ref A) mc m = some (.get (.builtin "staticmethod.__get__") (.ref pp) .none (.ref A)) ∧ ∃ rest, PySem.W.recIn K pp "staticmethod" = some (.ref f :: rest)
  kp : PySem.W.keepIn K (.ref f) = true
section
variable {X : Cx} {W : WX} {k : Nat} {f : Addr} {fd : FuncData} {ps : List Str} {m : Str} {pos apos : Pos} {o e : Expr} {es : List Expr} {ta : TE} {t : TA} {psp : PSp} {pa : PAx}
def tSMS (C : Addr) (sp : Sp) (E : L2.St → XK) (ta : TE) (t : TA) : TE := fun σ H Q => ta σ H fun v H1 => v = .ref C ∧ t σ H1 fun vs H2 => sp vs H2 Q (E σ)
end
end Pu
set_option Elab.async false
set_option linter.all false
set_option maxRecDepth 100000
set_option maxHeartbeats 1000000
set_option autoImplicit false
namespace Pu
open PySem PySem.Spec PyProof.Rows L2
section
variable {X : Cx} {E : L2.St → XK}
def pLRg1 (pe : PX) : PX := fun δ P P2 => pe δ (fun d => match d with | .int n => RgOk 0 n ∧ P (.lst (rangeD 0 (n - 0).toNat)) | _ => False) P2
def pLRg2 (pe pf : PX) : PX := fun δ P P2 => pe δ (fun d => pf δ (fun e => match d, e with | .int i, .int j => RgOk i j ∧ P (.lst (rangeD i (j - i).toNat)) | _, _ => False) P2) P2
end
end Pu
set_option Elab.async false
set_option linter.all false
set_option maxRecDepth 100000
set_option maxHeartbeats 1000000
set_option autoImplicit false
namespace Pu
open PySem PySem.Spec PyProof.Rows L2
abbrev Cl := Value × (Addr → Value → Option Addr → TS)
def wAll (K : PySem.W.Frag) (i : Nat) (Wo : WX) (D : Ends) : List Cl → WX
  | [] => Wo
  | q :: r => wAs K q.1 i q.2 (wAll K i Wo D r) D
inductive ClOk (X : Cx) (n : Str) : List ExceptHandler → List Cl → Prop
  | nil : ClOk X n [] []
  | cons {x : Str} {cv : Value} {ts : Addr → Value → Option Addr → TS} {b₀ : Stmt} {su : List Stmt} {np pos' : Pos} {hds : List ExceptHandler} {l : List Cl} (hc : Names X x cv)
      (hsu : ∀ (a : Addr) (oe : Obj) (cls : Value) (d : Option Addr) (pn : List (Addr × Obj)), Zc cls d oe → (∃ vs, oe.data = .fields vs) → PSs (X.suite a ((a, oe) :: pn)) (b₀ :: su) (ts a cls d)) (r : ClOk X n hds l) :
      ClOk X n (.ExceptHandler (some (.Name x np)) (some n) (b₀ :: su) pos' :: hds) ((cv, ts) :: l)
section
variable {X : Cx} {body : List Stmt} {hd : ExceptHandler} {hds : List ExceptHandler} {l : List Cl} {pos : Pos} {n : Str} {i : Nat} {tb : WX → TS} {Wo : WX}
end
abbrev PCl := (Nat → Option Bool) × (Addr → Value → Option Addr → PSx)
def pCls (i : Nat) (P : PEnds) : List PCl → Dl → Exn → Prop
  | [] => P.ex
  | q :: r => fun δ e => match q.1 e.c with
    | some true => ∀ a cls d, q.2 a cls d { nx := fun δ2 => P.nx (δ2.set i none), rt := P.rt, bk := fun δ2 => P.bk (δ2.set i none), ct := fun δ2 => P.ct (δ2.set i none), ex := fun _ _ => False } (δ.set i (some (.exc a cls d e)))
    | some false => pCls i P r δ e
    | none => False
def pTryAll (i : Nat) (pb : PSx) (cs : List PCl) : PSx := fun P δ => pb { P with ex := pCls i P cs } δ
inductive LCl (X : Cx) (n : Str) : List ExceptHandler → List Value → List PCl → Prop
  | nil : LCl X n [] [] []
  | cons {x : Str} {cv : Value} {f : Nat → Option Bool} {ps : Addr → Value → Option Addr → PSx} {b₀ : Stmt} {su : List Stmt} {np pos' : Pos} {hds : List ExceptHandler} {vs : List Value} {l : List PCl} (hc : Names X x cv) (T : CatT X.K X.mg cv f)
      (hsu : ∀ (a : Addr) (oe : Obj) (cls : Value) (d : Option Addr) (pn : List (Addr × Obj)), Zc cls d oe → (∃ vs, oe.data = .fields vs) → ∃ t, LSs (X.suite a ((a, oe) :: pn)) (WE WN) (b₀ :: su) t (ps a cls d)) (r : LCl X n hds vs l) :
      LCl X n (.ExceptHandler (some (.Name x np)) (some n) (b₀ :: su) pos' :: hds) (cv :: vs) ((f, ps) :: l)
def clOf (C : Ctx) : List Value → List PCl → List Cl
  | v :: vs, q :: l => (v, fun a cls d => tsOf C (WE WN) (q.2 a cls d)) :: clOf C vs l
  | _, _ => []
theorem LCl.py {X : Cx} {n : Str} {hds : List ExceptHandler} {vs : List Value} {l : List PCl} (h : LCl X n hds vs l) : ClOk X n hds (clOf (cx X) vs l) := by
  induction h with
  | nil => exact .nil
  | cons hc T hsu r ih => exact .cons hc (fun a oe cls d pn h1 h2 => let ⟨_, h⟩ := hsu a oe cls d pn h1 h2; h.sem.py) ih
end Pu
set_option Elab.async false
set_option linter.all false
set_option maxRecDepth 100000
set_option maxHeartbeats 2000000
set_option autoImplicit false
namespace Pu
open PySem PySem.Spec PyProof.Rows L2
abbrev PM := Dl → (D → Dl → Prop) → (Exn → Prop) → Prop
structure LXm (X : Cx) (E : L2.St → XK) (e : Expr) (te : TE) (pe : PM) : Prop where
  py : PE X e te
  le : ∀ {G0 : Gp} {H0 : Hp} {δ : Dl} {σ : L2.St} {G : Gp} {H : Hp} {Q : VK} {P : D → Dl → Prop} {P2 : Exn → Prop}, Stt (cx X) G0 H0 σ δ G H → EOk (cx X) G H (E σ) P2 → pe δ P P2 →
    (∀ v d δ' G' H', Stt (cx X) G0 H0 σ δ' G' H' → R (cx X) G' v d → P d δ' → Q v H') → te σ H Q
section
variable {X : Cx} {E : L2.St → XK} {sn : Str} {p1 p apos pos : Pos} {te : TE} {pe : PX} {e : Expr}
def popMK (ds : List D) (F : D → List D → Prop) : D → Prop := fun d => match d with
  | .int k => -(2 ^ 63) ≤ k ∧ k < 2 ^ 63 ∧ (match ixN ds.length k with | some j => (match ds[j]? with | some x => F x (ds.eraseIdx j) | none => False) | none => False)
  | _ => False
def pmPop (i : Nat) (pe : PX) : PM := fun δ P P2 => match δ[i]? with
  | some (some (.own oa ds)) => pe δ (popMK ds fun x es => P x (δ.set i (some (.own oa es)))) P2
  | _ => False
theorem lxm_popAt (i : Nat) (he : LX X E e te pe) (hN : X.N[i]? = some sn := by rfl) (hv : Vis X.env.scope sn := by first | exact Or.inl rfl | exact Or.inr (Or.inl rfl) | exact Or.inr (Or.inr rfl)) (hd : (sn == ("__debug__" : Str)) = false := by decide) (hcd : (sn == ("__classdict__" : Str)) = false := by decide)
    (hbase : attributeBase (.Name sn p1) "pop" X.env (eval (.Name sn p1) X.env) = eval (.Name sn p1) X.env := by rfl)
    (hfew : ((backTo p (starEach [e] X.env)).all (fun x => !x.1) && (backToKw p (keywordEach [] X.env)).all (fun x => x.1.isSome)
      && decide ([e].length + ([] : List Keyword).length + (if ([] : List Keyword).isEmpty then 0 else 1) < 30)) = true := by rfl)
    (hline : (apos.endLine == p.line) = true := by rfl) (hs : starEach [e] X.env = (false, eval e X.env) :: starEach [] X.env := by rfl) (hplain : (backTo p (starEach [] X.env)).any (·.1) = false := by rfl) :
    LXm X E (.Call (.Attribute (.Name sn p1) "pop" apos) [e] [] p) (tBM X.K "list" rPopAt (tVar i) (tCons te tNil)) (pmPop i pe) := by
  refine ⟨pe_bm PySem.F.plainAttrs_list PySem.F.slot_list_pop PySem.F.type_list_pop mt_popAt (pe_var hN hv hd hcd) (pa_cons he.py pa_nil hs) hbase hfew hline hs hplain, fun {G0 H0 δ σ G H Q P P2} t en p q0 => ?_⟩
  unfold pmPop at p
  split at p
  · rename_i oa ds ed
    obtain ⟨a, xs, ev, hoa, h, g, n, r⟩ := t.sr.own ed
    refine ⟨_, ev, tyV_lst h, he.le t.ok t.sr en p fun v d G' H' y rd q => ?_⟩
    obtain ⟨h', g'⟩ := y.h _ _ h g
    have t1 := t.step y
    unfold popMK at q
    split at q
    · obtain rfl := rd.intR
      obtain ⟨q1, q2, q⟩ := q
      split at q
      · rename_i j ej
        split at q
        · rename_i x ex
          rw [← r.length] at ej
          obtain ⟨e1, e2⟩ := ixN_seq' ej
          obtain ⟨v, ev2, rv⟩ := r.get ex
          have z : xs[j] = v := by rw [List.getElem?_eq_getElem e2] at ev2; exact Option.some.inj ev2
          refine ⟨a, xs, _, j, xs[j], rfl, rfl, h', q1, q2, e1, List.getElem?_eq_getElem e2, ?_⟩
          rw [z]
          exact q0 _ _ _ _ _ ⟨t1.ext.write n g', t1.sr.write ed ev ((r.mono y.g).eraseIdx j)⟩ (rv.mono y.g) q
        · exact q.elim
      · exact q.elim
    · exact q.elim
  · exact p.elim
def pAsgM (pe : PM) (i : Nat) : PSx := fun P δ => pe δ (fun d δ' => P.nx (δ'.set i (some (.d d)))) (P.ex δ)
def pAppM (i : Nat) (pe : PM) : PSx := fun P δ => match δ[i]? with
  | some (some (.own _ _)) => pe δ (fun d δ' => match δ'[i]? with
      | some (some (.own oa ds)) => ds.length < szl ∧ P.nx (δ'.set i (some (.own oa (ds ++ [d]))))
      | _ => False) (P.ex δ)
  | _ => False
theorem ls_appM (i : Nat) {pe : PM} (he : LXm X E e te pe) (hN : X.N[i]? = some sn := by rfl) (hv : Vis X.env.scope sn := by first | exact Or.inl rfl | exact Or.inr (Or.inl rfl) | exact Or.inr (Or.inr rfl)) (hd : (sn == ("__debug__" : Str)) = false := by decide) (hcd : (sn == ("__classdict__" : Str)) = false := by decide)
    (hbase : attributeBase (.Name sn p1) "append" X.env (eval (.Name sn p1) X.env) = eval (.Name sn p1) X.env := by rfl)
    (hfew : ((backTo p (starEach [e] X.env)).all (fun x => !x.1) && (backToKw p (keywordEach [] X.env)).all (fun x => x.1.isSome)
      && decide ([e].length + ([] : List Keyword).length + (if ([] : List Keyword).isEmpty then 0 else 1) < 30)) = true := by rfl)
    (hline : (apos.endLine == p.line) = true := by rfl) (hs : starEach [e] X.env = (false, eval e X.env) :: starEach [] X.env := by rfl) (hplain : (backTo p (starEach [] X.env)).any (·.1) = false := by rfl)
    (hsw : swapsWith (.Call (.Attribute (.Name sn p1) "append" apos) [e] [] p) none pos.line X.env = pure false := by rfl) :
    LS X E (.Expr (.Call (.Attribute (.Name sn p1) "append" apos) [e] [] p) pos) (tDrop (tBM X.K "list" rAppend (tVar i) (tCons te tNil))) (pAppM i pe) := by
  refine ⟨ps_expr (pe_bm PySem.F.plainAttrs_list PySem.F.slot_list_append PySem.F.type_list_append mt_append (pe_var hN hv hd hcd) (pa_cons he.py pa_nil hs) hbase hfew hline hs hplain) hsw, fun {G0 H0 Dn P δ σ G H} en t p => ?_⟩
  unfold pAppM at p
  split at p
  · rename_i oa0 ds0 ed0
    obtain ⟨a0, xs0, ev0, _, h0, _, _, _⟩ := t.sr.own ed0
    refine ⟨_, ev0, tyV_lst h0, he.le t (en.ex t) p fun v d δ' G' H' t' rd q => ?_⟩
    split at q
    · rename_i oa ds ed
      obtain ⟨a, xs, ev, hoa, h, g, n, r⟩ := t'.sr.own ed
      rw [ev0] at ev
      cases ev
      exact ⟨a0, xs, v, rfl, rfl, h, by rw [r.length, sizeLine_eq]; exact q.1, en.nx ⟨t'.ext.write n g, t'.sr.write ed ev0 (r.append (.one rd))⟩ q.2⟩
    · exact q.elim
  · exact p.elim
end
section
variable {X : Cx} {k : Nat} {f : Addr} {fd : FuncData} {ps : List Str} {psp : PSp} {W : WX}
def tAddO (C : Addr) (sp : Sp) (E : L2.St → XK) (ta tb : TE) : TE := fun σ H Q => ta σ H fun x H1 => tb σ H1 fun y H2 => ∃ (a dx : Addr) (fs : List (Str × V)) (b dx' : Addr) (fs' : List (Str × V)),
  x = .ref a ∧ H2 a = some (.ins C dx fs) ∧ y = .ref b ∧ H2 b = some (.ins C dx' fs') ∧ sp [x, y] H2 Q (E σ)
def pAddO (c : Nat) (psp : PSp) (pa pb : PX) : PX := fun δ P P2 => pa δ (fun x => pb δ (fun y => match x, y with
  | .obj c1 d1, .obj c2 d2 => c1 = c ∧ c2 = c ∧ psp [.obj c1 d1, .obj c2 d2] P P2
  | _, _ => False) P2) P2
structure AddT (K : PySem.W.Frag) (mgv : Str → Option Value) (c : Nat) (A f : Addr) : Prop where
  mg : mgv (cname c) = some (.ref A)
  fi : PySem.W.findIn K (.ref A) "__add__" = some (some (.ref f))
  fn : PySem.W.isFn K (.ref f) = true
  sf : PySem.W.selfFirst K A = true
end
end Pu
set_option Elab.async false
set_option linter.all false
set_option maxRecDepth 100000
set_option maxHeartbeats 2000000
set_option autoImplicit true
open PySem PySem.Spec PyProof.Rows
open PySem.SeqAt
namespace Pu
section
variable {prog : Program} {w : World} {A : Around} {E : Value → Shared → Prop} {s : Shared} {K : PySem.W.Frag} {x C f l : Addr} {ox : Obj} {od : Option Obj} {Q : Value → Shared → Prop}
end
end Pu

set_option autoImplicit false

namespace Pu
open PySem PySem.Spec PyProof.Rows L2
inductive Dcl (K : PySem.W.Frag) (H : Hp) : V → String → Prop where
  | non : Dcl K H .non "NoneType"
  | int (i : Int) : Dcl K H (.int i) "int"
  | lst {a : Addr} {xs : List V} (e : H a = some (.lst xs)) : Dcl K H (.ref a) "list"
  | tup {a : Addr} {o : Obj} {xs : List V} (e : H a = some (.frz o (.tup xs))) : Dcl K H (.ref a) "tuple"
  | kTup {a : Addr} {o : Obj} {its : Array Value} {n : Nat} (e : K.lookup a = some o) (c : o.cls = .type "tuple") (d : o.data = .seq its n) : Dcl K H (.ref a) "tuple"
section
variable {X : Cx} {k : Nat} {f : Addr} {fd : FuncData} {ps : List Str} {psp : PSp}
def rEqR (K : PySem.W.Frag) (A : Addr) (sp : Sp) : R2 := fun x y H Q => ∃ (a dx : Addr) (fs : List (Str × V)) (t : String), y = .ref a ∧ H a = some (.ins A dx fs) ∧ Dcl K H x t ∧ PySem.W.subIn K (.ref A) (.type t) = some false ∧ sp [y, x] H (fun v H' => (∃ b, v = .bl b) ∧ Q v H') E0
structure EqS (K : PySem.W.Frag) (A : Addr) : Prop where
  sb : ∀ t ∈ ["NoneType", "bool", "int", "str", "list", "tuple"], PySem.W.subIn K (.ref A) (.type t) = some false
structure OLX (X : Cx) (r : R2) (f : POp) : Prop where
  le : ∀ {G : Gp} {H : Hp} {x y : V} {dx dy : D} {Q : VK} {P : D → Prop}, Ok G H → R (cx X) G x dx → R (cx X) G y dy → f dx dy P →
    (∀ v d G' H', Ext G H G' H' → R (cx X) G' v d → P d → Q v H') → r x y H Q
def isDcl : D → Bool
  | .non => true
  | .int _ => true
  | .lst _ => true
  | .tup _ => true
  | _ => false
def fEqA (c : Nat) (cs : List Nat) (psp : PSp) : POp := fun x y P => match x, y with
  | .obj c' fs, y => c' = c ∧ (isCl c cs y).isSome = true ∧ psp [.obj c' fs, y] (fun d => ∃ b, d = .bl b ∧ P (.bl b)) (fun _ => False)
  | x, .obj c' fs => c' = c ∧ isDcl x = true ∧ psp [.obj c' fs, x] (fun d => ∃ b, d = .bl b ∧ P (.bl b)) (fun _ => False)
  | _, _ => False
end
end Pu
namespace Pu
open PySem PySem.Spec PyProof.Rows L2
section
variable {X : Cx} {E : L2.St → XK}
end
end Pu
namespace Pu
open PySem PySem.Spec PyProof.Rows L2
def pNever : PSx := fun _ _ => False
end Pu
set_option Elab.async false
set_option linter.all false
set_option maxRecDepth 100000
set_option maxHeartbeats 2000000
set_option autoImplicit false
namespace Pu
open PySem PySem.Spec PyProof.Rows L2
mutual
def viewD : D → D
  | .lst ds => .vw (viewL ds)
  | .vw ds => .vw (viewL ds)
  | .tup ds => .tup (viewL ds)
  | .obj c ds => .obj c (viewL ds)
  | .non => .non
  | .bl b => .bl b
  | .int i => .int i
  | .str x => .str x
  | .pool => .pool
  | .cls c => .cls c
  | .script ns => .script ns
  | .pin a ns => .pin a ns
def viewL : List D → List D
  | [] => []
  | d :: ds => viewD d :: viewL ds
end
theorem viewL_length : ∀ ds : List D, (viewL ds).length = ds.length
  | [] => rfl
  | _ :: ds => congrArg (· + 1) (viewL_length ds)
mutual
def noV : D → Bool
  | .non => true
  | .bl _ => true
  | .int _ => true
  | .str _ => true
  | .lst ds => noVL ds
  | .vw _ => false
  | .tup ds => noVL ds
  | .obj _ ds => noVL ds
  | .pool => false
  | .cls _ => true
  | .script _ => false
  | .pin _ _ => false
def noVL : List D → Bool
  | [] => true
  | d :: ds => noV d && noVL ds
end
def viewG (G : Gp) (H : Hp) : Gp := fun a => match G a with
  | some (.fz (.lst xs)) => some (.vw xs)
  | some g => some g
  | none => match H a with
    | some (.lst xs) => some (.vw xs)
    | _ => none
section
variable {C : Ctx} {G G' : Gp} {H H' H0 : Hp} {a : Addr} {g : GO} {xs : List V}
theorem vG_fz (h : G a = some (.fz (.lst xs))) : viewG G H a = some (.vw xs) := by unfold viewG; rw [h]
theorem vG_keep (h : G a = some g) (n : ∀ xs, g ≠ .fz (.lst xs)) : viewG G H a = some g := by
  unfold viewG
  rw [h]
  cases g with
  | fz o =>
    cases o with
    | lst ys => exact absurd rfl (n ys)
    | _ => rfl
  | pool l ns => rfl
  | vw u => rfl
theorem vG_new (h : G a = none) (h2 : H a = some (.lst xs)) : viewG G H a = some (.vw xs) := by unfold viewG; rw [h]; simp only; rw [h2]
theorem vG_none (h : G a = none) (h2 : ∀ xs, H a ≠ some (.lst xs)) : viewG G H a = none := by
  unfold viewG
  rw [h]
  cases e : H a with
  | none => simp only [e]
  | some o =>
    cases o with
    | lst ys => exact absurd e (h2 ys)
    | _ => simp only [e]
theorem vG_lk (h : LkG G a xs) : LkG (viewG G H) a xs := by
  rcases h with h | h
  · exact .inr (vG_fz h)
  · exact .inr (vG_keep h fun _ z => by cases z)
theorem vG_cases (a : Addr) : (∃ ys, viewG G H a = some (.vw ys) ∧ (G a = some (.fz (.lst ys)) ∨ G a = some (.vw ys) ∨ (G a = none ∧ H a = some (.lst ys)))) ∨ (∃ u, G a = some u ∧ viewG G H a = some u ∧ (∀ ys, u ≠ .fz (.lst ys)) ∧ ∀ ys, u ≠ .vw ys) ∨ (G a = none ∧ viewG G H a = none ∧ ∀ ys, H a ≠ some (.lst ys)) := by
  cases e : G a with
  | none =>
    by_cases c : ∃ ys, H a = some (.lst ys)
    · obtain ⟨ys, c⟩ := c
      exact .inl ⟨ys, vG_new e c, .inr (.inr ⟨rfl, c⟩)⟩
    · exact .inr (.inr ⟨rfl, vG_none e fun ys z => c ⟨ys, z⟩, fun ys z => c ⟨ys, z⟩⟩)
  | some u =>
    by_cases c : ∃ ys, u = .fz (.lst ys)
    · obtain ⟨ys, rfl⟩ := c
      exact .inl ⟨ys, vG_fz e, .inl rfl⟩
    · by_cases c2 : ∃ ys, u = .vw ys
      · obtain ⟨ys, rfl⟩ := c2
        exact .inl ⟨ys, vG_keep e (fun _ z => by cases z), .inr (.inl rfl)⟩
      · exact .inr (.inl ⟨u, rfl, vG_keep e fun ys z => c ⟨ys, z⟩, fun ys z => c ⟨ys, z⟩, fun ys z => c2 ⟨ys, z⟩⟩)
theorem Ok.view (k : Ok G H) : Ok (viewG G H) H := ⟨fun a g h => by
  rcases vG_cases (G := G) (H := H) a with ⟨ys, e, c⟩ | ⟨u, e1, e2, n1, n2⟩ | ⟨_, e, _⟩
  · rw [e] at h
    cases h
    rcases c with c | c | c
    · exact k.fz c
    · exact k.vw c
    · exact c.2
  · rw [e2] at h
    cases h
    have z := k.at_ a _ e1
    cases g with
    | fz o => exact z
    | vw u => exact z
    | pool l ns =>
      obtain ⟨z1, z2⟩ : PoolAt H a l ns ∧ LkG G l (ns.map V.int) := z
      exact ⟨z1, vG_lk z2⟩
  · rw [e] at h; cases h⟩
def Vws (G1 G2 : Gp) : Prop := ∀ a g, G1 a = some g → (∃ xs, g = .fz (.lst xs) ∧ G2 a = some (.vw xs)) ∨ ((∀ xs, g ≠ .fz (.lst xs)) ∧ G2 a = some g)
theorem Vws.lst {G1 G2 : Gp} (k : Vws G1 G2) (h : G1 a = some (.fz (.lst xs))) : G2 a = some (.vw xs) := by
  rcases k _ _ h with ⟨ys, e, z⟩ | ⟨n, _⟩
  · cases e; exact z
  · exact absurd rfl (n _)
theorem Vws.kp {G1 G2 : Gp} (k : Vws G1 G2) (h : G1 a = some g) (n : ∀ xs, g ≠ .fz (.lst xs)) : G2 a = some g := by
  rcases k _ _ h with ⟨ys, e, z⟩ | ⟨_, z⟩
  · exact absurd e (n _)
  · exact z
theorem Vws.lk {G1 G2 : Gp} (k : Vws G1 G2) (h : LkG G1 a xs) : LkG G2 a xs := by
  rcases h with h | h
  · exact .inr (k.lst h)
  · exact .inr (k.kp h fun _ z => by cases z)
mutual
theorem R.vws {G1 G2 : Gp} (k : Vws G1 G2) : ∀ {v : V} {d : D}, R C G1 v d → R C G2 v (viewD d)
  | _, _, .non => .non
  | _, _, .bl b => .bl b
  | _, _, .int i => .int i
  | _, _, .str x => .str x
  | _, _, .lst h r => by unfold viewD; exact .vw (k.lst h) (RAll.vws k r)
  | _, _, .vw h r => by unfold viewD; exact .vw (k.kp h fun _ z => by cases z) (RAll.vws k r)
  | _, _, .script h => by
    unfold viewD
    refine .script ?_
    rcases h with h | ⟨o, h⟩ | h
    · exact .inl (k.lk h)
    · exact .inr (.inl ⟨o, k.kp h fun _ z => by cases z⟩)
    · exact .inr (.inr h)
  | _, _, .tup h r => by
    unfold viewD
    refine .tup ?_ (RAll.vws k r)
    rcases h with ⟨o, h, hd⟩ | h
    · exact .inl ⟨o, k.kp h (fun _ z => by cases z), hd⟩
    · exact .inr h
  | _, _, .obj m h r l => by unfold viewD; exact .obj m (k.kp h fun _ z => by cases z) (RAll.vws k r) (by rw [viewL_length]; exact l)
  | _, _, .pool h => by unfold viewD; exact .pool (k.kp h fun _ z => by cases z)
  | _, _, .pin h => by unfold viewD; exact .pin (k.lk h)
  | _, _, .cls m => by unfold viewD; exact .cls m
theorem RAll.vws {G1 G2 : Gp} (k : Vws G1 G2) : ∀ {vs : List V} {ds : List D}, RAll C G1 vs ds → RAll C G2 vs (viewL ds)
  | _, _, .nil => by unfold viewL; exact .nil
  | _, _, .cons r t => by unfold viewL; exact .cons (R.vws k r) (RAll.vws k t)
end
theorem vws_view : Vws G (viewG G H) := fun a g h => by
  by_cases c : ∃ ys, g = .fz (.lst ys)
  · obtain ⟨ys, rfl⟩ := c
    exact .inl ⟨ys, rfl, vG_fz h⟩
  · exact .inr ⟨fun ys z => c ⟨ys, z⟩, vG_keep h fun ys z => c ⟨ys, z⟩⟩
structure TreeC (G : Gp) (H0 H : Hp) (P : Addr → Prop) (Gt : Gp) : Prop where
  g : ∀ a g, Gt a = some g → (P a ∧ ∃ xs, g = .fz (.lst xs) ∧ H a = some (.lst xs)) ∨ (G a = some g ∧ ∀ xs, g ≠ .fz (.lst xs))
  p : ∀ a, P a → H0 a = none ∧ G a = none ∧ ∃ xs, H a = some (.lst xs)
theorem TreeC.vws {P : Addr → Prop} {Gt : Gp} (t : TreeC G H0 H P Gt) : Vws Gt (viewG G H) := fun a g h => by
  rcases t.g a g h with ⟨pa, xs, rfl, hx⟩ | ⟨h1, n⟩
  · exact .inl ⟨xs, rfl, vG_new (t.p a pa).2.1 hx⟩
  · exact .inr ⟨n, vG_keep h1 n⟩
def viewS : S → S
  | .d d => .d (viewD d)
  | .own _ ds => .d (.vw (viewL ds))
  | .slf a c ds => .slf a c (viewL ds)
  | .exc a cls dx e => .exc a cls dx ⟨e.c, viewL e.ds⟩
  | .tree _ d => .d (viewD d)
def vwDl : List Bool → Dl → Dl
  | true :: bs, o :: l => (o.map viewS) :: vwDl bs l
  | false :: bs, _ :: l => none :: vwDl bs l
  | [], _ :: l => none :: vwDl [] l
  | _, [] => []
theorem vwDl_len : ∀ (bs : List Bool) (l : Dl), (vwDl bs l).length = l.length
  | true :: bs, _ :: l => congrArg (· + 1) (vwDl_len bs l)
  | false :: bs, _ :: l => congrArg (· + 1) (vwDl_len bs l)
  | [], _ :: l => congrArg (· + 1) (vwDl_len [] l)
  | [], [] => rfl
  | true :: _, [] => rfl
  | false :: _, [] => rfl
theorem vwDl_at : ∀ (bs : List Bool) (l : Dl) (i : Nat) (s : S), (vwDl bs l)[i]? = some (some s) → ∃ s0, l[i]? = some (some s0) ∧ s = viewS s0
  | true :: bs, o :: l, 0, s, h => by
    have h' : o.map viewS = some s := by simpa [vwDl] using h
    cases o with
    | none => cases h'
    | some s0 => cases h'; exact ⟨s0, rfl, rfl⟩
  | true :: bs, o :: l, i + 1, s, h => by
    have := vwDl_at bs l i s (by simpa [vwDl] using h)
    simpa using this
  | false :: bs, o :: l, 0, s, h => by simp [vwDl] at h
  | false :: bs, o :: l, i + 1, s, h => by
    have := vwDl_at bs l i s (by simpa [vwDl] using h)
    simpa using this
  | [], o :: l, 0, s, h => by simp [vwDl] at h
  | [], o :: l, i + 1, s, h => by
    have := vwDl_at [] l i s (by simpa [vwDl] using h)
    simpa using this
  | [], [], i, s, h => by simp [vwDl] at h
  | true :: _, [], i, s, h => by simp [vwDl] at h
  | false :: _, [], i, s, h => by simp [vwDl] at h
theorem XR.vws {G1 G2 : Gp} (k : Vws G1 G2) {cls : Value} {d : Option Addr} {e : Exn} (r : XR C G1 cls d e) : XR C G2 cls d ⟨e.c, viewL e.ds⟩ := by
  obtain ⟨A, h1, h2, h3, h4⟩ := r
  refine ⟨A, h1, h2, by rw [viewL_length]; exact h3, ?_⟩
  rcases h4 with ⟨h4, h5⟩ | ⟨dd, vs, e1, e2, e3⟩
  · exact .inl ⟨by rw [h4]; rfl, h5⟩
  · exact .inr ⟨dd, vs, e1, k.kp e2 (fun _ z => by cases z), RAll.vws k e3⟩
theorem SRel.view {σ : L2.St} {δ : Dl} (s : SRel C H0 G H σ δ) (bs : List Bool) : SRel C H0 (viewG G H) H σ (vwDl bs δ) := by
  have own : ∀ s : S, (viewS s).isOwn = true → s.isOwn = true := fun s h => by
    cases s <;> first | exact h | cases h
  refine ⟨by rw [vwDl_len]; exact s.len, fun i t h => ?_, fun i j t t' v v' n h1 h2 o1 o2 e1 e2 => ?_, fun i j P d t' v' a n h1 => ?_⟩
  · obtain ⟨s0, h0, rfl⟩ := vwDl_at bs δ i t h
    obtain ⟨v, e, r⟩ := s.at_ i s0 h0
    refine ⟨v, e, ?_⟩
    cases r with
    | d r => exact .d (R.vws vws_view r)
    | own _ hx gx _ rx => exact .d (.vw (vG_new gx hx) (RAll.vws vws_view rx))
    | slf m hx gx nx rx l => exact .slf m hx (vG_none gx fun _ z => by rw [hx] at z; cases z) nx (RAll.vws vws_view rx) (by rw [viewL_length]; exact l)
    | exc r => exact .exc (r.vws vws_view)
    | tree t1 t2 r => exact .d (R.vws (TreeC.vws ⟨t1, t2⟩) r)
  · obtain ⟨s0, h0, rfl⟩ := vwDl_at bs δ i t h1
    obtain ⟨s1, h1', rfl⟩ := vwDl_at bs δ j t' h2
    exact s.apart i j s0 s1 v v' n h0 h1' (own _ o1) (own _ o2) e1 e2
  · obtain ⟨s0, h0, e⟩ := vwDl_at bs δ i _ h1
    cases s0 <;> cases e
def bkG (pv : Bool) (G : Gp) (H : Hp) (G' : Gp) : Gp := fun a => match G a with
  | some g => some g
  | none => match H a with
    | some (.lst _) => none
    | _ => match G' a with
      | some (.fz (.lst xs)) => if pv then some (.fz (.lst xs)) else none
      | some (.fz o) => some (.fz o)
      | _ => none
theorem bk_old {pv : Bool} (h : G a = some g) : bkG pv G H G' a = some g := by unfold bkG; rw [h]
theorem bk_none {pv : Bool} (h : G a = none) (h2 : H a = some (.lst xs)) : bkG pv G H G' a = none := by unfold bkG; rw [h]; simp only; rw [h2]
theorem bk_new {pv : Bool} (h : bkG pv G H G' a = some g) (n : G a = none) : (∀ ys, H a ≠ some (.lst ys)) ∧ G' a = some g ∧ (∃ o, g = .fz o) ∧ (pv = false → ∀ ys, g ≠ .fz (.lst ys)) := by
  unfold bkG at h
  rw [n] at h
  simp only at h
  split at h
  · cases h
  · rename_i nh
    refine ⟨fun ys z => nh ys z, ?_⟩
    split at h
    · rename_i ys e
      split at h
      · rename_i hp
        cases h
        exact ⟨e, ⟨_, rfl⟩, fun z => by rw [hp] at z; cases z⟩
      · cases h
    · rename_i o hn e
      cases h
      exact ⟨e, ⟨_, rfl⟩, fun _ ys z => by cases z; exact hn ys rfl⟩
    · cases h
theorem bk_at {pv : Bool} {o : HO} (n : G a = none) (nh : ∀ ys, H a ≠ some (.lst ys)) (h : G' a = some (.fz o)) (hp : pv = true ∨ ∀ ys, o ≠ .lst ys) : bkG pv G H G' a = some (.fz o) := by
  have key : ∀ u : Option HO, (∀ ys, u ≠ some (.lst ys)) → (match u with
    | some (.lst _) => none
    | _ => match G' a with
      | some (.fz (.lst xs)) => if pv then some (GO.fz (.lst xs)) else none
      | some (.fz o) => some (.fz o)
      | _ => none) = some (.fz o) := fun u hu => by
    split
    · exact absurd rfl (hu _)
    · rw [h]
      cases o with
      | lst ys =>
        rcases hp with hp | hp
        · rw [hp]; rfl
        · exact absurd rfl (hp _)
      | _ => rfl
  unfold bkG
  rw [n]
  exact key _ nh
theorem Ext.view {pv : Bool} (k : Ok G H) (y : Ext (viewG G H) H G' H') : Ext G H (bkG pv G H G') H' := by
  have old : ∀ a g, G a = some g → GOk (bkG pv G H G') H' a g := fun a g h => by
    by_cases c : ∃ ys, g = .fz (.lst ys)
    · obtain ⟨ys, rfl⟩ := c
      exact y.ok.vw (y.g _ _ (vG_fz h))
    · have z := y.ok.at_ a g (y.g _ _ (vG_keep h fun ys z => c ⟨ys, z⟩))
      cases g with
      | fz o => exact z
      | vw u => exact z
      | pool l ns =>
        obtain ⟨z1, _⟩ : PoolAt H' a l ns ∧ _ := z
        obtain ⟨_, z2⟩ : PoolAt H a l ns ∧ LkG G l (ns.map V.int) := k.at_ a _ h
        exact ⟨z1, z2.imp (fun z => bk_old z) (fun z => bk_old z)⟩
  refine ⟨fun a o h => bk_old h, ⟨fun a g h => ?_⟩, fun a o h n => ?_⟩
  · cases e : G a with
    | some u =>
      rw [bk_old e] at h
      cases h
      exact old a g e
    | none =>
      obtain ⟨_, h2, ⟨o, rfl⟩, _⟩ := bk_new h e
      exact y.ok.at_ a _ h2
  · by_cases c : ∃ ys, o = .lst ys
    · obtain ⟨ys, rfl⟩ := c
      exact ⟨y.ok.vw (y.g _ _ (vG_new n h)), bk_none n h⟩
    · have nl : ∀ ys, H a ≠ some (.lst ys) := fun ys z => by rw [h] at z; cases z; exact c ⟨ys, rfl⟩
      obtain ⟨h1, h2⟩ := y.h a o h (vG_none n nl)
      refine ⟨h1, ?_⟩
      cases e : bkG pv G H G' a with
      | none => rfl
      | some g =>
        obtain ⟨_, z, _, _⟩ := bk_new e n
        rw [h2] at z; cases z
theorem new_lst (y : Ext (viewG G H) H G' H') (h : G' a = some (.fz (.lst xs))) : G a = none ∧ ∀ ys, H a ≠ some (.lst ys) := by
  rcases vG_cases (G := G) (H := H) a with ⟨ys, e, _⟩ | ⟨u, _, e, n, _⟩ | ⟨n, _, n2⟩
  · have := y.g _ _ e
    rw [h] at this
    cases this
  · have := y.g _ _ e
    rw [h] at this
    cases this
    exact absurd rfl (n _)
  · exact ⟨n, n2⟩
theorem bk_keep {o : HO} (y : Ext (viewG G H) H G' H') (h : G' a = some (.fz o)) : bkG true G H G' a = some (.fz o) := by
  rcases vG_cases (G := G) (H := H) a with ⟨ys, e, _⟩ | ⟨u, e1, e, _, _⟩ | ⟨n, _, n2⟩
  · have := y.g _ _ e
    rw [h] at this
    cases this
  · have := y.g _ _ e
    rw [h] at this
    cases this
    exact bk_old e1
  · exact bk_at n n2 h (.inl rfl)
mutual
theorem R.noV {G3 : Gp} (k : ∀ a o, G' a = some (.fz o) → G3 a = some (.fz o)) : ∀ {v : V} {d : D}, R C G' v d → noV d = true → R C G3 v d
  | _, _, .non, _ => .non
  | _, _, .bl b, _ => .bl b
  | _, _, .int i, _ => .int i
  | _, _, .str x, _ => .str x
  | _, _, .lst h r, e => by unfold Pu.noV at e; exact .lst (k _ _ h) (RAll.noV k r e)
  | _, _, .tup h r, e => by
    unfold Pu.noV at e
    refine .tup ?_ (RAll.noV k r e)
    rcases h with ⟨o, h, hd⟩ | h
    · exact .inl ⟨o, k _ _ h, hd⟩
    · exact .inr h
  | _, _, .obj m h r l, e => by unfold Pu.noV at e; exact .obj m (k _ _ h) (RAll.noV k r e) l
  | _, _, .cls m, _ => .cls m
  | _, _, .vw _ _, e => by unfold Pu.noV at e; cases e
  | _, _, .script _, e => by unfold Pu.noV at e; cases e
  | _, _, .pool _, e => by unfold Pu.noV at e; cases e
  | _, _, .pin _, e => by unfold Pu.noV at e; cases e
theorem RAll.noV {G3 : Gp} (k : ∀ a o, G' a = some (.fz o) → G3 a = some (.fz o)) : ∀ {vs : List V} {ds : List D}, RAll C G' vs ds → noVL ds = true → RAll C G3 vs ds
  | _, _, .nil, _ => .nil
  | _, _, .cons r t, e => by
    unfold noVL at e
    rw [Bool.and_eq_true] at e
    exact .cons (R.noV k r e.1) (RAll.noV k t e.2)
end
mutual
theorem R.noLV {G3 : Gp} (k : ∀ a o, G' a = some (.fz o) → (∀ xs, o ≠ .lst xs) → G3 a = some (.fz o)) : ∀ {v : V} {d : D}, R C G' v d → noL d = true → R C G3 v d
  | _, _, .non, _ => .non
  | _, _, .bl b, _ => .bl b
  | _, _, .int i, _ => .int i
  | _, _, .str x, _ => .str x
  | _, _, .tup h r, e => by
    unfold Pu.noL at e
    refine .tup ?_ (RAll.noLV k r e)
    rcases h with ⟨o, h, hd⟩ | h
    · exact .inl ⟨o, k _ _ h (fun _ z => by cases z), hd⟩
    · exact .inr h
  | _, _, .obj m h r l, e => by unfold Pu.noL at e; exact .obj m (k _ _ h fun _ z => by cases z) (RAll.noLV k r e) l
  | _, _, .cls m, _ => .cls m
  | _, _, .lst _ _, e => by unfold Pu.noL at e; cases e
  | _, _, .vw _ _, e => by unfold Pu.noL at e; cases e
  | _, _, .script _, e => by unfold Pu.noL at e; cases e
  | _, _, .pool _, e => by unfold Pu.noL at e; cases e
  | _, _, .pin _, e => by unfold Pu.noL at e; cases e
theorem RAll.noLV {G3 : Gp} (k : ∀ a o, G' a = some (.fz o) → (∀ xs, o ≠ .lst xs) → G3 a = some (.fz o)) : ∀ {vs : List V} {ds : List D}, RAll C G' vs ds → noLL ds = true → RAll C G3 vs ds
  | _, _, .nil, _ => .nil
  | _, _, .cons r t, e => by
    unfold noLL at e
    rw [Bool.and_eq_true] at e
    exact .cons (R.noLV k r e.1) (RAll.noLV k t e.2)
end
theorem EOk.view {E : XK} {P : Exn → Prop} (k : Ok G H) (x : EOk C G H E P) : EOk C (viewG G H) H E (fun e => noVL e.ds = true ∧ P e) := fun G' H' cls d e y r p => by
  refine x (bkG true G H G') H' cls d e (Ext.view k y) ?_ p.2
  obtain ⟨A, h1, h2, h3, h4⟩ := r
  refine ⟨A, h1, h2, h3, ?_⟩
  rcases h4 with h4 | ⟨dd, vs, e1, e2, e3⟩
  · exact .inl h4
  · exact .inr ⟨dd, vs, e1, bk_keep y e2, RAll.noV (fun a o h => bk_keep y h) e3 p.1⟩
end
def pVw (bs : List Bool) (pe : PX) : PX := fun δ P P2 => pe (vwDl bs δ) (fun d => noV d = true ∧ P d) (fun e => noVL e.ds = true ∧ P2 e)
def pVwT (bs : List Bool) (pt : PTx) : PTx := fun δ P P2 => pt (vwDl bs δ) P (fun e => noVL e.ds = true ∧ P2 e)
section
variable {X : Cx} {E : L2.St → XK} {e : Expr} {te : TE} {pe : PX}
theorem lt_vw (bs : List Bool) {tt : TT} {pt : PTx} (h : LT X E e tt pt) : LT X E e tt (pVwT bs pt) :=
  ⟨h.py, fun k s x p q => h.le k.view (s.view bs) (EOk.view k x) p fun b G' H' y pd => q b _ H' (Ext.view (pv := true) k y) pd⟩
def pAsgT (bs : List Bool) (pe : PX) (i : Nat) : PSx := fun P δ => pe (vwDl bs δ) (fun d => noV d = true ∧ ∀ T, P.nx (δ.set i (some (.tree T d)))) (fun e => noVL e.ds = true ∧ P.ex δ e)
def pAsgV (bs : List Bool) (pe : PX) (i : Nat) : PSx := fun P δ => pe (vwDl bs δ) (fun d => match d with | .lst ds => noLL ds = true ∧ P.nx (δ.set i (some (.own none ds))) | _ => False) (fun e => noVL e.ds = true ∧ P.ex δ e)
variable {x : Str} {pos pos' : Pos}
theorem newT {C : Ctx} {G0 G G' : Gp} {H0 H H' : Hp} {v : V} {d : D} (x0 : Ext G0 H0 G H) (y : Ext (viewG G H) H G' H') (r : R C G' v d) (hn : noV d = true) :
    ∃ T Gt, TreeC (bkG false G H G') H0 H' T Gt ∧ R C Gt v d ∧ (∀ a, T a → H a = none) := by
  refine ⟨fun a => ∃ xs, G' a = some (.fz (.lst xs)), fun a => match G' a with
    | some (.fz (.lst xs)) => some (.fz (.lst xs))
    | _ => match bkG false G H G' a with
      | some (.fz (.lst _)) => none
      | x => x, ⟨fun a g h => ?_, fun a ⟨xs, h⟩ => ?_⟩, R.noV (fun a o h => ?_) r hn, fun a ⟨xs, h⟩ => ?_⟩
  · split at h
    · rename_i xs e
      cases h
      exact .inl ⟨⟨xs, e⟩, xs, rfl, y.ok.fz e⟩
    · split at h
      · cases h
      · rename_i n
        exact .inr ⟨h, fun xs z => n xs (by rw [h, z])⟩
  · obtain ⟨n, nl⟩ := new_lst y h
    refine ⟨?_, ?_, xs, y.ok.fz h⟩
    · have hH : H a = none := by
        cases e : H a with
        | none => rfl
        | some o =>
          have := (y.h a o e (vG_none n nl)).2
          rw [h] at this; cases this
      exact x0.back hH
    · cases e : bkG false G H G' a with
      | none => rfl
      | some g =>
        obtain ⟨_, z, _, n2⟩ := bk_new e n
        rw [h] at z
        cases z
        exact absurd rfl (n2 rfl xs)
  · by_cases c : ∃ xs, o = .lst xs
    · obtain ⟨xs, rfl⟩ := c
      rw [h]
    · have e : bkG false G H G' a = some (.fz o) := by
        have e1 := bk_keep y h
        cases e2 : G a with
        | some g => rw [bk_old e2] at e1 ⊢; exact e1
        | none =>
          obtain ⟨n1, _⟩ := bk_new e1 e2
          exact bk_at e2 n1 h (.inr fun ys z => c ⟨ys, z⟩)
      split
      · rename_i xs z
        rw [h] at z
        cases z
        exact absurd ⟨xs, rfl⟩ c
      · rw [e]
        split
        · rename_i xs z
          cases z
          exact absurd ⟨xs, rfl⟩ c
        · rfl
  · obtain ⟨n, nl⟩ := new_lst y h
    cases e : H a with
    | none => rfl
    | some o =>
      have := (y.h a o e (vG_none n nl)).2
      rw [h] at this; cases this
theorem SRel.setT {C : Ctx} {H0 H H' : Hp} {G G' : Gp} {σ : L2.St} {δ : Dl} {i : Nat} {v : V} {d : D} {T : Addr → Prop} {Gt : Gp} (s : SRel C H0 G H σ δ) (y : Ext G H G' H') (t : TreeC G' H0 H' T Gt) (r : R C Gt v d) (hT : ∀ a, T a → H a = none) :
    SRel C H0 G' H' (σ.set i (some v)) (δ.set i (some (.tree T d))) := by
  refine (s.ext y).set (.tree t.g t.p r) (fun z => by cases z) (fun j s' v' a h ev ne f1 f2 => ?_)
  exact s.fp_some h ev f1 (hT a f2)
theorem ls_asgT (i : Nat) (bs : List Bool) (hN : X.N.Nodup) (he : LX X E e te pe) (hi : X.N[i]? = some x := by rfl) (hx : Loc X.env.scope x := by first | exact Or.inl rfl | exact Or.inr rfl)
    (hs : swapsWith e (some (.Name x pos')) pos.line X.env = pure false := by rfl) (hf : X.fn x = true ∨ X.env.scope.names.lookup x = some .local := by first | exact .inl rfl | exact .inr rfl) :
    LS X E (.Assign [.Name x pos'] e pos) (tAsg te (gName i)) (pAsgT bs pe i) :=
  ⟨by first | exact ps_set hN hi hx he.py hs hf | exact ps_set hN hi hx he.py hs, fun en t p => he.le t.ok.view (t.sr.view bs) (EOk.view t.ok (en.ex t)) p fun v d G' H' y r q => by
    obtain ⟨T, Gt, tc, rt, hT⟩ := newT t.ext y r q.1
    have y2 := Ext.view (pv := false) t.ok y
    exact en.nx ⟨t.ext.trans y2, SRel.setT t.sr y2 tc rt hT⟩ (q.2 T)⟩
end
end Pu
set_option Elab.async false
set_option linter.all false
set_option maxRecDepth 100000
set_option maxHeartbeats 2000000
set_option autoImplicit false
namespace Pu
open PySem PySem.Spec PyProof.Rows L2
section
variable {C : Ctx} {G G' : Gp} {H H' H0 : Hp}
theorem R.flat_det {G1 G2 : Gp} {v : V} {d e : D} (r : R C G1 v d) (r2 : R C G2 v e) (h : flatD e = true) : d = e := by
  cases r2 <;> first | (cases r <;> rfl) | cases h
theorem RAll.flat_det {G1 G2 : Gp} : ∀ {vs : List V} {ds es : List D}, RAll C G1 vs ds → RAll C G2 vs es → es.all flatD = true → ds = es
  | _, _, _, .nil, .nil, _ => rfl
  | _, _, _, .cons r t, .cons r2 t2, h => by
    simp only [List.all_cons, Bool.and_eq_true] at h
    rw [R.flat_det r r2 h.1, RAll.flat_det t t2 h.2]
mutual
inductive UpdD (es es' : List D) : D → D → Prop
  | same (d) : UpdD es es' d d
  | hit : UpdD es es' (.lst es) (.lst es')
  | lst {ds ds'} : UpdL es es' ds ds' → UpdD es es' (.lst ds) (.lst ds')
  | tup {ds ds'} : UpdL es es' ds ds' → UpdD es es' (.tup ds) (.tup ds')
  | obj {c ds ds'} : UpdL es es' ds ds' → UpdD es es' (.obj c ds) (.obj c ds')
inductive UpdL (es es' : List D) : List D → List D → Prop
  | nil : UpdL es es' [] []
  | cons {d d' ds ds'} : UpdD es es' d d' → UpdL es es' ds ds' → UpdL es es' (d :: ds) (d' :: ds')
end
theorem UpdL.len {es es' : List D} : ∀ {ds ds' : List D}, UpdL es es' ds ds' → ds'.length = ds.length
  | _, _, .nil => rfl
  | _, _, .cons _ t => congrArg (· + 1) (UpdL.len t)
mutual
theorem R.upd {l : Addr} {ys ys' : List V} {es es' : List D} (hl : G l = some (.fz (.lst ys))) (re : RAll C G ys es) (hf : es.all flatD = true) (re' : RAll C (updG G l (.fz (.lst ys'))) ys' es') :
    ∀ {v : V} {d : D}, R C G v d → noV d = true → ∃ d', UpdD es es' d d' ∧ R C (updG G l (.fz (.lst ys'))) v d'
  | _, _, .non, _ => ⟨_, .same _, .non⟩
  | _, _, .bl b, _ => ⟨_, .same _, .bl b⟩
  | _, _, .int i, _ => ⟨_, .same _, .int i⟩
  | _, _, .str x, _ => ⟨_, .same _, .str x⟩
  | _, _, .lst (a := a) (xs := xs) (ds := ds) h r, e => by
    unfold noV at e
    have h' : G a = some (.fz (.lst xs)) := h
    by_cases c : a = l
    · rw [c, hl] at h'
      cases h'
      have := RAll.flat_det r re hf
      rw [this, c]
      exact ⟨_, .hit, .lst updG_same re'⟩
    · obtain ⟨ds', u, r'⟩ := RAll.upd hl re hf re' r e
      exact ⟨_, .lst u, .lst (by show updG G l _ a = _; rw [updG_ne c]; exact h') r'⟩
  | _, _, .tup (a := a) h r, e => by
    unfold noV at e
    obtain ⟨ds', u, r'⟩ := RAll.upd hl re hf re' r e
    refine ⟨_, .tup u, .tup ?_ r'⟩
    rcases h with ⟨o, h, hd⟩ | h
    · exact .inl ⟨o, by rw [updG_ne (fun z => by rw [z, hl] at h; cases h)]; exact h, hd⟩
    · exact .inr h
  | _, _, .obj (a := a) m h r n, e => by
    unfold noV at e
    obtain ⟨ds', u, r'⟩ := RAll.upd hl re hf re' r e
    exact ⟨_, .obj u, .obj m (by rw [updG_ne (fun z => by rw [z, hl] at h; cases h)]; exact h) r' (by rw [u.len]; exact n)⟩
  | _, _, .cls m, _ => ⟨_, .same _, .cls m⟩
  | _, _, .vw _ _, e => by unfold noV at e; cases e
  | _, _, .script _, e => by unfold noV at e; cases e
  | _, _, .pool _, e => by unfold noV at e; cases e
  | _, _, .pin _, e => by unfold noV at e; cases e
theorem RAll.upd {l : Addr} {ys ys' : List V} {es es' : List D} (hl : G l = some (.fz (.lst ys))) (re : RAll C G ys es) (hf : es.all flatD = true) (re' : RAll C (updG G l (.fz (.lst ys'))) ys' es') :
    ∀ {vs : List V} {ds : List D}, RAll C G vs ds → noVL ds = true → ∃ ds', UpdL es es' ds ds' ∧ RAll C (updG G l (.fz (.lst ys'))) vs ds'
  | _, _, .nil, _ => ⟨_, .nil, .nil⟩
  | _, _, .cons r t, e => by
    unfold noVL at e
    rw [Bool.and_eq_true] at e
    obtain ⟨d', u, r'⟩ := R.upd hl re hf re' r e.1
    obtain ⟨ds', us, t'⟩ := RAll.upd hl re hf re' t e.2
    exact ⟨_, .cons u us, .cons r' t'⟩
end
theorem TreeC.ext {P : Addr → Prop} {Gt : Gp} (t : TreeC G H0 H P Gt) (x : Ext G H G' H') : TreeC G' H0 H' P Gt := ⟨fun a g e => by
    rcases t.g a g e with ⟨p, xs, rfl, hx⟩ | ⟨g1, n⟩
    · exact .inl ⟨p, xs, rfl, (x.h _ _ hx (t.p a p).2.1).1⟩
    · exact .inr ⟨x.g _ _ g1, n⟩, fun a p => by
    obtain ⟨n, g, xs, hx⟩ := t.p a p
    obtain ⟨y1, y2⟩ := x.h _ _ hx g
    exact ⟨n, y2, xs, y1⟩⟩
theorem TreeC.lst {P : Addr → Prop} {Gt : Gp} {a : Addr} {xs : List V} (t : TreeC G H0 H P Gt) (h : Gt a = some (.fz (.lst xs))) : P a ∧ H a = some (.lst xs) ∧ G a = none ∧ H0 a = none := by
  rcases t.g a _ h with ⟨p, ys, e, hx⟩ | ⟨_, n⟩
  · cases e
    exact ⟨p, hx, (t.p a p).2.1, (t.p a p).1⟩
  · exact absurd rfl (n xs)
theorem TreeC.tup {P : Addr → Prop} {Gt : Gp} {a : Addr} {xs : List V} (t : TreeC G H0 H P Gt) (h : TpG C Gt a xs) : TpG C G a xs := by
  rcases h with ⟨o, h, hd⟩ | h
  · rcases t.g a _ h with ⟨_, ys, e, _⟩ | ⟨h1, _⟩
    · cases e
    · exact .inl ⟨o, h1, hd⟩
  · exact .inr h
theorem SRel.tree {σ : L2.St} {δ : Dl} {i : Nat} {T : Addr → Prop} {d : D} (s : SRel C H0 G H σ δ) (e : δ[i]? = some (some (.tree T d))) : ∃ v Gt, σ[i]? = some (some v) ∧ TreeC G H0 H T Gt ∧ R C Gt v d := by
  obtain ⟨v, ev, r⟩ := s.at_ i _ e
  cases r with
  | tree t1 t2 r => exact ⟨v, _, ev, ⟨t1, t2⟩, r⟩
theorem TreeC.write {P : Addr → Prop} {Gt : Gp} {l : Addr} {ys ys' : List V} (t : TreeC G H0 H P Gt) (h : Gt l = some (.fz (.lst ys))) : TreeC G H0 (upd H l (.lst ys')) P (updG Gt l (.fz (.lst ys'))) := by
  obtain ⟨pl, hl, gl, nl⟩ := t.lst h
  refine ⟨fun a g e => ?_, fun a pa => ?_⟩
  · by_cases c : a = l
    · subst c
      rw [updG_same] at e
      cases e
      exact .inl ⟨pl, _, rfl, upd_same⟩
    · rw [updG_ne c] at e
      rcases t.g a g e with ⟨p, xs, rfl, hx⟩ | z
      · exact .inl ⟨p, xs, rfl, by rw [upd_ne c]; exact hx⟩
      · exact .inr z
  · obtain ⟨n1, n2, xs, n3⟩ := t.p a pa
    by_cases c : a = l
    · exact ⟨n1, n2, ys', by rw [c]; exact upd_same⟩
    · exact ⟨n1, n2, xs, by rw [upd_ne c]; exact n3⟩
end
abbrev PTr := Dl → D → (D → Prop) → (Exn → Prop) → Prop
structure LTr (X : Cx) (E : L2.St → XK) (e : Expr) (te : TE) (i : Nat) (pp : PTr) : Prop where
  py : PE X e te
  le : ∀ {δ : Dl} {σ : L2.St} {G : Gp} {H H0 : Hp} {T : Addr → Prop} {Gt : Gp} {v : V} {d : D} {Q : VK} {K : D → Prop} {P2 : Exn → Prop}, Ok G H → SRel (cx X) H0 G H σ δ → EOk (cx X) G H (E σ) P2 → σ[i]? = some (some v) → TreeC G H0 H T Gt → R (cx X) Gt v d → pp δ d K P2 →
    (∀ v' d' G' H', Ext G H G' H' → R (cx X) Gt v' d' → K d' → Q v' H') → te σ H Q
def pTrV : PTr := fun _ d K _ => K d
def pTrI (pp : PTr) (pj : PX) : PTr := fun δ d K P2 => pp δ d (fun d1 => pj δ (fun x => match x with
  | .int n => (match d1 with
    | .lst ds => (match atI ds n with | some y => K y | none => False)
    | .tup ds => (match atI ds n with | some y => K y | none => False)
    | _ => False)
  | _ => False) P2) P2
section
variable {X : Cx} {E : L2.St → XK} {e o j : Expr} {te to tj : TE} {pe pj : PX} {pp : PTr} {i : Nat}
theorem ltr_var (i : Nat) {x : Str} {pos : Pos} (hN : X.N[i]? = some x := by rfl) (hv : Vis X.env.scope x := by first | exact Or.inl rfl | exact Or.inr (Or.inl rfl) | exact Or.inr (Or.inr rfl))
    (hd : (x == ("__debug__" : Str)) = false := by decide) (hcd : (x == ("__classdict__" : Str)) = false := by decide) : LTr X E (.Name x pos) (tVar i) i pTrV :=
  ⟨pe_var hN hv hd hcd, fun k s x ev t r p q => ⟨_, ev, q _ _ _ _ (.refl k) r p⟩⟩
theorem ltr_ix {pos : Pos} (ho : LTr X E o to i pp) (hj : LX X E j tj pj) (hs : PlainIx j) : LTr X E (.Subscript o j pos) (tOp (rIx X.K) to tj) i (pTrI pp pj) :=
  ⟨pe_ix ix_seq ho.py hj.py hs, fun {δ σ G H H0 T Gt v d Q K P2} k s x ev t r p q => ho.le k s x ev t r p fun v1 d1 G1 H1 y1 r1 p1 => by
    refine hj.le y1.ok (s.ext y1) (x.ext y1) p1 fun u d2 G2 H2 y2 r2 p2 => ?_
    have y := y1.trans y2
    have t2 := t.ext y
    split at p2
    · obtain rfl := r2.intR
      split at p2
      · split at p2
        · rename_i dd ed
          cases r1 with
          | lst h1 rr =>
            obtain ⟨w, h2, rw⟩ := rr.atI ed
            exact .inl ⟨_, _, _, w, rfl, rfl, SqL.of (t2.lst h1).2.1, h2, q _ _ _ _ y rw p2⟩
        · exact p2.elim
      · split at p2
        · rename_i dd ed
          cases r1 with
          | tup h1 rr =>
            obtain ⟨w, h2, rw⟩ := rr.atI ed
            exact .inr (.inl ⟨_, _, _, w, rfl, rfl, TpG.seq y2.ok (t2.tup h1), h2, q _ _ _ _ y rw p2⟩)
        · exact p2.elim
      · exact p2.elim
    · exact p2.elim⟩
def trEnd (up : Bool) (i : Nat) (T : Addr → Prop) (d : D) (es es' : List D) (nx : Dl → Prop) (δ : Dl) : Prop :=
  if up = true then es.all flatD = true ∧ es'.all flatD = true ∧ noV d = true ∧ ∀ d2, UpdD es es' d d2 → nx (δ.set i (some (.tree T d2))) else nx (δ.set i none)
def pTrApp (i : Nat) (up : Bool) (pp : PTr) (pe : PX) : PSx := fun P δ => match δ[i]? with
  | some (some (.tree T d)) => pp δ d (fun d1 => match d1 with
    | .lst es => pe δ (fun x => es.length < szl ∧ trEnd up i T d es (es ++ [x]) P.nx δ) (P.ex δ)
    | _ => False) (P.ex δ)
  | _ => False
variable {p pos apos : Pos}
def pTrSet (i : Nat) (up : Bool) (pp : PTr) (pk pe : PX) : PSx := fun P δ => pe δ (fun x => match δ[i]? with
  | some (some (.tree T d)) => pp δ d (fun d1 => match d1 with
    | .lst es => pk δ (fun k => match k with
      | .int j => (match ixN es.length j with | some n => trEnd up i T d es (es.set n x) P.nx δ | none => False)
      | _ => False) (P.ex δ)
    | _ => False) (P.ex δ)
  | _ => False) (P.ex δ)
def pTrMut (i : Nat) (up : Bool) (pp : PTr) (f : List D → List D) : PSx := fun P δ => match δ[i]? with
  | some (some (.tree T d)) => pp δ d (fun d1 => match d1 with
    | .lst es => trEnd up i T d es (f es) P.nx δ
    | _ => False) (P.ex δ)
  | _ => False
end
end Pu
set_option Elab.async false
set_option linter.all false
set_option maxRecDepth 100000
set_option maxHeartbeats 2000000
set_option autoImplicit false
namespace Pu
open PySem PySem.Spec PyProof.Rows L2
section
theorem SRel.moveT {C : Ctx} {G : Gp} {H H0 : Hp} {σ : L2.St} {δ : Dl} {i k : Nat} {T : Addr → Prop} {d : D} {v : V} {l : Addr} {ys : List V} {es : List D} (s : SRel C H0 G H σ δ) (e : δ[i]? = some (some (.tree T d))) (ev : σ[i]? = some (some v)) (hT : T l)
    (hl : H l = some (.lst ys)) (gl : G l = none) (nl : H0 l = none) (re : RAll C G ys es) (ne : i ≠ k) :
    SRel C H0 G H (σ.set k (some (.ref l))) ((δ.set i none).set k (some (.own none es))) := by
  have s1 : SRel C H0 G H σ (δ.set i none) := by
    have h := s.setN (i := i) (o := some v)
    have z : σ.set i (some v) = σ := by
      refine List.ext_getElem? fun j => ?_
      by_cases c : i = j
      · subst c
        rw [List.getElem?_set_self (List.getElem?_eq_some_iff.mp ev).1, ev]
      · rw [List.getElem?_set_ne c]
    rwa [z] at h
  have key : ∀ (j : Nat) (u : S), (δ.set i none)[j]? = some (some u) → j ≠ i ∧ δ[j]? = some (some u) := fun j u h => by
    by_cases c : i = j
    · subst c
      rw [List.getElem?_set_self (List.getElem?_eq_some_iff.mp e).1] at h
      cases h
    · rw [List.getElem?_set_ne c] at h
      exact ⟨fun z => c z.symm, h⟩
  refine s1.set (.own (fun _ z => by cases z) hl gl nl re) (fun _ j s' h o n z => ?_) (fun j s' v' a h ev' n f1 f2 => ?_)
  · obtain ⟨n1, h1⟩ := key j s' h
    have f : s'.fp (.ref l) l := by
      cases s' with
      | d _ => cases o
      | own _ _ => rfl
      | slf _ _ _ => rfl
      | exc _ _ _ _ => cases o
      | tree _ _ => cases o
    exact s.apT i j T d s' _ l (Ne.symm n1) e h1 z hT f
  · obtain ⟨n1, h1⟩ := key j s' h
    have f2' : (.ref l : V) = .ref a := f2
    cases f2'
    exact s.apT i j T d s' v' l (Ne.symm n1) e h1 ev' hT f1
def pMvT (i : Nat) (pp : PTr) (k : Nat) : PSx := fun P δ => match δ[i]? with
  | some (some (.tree T d)) => pp δ d (fun d1 => match d1 with
    | .lst es => noLL es = true ∧ P.nx ((δ.set i none).set k (some (.own none es)))
    | _ => False) (P.ex δ)
  | _ => False
variable {X : Cx} {E : L2.St → XK} {e : Expr} {te : TE} {pp : PTr} {x : Str} {pos pos' : Pos} {i : Nat}
theorem ls_mvT (k : Nat) (hN : X.N.Nodup) (he : LTr X E e te i pp) (ne : i ≠ k := by decide) (hi : X.N[k]? = some x := by rfl) (hx : Loc X.env.scope x := by first | exact Or.inl rfl | exact Or.inr rfl)
    (hs : swapsWith e (some (.Name x pos')) pos.line X.env = pure false := by rfl) (hf : X.fn x = true ∨ X.env.scope.names.lookup x = some .local := by first | exact .inl rfl | exact .inr rfl) :
    LS X E (.Assign [.Name x pos'] e pos) (tAsg te (gName k)) (pMvT i pp k) :=
  ⟨by first | exact ps_set hN hi hx he.py hs hf | exact ps_set hN hi hx he.py hs, fun en t p => by
    unfold pMvT at p
    split at p
    · rename_i T d ed
      obtain ⟨v, Gt, ev, tc, rd⟩ := t.sr.tree ed
      refine he.le t.ok t.sr (en.ex t) ev tc rd p fun v1 d1 G1 H1 y1 r1 p1 => ?_
      split at p1
      · rename_i es
        cases r1 with
        | @lst l ys _ hl re =>
          have tc1 := tc.ext y1
          obtain ⟨pl, h1, g1, n1⟩ := tc1.lst hl
          refine en.nx ⟨t.ext.trans y1, SRel.moveT (t.sr.ext y1) ed ev pl h1 g1 n1 (RAll.noLV (fun a o ea n => ?_) re p1.1) ne⟩ p1.2
          rcases tc1.g a _ ea with ⟨_, xs, z, _⟩ | ⟨z, _⟩
          · cases z
            exact absurd rfl (n xs)
          · exact z
      · exact p1.elim
    · exact p.elim⟩
end
end Pu
set_option Elab.async false
set_option linter.all false
set_option maxRecDepth 100000
set_option maxHeartbeats 2000000
set_option autoImplicit false
namespace HT
open PySem PySem.Spec PyProof.Rows
section
variable {prog : Program} {w : World} {A : Around} {E : Value → Shared → Prop} {s : Shared}
end
end HT
namespace Pu
open PySem PySem.Spec PyProof.Rows L2
section
variable {X : Cx} {E : L2.St → XK}
def tRevT (K : PySem.W.Frag) (te : TE) : TE := fun σ H Q => te σ H fun x H1 => ∃ a xs, x = .ref a ∧ SqT K H1 a xs ∧ ∀ p o, H1 p = none → o.dict = none → Q (.ref p) (upd H1 p (.frz o (.tup xs.reverse)))
def pRevT (pe : PX) : PX := fun δ P P2 => pe δ (fun d => match d with | .tup ds => P (.tup ds.reverse) | _ => False) P2
end
end Pu
set_option Elab.async false
set_option linter.all false
set_option maxRecDepth 100000
set_option maxHeartbeats 2000000
set_option autoImplicit false
namespace Pu
open PySem PySem.Spec PyProof.Rows L2
def rIsXt (K : PySem.W.Frag) (a : Addr) (cls : Value) (d : Option Addr) : List V → Hp → VK → Prop := fun xs H Q => ∃ (tp : Addr) (cs : List V) (us : List Value) (b : Bool) (C : Addr), cls = .ref C ∧ ExcC K C ∧ (d = none ∨ ∃ dd fs, d = some dd ∧ H dd = some (.xd fs)) ∧ xs = [.ref a, .ref tp] ∧ H tp = some (.tup cs) ∧ Paired ClsV cs us ∧ PySem.W.kitAny K (.ref C) us = some b ∧ Q (.bl b) H
section
variable {X : Cx} {E : L2.St → XK} {a : Addr} {oe : Obj} {cls : Value} {d : Option Addr} {pn : List (Addr × Obj)}
theorem call_isXt (hz : Zc cls d oe) (hf : ∃ vs, oe.data = .fields vs) : CallR (X.suite a ((a, oe) :: pn)) (.builtin "isinstance") (rIsXt X.K a cls d) := fun pins s σ H xs us Q I r ⟨tp, cs, ws, b, C, ec, T, hd, ex, hT, hc, hk, q⟩ => by
  subst ec ex
  obtain ⟨u1, u2, rfl, r1, r2⟩ := vals2 r
  cases r1
  cases (show u2 = Value.ref tp from r2)
  obtain ⟨_, its, rv, o, h1, h2, n, h3⟩ := (show ObjOk X.prog X.w H s.heap tp (.tup cs) from I.hok tp _ hT)
  have e3 := ClsV.all hc rv
  subst e3
  obtain ⟨oc0, od0, dt0, sl0⟩ := o
  simp only at h2 h3
  subst h2 h3
  obtain ⟨at1, _⟩ := I.pin (a, oe) (List.mem_append.mpr (.inl List.mem_cons_self))
  obtain ⟨vs, hv⟩ := hf
  obtain ⟨oc, od, dt, sl⟩ := oe
  obtain ⟨z1, z2⟩ := hz
  simp only at z1 z2 hv
  subst z1 z2 hv
  have J : ∃ o2, PySem.W.InstAt s.heap a ⟨.ref C, od, .fields vs, sl⟩ C o2 := by
    rcases hd with rfl | ⟨dd, fs, rfl, hx⟩
    · exact ⟨none, at1, rfl, rfl, trivial⟩
    · obtain ⟨mA, ns, _⟩ := (show ObjOk X.prog X.w H s.heap dd (.xd fs) from I.hok dd _ hx)
      obtain ⟨o, ho, _⟩ := lookIn_ns ns
      exact ⟨some o, at1, rfl, rfl, ho⟩
  obtain ⟨o2, J⟩ := J
  have hcl : (PySem.W.clsIn X.K C).isSome = true := by
    obtain ⟨cd, hc, _⟩ := PySem.W.any_some T.hd
    rw [hc] <;> rfl
  exact PySem.W.kia_tup (PySem.W.kitx_exc hcl T.hg T.hk T.hs T.ha T.hn T.ht T.hm) I.kIn J h1 hk (fun z => nomatch z) fun tk => ⟨.bl b, H, I.tok tk, rfl, q⟩
def anyF (f g : Nat → Option Bool) (c : Nat) : Option Bool := match f c with | some true => some true | some false => g c | none => none
def IsXTs (K : PySem.W.Frag) (mg : Str → Option Value) (cvs : List Value) (f : Nat → Option Bool) : Prop := ∀ c b, f c = some b → ∀ A, mg (cname c) = some (.ref A) → ExcC K A ∧ PySem.W.kitAny K (.ref A) cvs = some b
theorem isxs_one {K : PySem.W.Frag} {mg : Str → Option Value} {cv : Value} {f : Nat → Option Bool} (T : IsXT K mg cv f) : IsXTs K mg [cv] f := fun c b e A hA => by
  obtain ⟨t1, t2⟩ := T c b e A hA
  refine ⟨t1, kitAny_cons t2 (fun z => ?_) (fun z => z)⟩
  subst z
  exact kitAny_nil
theorem isxs_cons {K : PySem.W.Frag} {mg : Str → Option Value} {cv : Value} {cvs : List Value} {f g : Nat → Option Bool} (T : IsXT K mg cv f) (T2 : IsXTs K mg cvs g) : IsXTs K mg (cv :: cvs) (anyF f g) := fun c b e A hA => by
  unfold anyF at e
  split at e
  · rename_i e1
    obtain ⟨t1, t2⟩ := T c _ e1 A hA
    cases e
    exact ⟨t1, kitAny_cons t2 (fun z => by cases z) (fun _ => rfl)⟩
  · rename_i e1
    obtain ⟨t1, t2⟩ := T c _ e1 A hA
    exact ⟨t1, kitAny_cons t2 (fun _ => (T2 c b e A hA).2) (fun z => by cases z)⟩
  · cases e
theorem lx_isXM (i : Nat) (f : Nat → Option Bool) {n : Str} {es : List Expr} {t : TA} {cs : List V} {us : List Value} {x1 : Nat} {np p p2 pos : Pos} (hpa : PA (X.suite a ((a, oe) :: pn)) es t) (ht : ∀ σ H Q, t σ H Q = Q cs H) (hP : Paired ClsV cs us) (T : IsXTs X.K X.mg us f) (hz : Zc cls d oe) (hf : ∃ vs, oe.data = .fields vs) (hg : Gl X "isinstance") (hm : X.mg "isinstance" = none) (hv2 : bootBuiltins "isinstance" = some (.builtin "isinstance"))
    (hN : X.N[i]? = some n := by rfl) (hl : cs.length ≤ 100 := by exact Nat.le_of_ble_eq_true rfl) (hv : Vis X.env.scope n := by first | exact Or.inl rfl | exact Or.inr (Or.inl rfl) | exact Or.inr (Or.inr rfl))
    (hd : (n == ("__debug__" : Str)) = false := by decide) (hcd : (n == ("__classdict__" : Str)) = false := by decide) :
    LX (X.suite a ((a, oe) :: pn)) E (.Call (.Name "isinstance" p) [.Name n np, .Tuple es x1 p2] [] pos) (tCB (rIsXt X.K a cls d) (tCons (tVar i) (tCons (tTup t) tNil))) (pIsX a cls d i f) :=
  ⟨pe_callB (X := X.suite a ((a, oe) :: pn)) (call_isXt hz hf) hg hm hv2 (pa_cons (pe_var (X := X.suite a ((a, oe) :: pn)) hN hv hd hcd) (pa_cons (pe_tup hpa) pa_nil)),
    fun {δ σ G H H0 Q P P2} k s x p q => by
      unfold pIsX at p
      split at p
      · rename_i a' cls' d' e es'
        obtain ⟨rfl, rfl, rfl, p⟩ := p
        split at p
        · rename_i b eb
          obtain ⟨v, ev, r⟩ := s.at_ i _ es'
          cases r with
          | exc xr =>
            obtain ⟨A, hm, rfl, hlen, hd⟩ := xr
            obtain ⟨t1, t2⟩ := T _ _ eb _ hm
            refine ⟨_, ev, ?_⟩
            show tTup t σ H _
            unfold tTup
            rw [ht]
            refine ⟨by rw [sizeLine_eq]; have : szl = 16777216 := rfl; omega, fun pt hpt => ?_⟩
            have y := Ext.new (o := .tup cs) k hpt
            refine ⟨pt, cs, us, b, A, rfl, t1, ?_, rfl, upd_same, hP, t2, q _ _ _ _ y (.bl b) p⟩
            rcases hd with ⟨_, h0⟩ | ⟨dd, vs, e2, hg, rv⟩
            · exact .inl h0
            · exact .inr ⟨dd, _, e2, y.ok.fz hg⟩
        · exact p.elim
      · exact p.elim⟩
end
end Pu
set_option Elab.async false
set_option linter.all false
set_option maxRecDepth 100000
set_option maxHeartbeats 3200000
set_option autoImplicit false
namespace Pu
open PySem PySem.Spec PyProof.Rows L2
section
variable {P : Program} {w : World} {A : Around} {E : Value → Shared → Prop} {s : Shared}
def filled (w : World) (s : Shared) (ns : List Int) (s2 : Shared) : Prop := ∃ (h' : Heap) (tk c : Nat), s2 = { s with heap := h', toks := tk } ∧
  SetR w h' s.heap.objs.size (fun j => decide (j ∈ ns)) c ∧ c ≤ ns.length ∧ ∀ b o, s.heap.get? b = some o → h'.get? b = some o
theorem set_list {l : Addr} {its : Array Value} {ns : List Int} {Q : Value → Shared → Prop} (hh : A.handled = none) (hl : s.heap.IsList l its) (hi : IntsAre its.toList ns) (hb : ns.length + 1 < scanBound)
    (q : ∀ s2, filled w s ns s2 → Q (.ref (Array.size (Heap.objs s.heap))) s2) : wpAny (model P w) A (call (.type "set") [.ref l]) Q E s := by
  have sz : its.size = ns.length := by rw [← Array.length_toList]; exact hi.length
  have m1 := F.called_set.mro
  have m2 := F.called_set.made
  have m3 := F.called_set.sub
  have m4 := F.called_set.notType
  have m5 := F.called_set.canCreate
  have m6 := F.typeCall_set_1 (.ref l)
  obtain ⟨c0, tl0, m1⟩ := m1
  refine wpAny_call (codeAny_of_tree ?_)
  show wpAny _ _ (callAny (.type "set") _) _ _ _
  refine wpAny_pure ⟨Code.quiet_builtin _ (by decide +kernel), codeAny_builtin F.entry_type_call ?_⟩
  rw [Around.under_plain (weight_type_call_type "set" [.ref l] []) rfl]
  repeat any_goals first | assumption | wp_step
  refine codeAny_mono (code_set_led1 (.ref l) (E := E) (Q₁ := fun o s1 => o = .ref (Array.size (Heap.objs s.heap)) ∧ s1 = { s with heap := (Heap.push s.heap (Obj.mk (Value.type "set") none (Data.set #[] 0 (SetTable.fresh 0 0 (!w.params.followText "set-order"))) #[])) }) ⟨rfl, rfl⟩) fun r s1 hr => ?_
  cases r with
  | error e => exact hr
  | ok fl =>
    cases fl with
    | ret o1 =>
      obtain ⟨rfl, rfl⟩ := hr
      have hS : ((Heap.push s.heap (Obj.mk (Value.type "set") none (Data.set #[] 0 (SetTable.fresh 0 0 (!w.params.followText "set-order"))) #[]))).get? (Array.size (Heap.objs s.heap)) = some (Obj.mk (Value.type "set") none (Data.set #[] 0 (SetTable.fresh 0 0 (!w.params.followText "set-order"))) #[]) := Heap.get?_push_size _ rfl
      have hT : Shared.TypeIs { s with heap := (Heap.push s.heap (Obj.mk (Value.type "set") none (Data.set #[] 0 (SetTable.fresh 0 0 (!w.params.followText "set-order"))) #[])) } (.ref (Array.size (Heap.objs s.heap))) "set" := ⟨_, hS, rfl⟩
      have i1 := F.called_set.init.lookup
      have i2 := F.called_set.init.bind (.ref (Array.size (Heap.objs s.heap)))
      repeat any_goals first | assumption | wp_step
      refine codeAny_mono (codeAny_call_builtin (R := wants (fun r s2 => r = .none ∧ filled w s ns s2) E) F.called_set.init.plain F.entry_set_init (check_set_init_1 hT ?_)) fun r2 s2 hr2 => ?_
      · obtain ⟨⟨kc, kd, kx, ks⟩, h0, e1, nl, e2⟩ := hl
        simp only at e1 e2
        subst e1 e2
        have hol := Heap.get?_push_of_some (Obj.mk (Value.type "set") none (Data.set #[] 0 (SetTable.fresh 0 0 (!w.params.followText "set-order"))) #[]) h0
        have x1 := F.sub_list_set
        have x2 := F.sub_list_frozenset
        have x3 : (Value.type "list" == Value.type "dict") = false := by decide
        have hl1 : ((Heap.push s.heap (Obj.mk (Value.type "set") none (Data.set #[] 0 (SetTable.fresh 0 0 (!w.params.followText "set-order"))) #[]))).IsList l its := ⟨_, hol, rfl, nl, rfl⟩
        have below : l < (Array.size (Heap.objs s.heap)) := Heap.lt_size h0
        have ez : ((Heap.push s.heap (Obj.mk (Value.type "set") none (Data.set #[] 0 (SetTable.fresh 0 0 (!w.params.followText "set-order"))) #[]))).objs.size = (Array.size (Heap.objs s.heap)) + 1 := Heap.size_push ..
        unfold Builtin.«set.__init__» noKeywords Builtin.Frozenset.updateFrom
        generalize hPI : pyIter = PI
        wp_walk
        subst hPI
        refine wpAny_pyIter_list hl1 (wpAny_bind (wpAny_runValue ?_))
        refine set_update_ints (Walks.list (A := A.in1.in1.in1) (by simp [hh]) _ l (by rw [ez]; exact Nat.ne_of_lt (Nat.lt_succ_of_lt below)) its).toS (Array.size (Heap.objs s.heap)) (by rw [ez]; simp only [List.mem_cons, List.not_mem_nil, or_false, not_or]; exact ⟨Nat.ne_of_lt (Nat.lt_succ_self _), Nat.ne_of_gt below⟩) ns sz hb (fun i v hv => ?_) its.size 0 _ rfl (Nat.zero_le _)
          ⟨⟨_, Heap.get?_push_size _ rfl, rfl, rfl⟩, hl1.push _⟩ ⟨0, Nat.le_refl 0, setR_new_at (Heap.get?_push_of_some _ hS)⟩ fun s3 c3 hm hc hR => ?_
        · have hlt : i < ns.length := by rw [← sz]; exact (Array.getElem?_eq_some_iff.mp hv).1
          obtain ⟨t, e⟩ := hi.int_at i v (by rw [Array.getElem?_toList]; exact hv)
          rw [List.getD_eq_getElem?_getD, List.getElem?_eq_getElem hlt] at e
          exact ⟨_, t, List.getElem?_eq_getElem hlt, e⟩
        · have g1 := hm.gens
          have g2 := hm.drawn
          have g3 := hm.os
          obtain ⟨h3, g', d', t3, o'⟩ := s3
          simp only at g1 g2 g3
          subst g1 g2 g3
          show wpAny _ _ _ _ _ _
          refine wpAny_pure ?_
          show wpAny _ _ (ret Value.none) _ _ _
          rw [sz] at hc
          refine wpAny_pure ⟨rfl, h3, t3, c3, rfl, hR, hc, fun b o e => ?_⟩
          have lt := Heap.lt_size e
          refine hm.heap b o ?_ (Heap.get?_push_of_some _ (Heap.get?_push_of_some _ e))
          rw [ez]
          simp only [List.mem_cons, List.not_mem_nil, or_false, not_or]
          exact ⟨Nat.ne_of_lt lt, Nat.ne_of_lt (Nat.lt_succ_of_lt lt)⟩
      · cases r2 with
        | error e => exact hr2
        | ok f2 =>
          cases f2 with
          | ret v2 =>
            obtain ⟨rfl, hf⟩ := hr2
            repeat any_goals first | assumption | wp_step
            exact q _ hf
          | _ => exact hr2.elim
    | _ => exact hr.elim
variable {X : Cx}
def rSetOf (w : World) (K : PySem.W.Frag) : List V → Hp → VK → Prop := fun vs H Q => ∃ (a : Addr) (ns : List Int), vs = [V.ref a] ∧ (SqL K H a (ns.map V.int) ∨ SqT K H a (ns.map V.int)) ∧ ns.length < 64 ∧
  ∀ (p : Addr) (c : Nat), H p = none → c ≤ ns.length → Q (.ref p) (upd H p (SetO w p (fun j => decide (j ∈ ns)) c))
theorem cr_setOf (hc : X.calm = true) : CallR X (.type "set") (rSetOf X.w X.K) := fun pins s σ H vs us Q I r ⟨a, ns, e, h, h64, q⟩ => by
  subst e
  rw [Vals.ref1 r]
  have hb : ns.length + 1 < scanBound := by unfold scanBound; omega
  have fin : ∀ (h' : Heap) (tk c : Nat), SetR X.w h' s.heap.objs.size (fun j => decide (j ∈ ns)) c → c ≤ ns.length → (∀ b o, s.heap.get? b = some o → h'.get? b = some o) → ∃ x H', Inv X pins σ H' { s with heap := h', toks := tk } ∧ RelV x (.ref s.heap.objs.size) ∧ Q x H' := fun h' tk c R hcl hk => by
    have hn : H s.heap.objs.size = none := I.hok.fresh (Nat.le_refl _)
    exact ⟨.ref _, upd H s.heap.objs.size (SetO X.w s.heap.objs.size (fun j => decide (j ∈ ns)) c), I.laid (t' := tk) hk (Nat.le_refl _) (setO_new R), rfl, q _ c hn hcl⟩
  rcases h with h | h
  · obtain ⟨its, rv, pl, _⟩ := I.list h
    exact set_list (I.ok.hd hc) pl.isList (by simpa using rv.ints) hb fun s2 ⟨h', tk, c, e, R, hcl, hk⟩ => by
      subst e
      exact fin h' tk c R hcl hk
  · obtain ⟨its, rv, pl, _⟩ := I.tuple h
    exact call_set_tupI ns (I.ok.hd hc) pl (by simpa using rv.ints) hb fun h' tk c R hcl hk => fin h' tk c R hcl hk
def fSrtSet : PFn := fun ds P => match ds with | [d] => (match itemsD d with | some es => (match intsD es with | some ns => ns.length < 64 ∧ ∀ ns' : List Int, ns'.Pairwise (· < ·) → (∀ k, k ∈ ns' ↔ k ∈ ns) → P (.lst (ns'.map .int)) | none => False) | none => False) | _ => False
theorem lo_srtSet {E : L2.St → XK} {x y : Str} {p p2 pos pos2 : Pos} {e : Expr} {t : TA} {pa : PAx} (hc : X.calm = true) (hg : Gl X x) (hm : X.mg x = none) (hv : bootBuiltins x = some (.builtin "sorted")) (hg2 : Gl X y) (hm2 : X.mg y = none) (hv2 : bootBuiltins y = some (.type "set")) (ha : LW X E [e] t pa)
    (hn : x ≠ "__name__" := by decide) (hdb : (x == ("__debug__" : Str)) = false := by decide) (hn2 : y ≠ "__name__" := by decide) (hdb2 : (y == ("__debug__" : Str)) = false := by decide)
    (he : starEach [e] X.env = (false, eval e X.env) :: starEach [] X.env := by rfl) (hpl : (backTo pos2 (starEach [] X.env)).any (·.1) = false := by rfl)
    (he2 : starEach [Expr.Call (.Name y p2) [e] [] pos2] X.env = (false, eval (Expr.Call (.Name y p2) [e] [] pos2) X.env) :: starEach [] X.env := by rfl) (hpl2 : (backTo pos (starEach [] X.env)).any (·.1) = false := by rfl) :
    LO X E (.Call (.Name x p) [.Call (.Name y p2) [e] [] pos2] [] pos) (tCB (rSortedSet X.w) (tCons (tCB (rSetOf X.w X.K) t) tNil)) (pCB fSrtSet pa) :=
  ⟨pe_callB (cr_sortedSet hc) hg hm hv (pa_cons (pe_callTy (cr_setOf hc) hg2 hm2 hv2 ha.py hn2 hdb2 he hpl) pa_nil) hn hdb he2 hpl2, fun {δ σ G H H0 Q P P2} k s x p q => ha.le k s x p fun vs ds G1 H1 y1 r1 p1 => by
    unfold fSrtSet at p1
    split at p1
    · split at p1
      · rename_i es e1
        split at p1
        · rename_i ns e2
          obtain ⟨h64, p1⟩ := p1
          obtain ⟨v, rfl, r⟩ := r1.one
          obtain ⟨a, xs, rfl, h, r⟩ := r.items y1.ok e1
          rw [intsD_eq e2] at r
          rw [r.int] at h
          refine ⟨a, ns, rfl, h, h64, fun pp c hp hcl => ?_⟩
          have z1 := Ext.new (o := SetO X.w pp (fun j => decide (j ∈ ns)) c) y1.ok hp
          refine ⟨pp, _, c, rfl, upd_same, by omega, fun ns' l h1 h2 _ hl => ?_⟩
          have z2 := Ext.new (o := .lst (ns'.map V.int)) z1.ok hl
          refine q l _ _ G1 _ ((y1.trans z1).trans z2) ((y1.trans z1).back hl) upd_same (z1.ok.none_of hl) (RAll.ints _) (p1 ns' h1 fun k => ?_)
          rw [h2, decide_eq_true_iff]
        · exact p1.elim
      · exact p1.elim
    · exact p1.elim⟩
end
end Pu
set_option Elab.async false
set_option linter.all false
set_option maxRecDepth 100000
set_option maxHeartbeats 2000000
set_option autoImplicit false
namespace Pu
open PySem PySem.Spec PyProof.Rows L2
theorem shaped_int (i : Int) : SeqAt.shaped (.int i) = true := rfl
theorem fEq_int {i j : Int} {P : D → Prop} : fEq (.int i) (.int j) P ↔ P (.bl (decide (i = j))) := by
  unfold fEq
  constructor
  · rintro ⟨a, b, h1, h2, _, _, p⟩
    cases h1; cases h2
    have e : PyData.eqv (.int i) (.int j) = decide (i = j) := by
      show (i == j) = decide (i = j)
      by_cases h : i = j <;> simp [h]
    rw [e] at p
    exact p
  · intro p
    refine ⟨.int i, .int j, rfl, rfl, shaped_int i, shaped_int j, ?_⟩
    have e : PyData.eqv (.int i) (.int j) = decide (i = j) := by
      show (i == j) = decide (i = j)
      by_cases h : i = j <;> simp [h]
    rw [e]
    exact p
theorem fNe_int {i j : Int} {P : D → Prop} : fNe (.int i) (.int j) P ↔ P (.bl (decide (i ≠ j))) := by
  unfold fNe
  have e : (!PyData.eqv (.int i) (.int j)) = decide (i ≠ j) := by
    show (!(i == j)) = decide (i ≠ j)
    by_cases h : i = j <;> simp [h]
  constructor
  · rintro ⟨a, b, h1, h2, _, _, p⟩
    cases h1; cases h2
    rw [e] at p
    exact p
  · intro p
    refine ⟨.int i, .int j, rfl, rfl, shaped_int i, shaped_int j, ?_⟩
    rw [e]
    exact p
theorem mulOk_small {i j : Int} (h : (-(2 ^ 64) < i ∧ i < 2 ^ 64) ∨ (-(2 ^ 64) < j ∧ j < 2 ^ 64)) : mulOk i j := .inl h
theorem log2_lt {n k : Nat} (h : n < 2 ^ k) (hk : 0 < k) : n.log2 < k := by
  by_cases e : n = 0
  · rw [e, show Nat.log2 0 = 0 by decide]
    exact hk
  · exact (Nat.log2_lt e).mpr h
theorem divOk {i j : Int} (h : 0 < j) (h2 : j < 2 ^ 200) : CDivW i j := ⟨h, Nat.lt_of_lt_of_le (log2_lt (k := 200) (by
  have : (j.natAbs : Int) = j := Int.natAbs_of_nonneg (Int.le_of_lt h)
  have h3 : (j.natAbs : Int) < ((2 ^ 200 : Nat) : Int) := by rw [this]; exact_mod_cast h2
  exact_mod_cast h3) (by decide)) (by decide)⟩
end Pu
namespace Pu
open PySem PySem.Spec PyProof.Rows L2
section
variable {δ : Dl} {P : PEnds} {i : Nat} {a b : PSx} {pe pa pb pc pk : PX} {f f' : POp} {p : PAx} {pt pt' : PTx} {Q : D → Prop} {QL : List D → Prop} {QT : Bool → Prop} {Q2 : Exn → Prop}
theorem w_seq (h : a { P with nx := b P } δ) : pSeq a b P δ := h
theorem w_asg (h : pe δ (fun d => P.nx (δ.set i (some (.d d)))) (P.ex δ)) : pAsg pe i P δ := h
theorem w_asgO (h : pe δ (fun d => match d with | .lst ds => P.nx (δ.set i (some (.own none ds))) | _ => False) (P.ex δ)) : pAsgO pe i P δ := h
theorem w_ret (h : pe δ (P.rt δ) (P.ex δ)) : pRet pe P δ := h
theorem w_if (h : pt δ (fun k => if k = true then a P δ else b P δ) (P.ex δ)) : pIf pt a b P δ := h
theorem w_next (h : P.nx δ) : pNext P δ := h
theorem w_drop (h : pe δ (fun _ => P.nx δ) (P.ex δ)) : pDrop pe P δ := h
theorem w_ite {c : Bool} {A B : Prop} (h1 : c = true → A) (h2 : c = false → B) : if c = true then A else B := by
  cases c
  · rw [if_neg (by decide)]; exact h2 rfl
  · rw [if_pos rfl]; exact h1 rfl
theorem w_dec {p : Prop} [Decidable p] {A B : Prop} (h1 : p → A) (h2 : ¬ p → B) : if decide p = true then A else B := w_ite (fun e => h1 (of_decide_eq_true e)) fun e => h2 (of_decide_eq_false e)
theorem e_var {d : D} (e : δ[i]? = some (some (.d d))) (h : Q d) : pVar i δ Q Q2 := by unfold pVar; rw [e]; exact h
theorem e_varV {d : D} (e : δ[i]? = some (some (.d d))) (h : Q d) : pVarV i δ Q Q2 := by unfold pVarV; rw [e]; exact h
theorem e_varO {oa : Option Addr} {ds : List D} (e : δ[i]? = some (some (.own oa ds))) (h : Q (.lst ds)) : pVarV i δ Q Q2 := by unfold pVarV; rw [e]; exact h
theorem e_c {d : D} (h : Q d) : pC d δ Q Q2 := h
theorem e_op (h : pa δ (fun x => pb δ (fun y => f x y Q) Q2) Q2) : pOp f pa pb δ Q Q2 := h
theorem e_cb {g : PFn} (h : p δ (fun ds => g ds Q) Q2) : pCB g p δ Q Q2 := h
theorem e_call {g : PSp} (h : p δ (fun ds => g ds Q Q2) Q2) : pCall g p δ Q Q2 := h
theorem a_nil (h : QL []) : pNil δ QL Q2 := h
theorem a_cons (h : pe δ (fun x => p δ (fun xs => QL (x :: xs)) Q2) Q2) : pCons pe p δ QL Q2 := h
theorem t_tst (h : pe δ (fun x => match x with | .bl b => QT b | _ => False) Q2) : pTst pe δ QT Q2 := h
theorem t_and (h : pt δ (fun c => if c = true then pt' δ QT Q2 else QT false) Q2) : pAndT pt pt' δ QT Q2 := h
theorem t_or (h : pt δ (fun c => if c = true then QT true else pt' δ QT Q2) Q2) : pOrT pt pt' δ QT Q2 := h
theorem t_not (h : pt δ (fun c => QT (!c)) Q2) : pNotT pt δ QT Q2 := h
theorem e_tup (h : p δ (fun ds => ds.length ≤ szl ∧ Q (.tup ds)) Q2) : pTup p δ Q Q2 := h
theorem e_lst (h : p δ (fun ds => ds.length ≤ szl ∧ Q (.lst ds)) Q2) : pLst p δ Q Q2 := h
theorem e_ifE (h : pt δ (fun c => if c = true then pa δ Q Q2 else pb δ Q Q2) Q2) : pIfE pt pa pb δ Q Q2 := h
theorem e_chain (h : pa δ (fun x => pb δ (fun y => f x y fun z => match z with | .bl k => if k = true then pc δ (fun w => f' y w Q) Q2 else Q (.bl false) | _ => False) Q2) Q2) : pChain f f' pa pb pc δ Q Q2 := h
variable {x y : Int}
theorem o_lt (h : Q (.bl (decide (x < y)))) : fLt (.int x) (.int y) Q := h
theorem o_le (h : Q (.bl (decide (x ≤ y)))) : fLe (.int x) (.int y) Q := h
theorem o_gt (h : Q (.bl (decide (y < x)))) : fGt (.int x) (.int y) Q := h
theorem o_ge (h : Q (.bl (decide (y ≤ x)))) : fGe (.int x) (.int y) Q := h
theorem o_eq (h : Q (.bl (decide (x = y)))) : fEq (.int x) (.int y) Q := fEq_int.mpr h
theorem o_ne (h : Q (.bl (decide (x ≠ y)))) : fNe (.int x) (.int y) Q := fNe_int.mpr h
theorem o_add (h : Q (.int (x + y))) : fAdd (.int x) (.int y) Q := h
theorem o_sub (h : Q (.int (x - y))) : fSub (.int x) (.int y) Q := h
theorem o_mul (c : (-(2 ^ 64) < x ∧ x < 2 ^ 64) ∨ (-(2 ^ 64) < y ∧ y < 2 ^ 64)) (h : Q (.int (x * y))) : fMul (.int x) (.int y) Q := ⟨mulOk_small c, h⟩
theorem o_mod (c : 0 < y) (h : Q (.int (x % y))) : fMod (.int x) (.int y) Q := ⟨c, h⟩
theorem o_div (c : 0 < y) (c2 : y < 2 ^ 200) (h : Q (.int (x / y))) : fDiv (.int x) (.int y) Q := ⟨divOk c c2, h⟩
theorem o_pow (c : 0 ≤ y) (c1 : y ≤ 1000000) (c2 : x.natAbs < 2 ^ 64) (h : Q (.int (x ^ y.toNat))) : fPow (.int x) (.int y) Q := ⟨⟨c, c1, c2⟩, h⟩
theorem o_ixL {ds : List D} {d : D} (e : atI ds x = some d) (h : Q d) : fIx (.lst ds) (.int x) Q := by unfold fIx; simp only [e]; exact h
theorem o_ixT {ds : List D} {d : D} (e : atI ds x = some d) (h : Q d) : fIx (.tup ds) (.int x) Q := by unfold fIx; simp only [e]; exact h
end
end Pu
namespace Pu
open PySem PySem.Spec PyProof.Rows L2
section
variable {δ : Dl} {P : PEnds} {i : Nat} {pe pk : PX} {Q : D → Prop} {x y : Int} {A B : Prop} {ds : List D} {oa : Option Addr}
theorem w_ff (h : B) : if false = true then A else B := by rw [if_neg (by decide)]; exact h
theorem w_tt (h : A) : if true = true then A else B := by rw [if_pos rfl]; exact h
theorem o_lenL (h : Q (.int ds.length)) : fLen [.lst ds] Q := h
theorem o_lenT (h : Q (.int ds.length)) : fLen [.tup ds] Q := h
theorem o_lenP {l : Addr} {ns : List Int} (h : Q (.int ns.length)) : fLen [.pin l ns] Q := h
theorem o_int (h : Q (.int x)) : fInt [.int x] Q := h
theorem o_intB {b : Bool} (h : Q (.int (if b then 1 else 0))) : fInt [.bl b] Q := h
theorem o_abs (h : Q (.int (if x < 0 then -x else x))) : fAbs [.int x] Q := h
theorem o_min (h : Q (.int (if y < x then y else x))) : fMin2 [.int x, .int y] Q := h
theorem o_max (h : Q (.int (if y > x then y else x))) : fMax2 [.int x, .int y] Q := h
theorem o_ixP {l : Addr} {ns : List Int} (c : 0 ≤ x) (c2 : x < ns.length) (h : ∀ z, z ∈ ns → Q (.int z)) : fIx (.pin l ns) (.int x) Q := by
  unfold fIx
  have hl : x.toNat < ns.length := by omega
  have e : atI (ns.map D.int) x = some (D.int (ns[x.toNat]'hl)) := by
    unfold atI ixN
    rw [if_pos c, if_pos (by rw [List.length_map]; exact c2)]
    show (ns.map D.int)[x.toNat]? = _
    rw [List.getElem?_map, List.getElem?_eq_getElem hl]
    try rfl
  simp only [e]
  exact h _ (List.getElem_mem _)
def ixSet (ds : List D) (d : D) (K : List D → Prop) : D → Prop
  | .int j => (match ixN ds.length j with | some n => K (ds.set n d) | none => False)
  | _ => False
theorem w_setO (e : δ[i]? = some (some (.own oa ds))) (h : pe δ (fun d => pk δ (ixSet ds d fun ds' => P.nx (δ.set i (some (.own oa ds')))) (P.ex δ)) (P.ex δ)) : pSetI i pk pe P δ := by
  unfold pSetI
  rw [e]
  have e2 : (fun d => pk δ (ixSet ds d fun ds' => P.nx (δ.set i (some (.own oa ds')))) (P.ex δ)) = fun d => (match (some (some (S.own oa ds)) : Option (Option S)) with
    | some (some (.own oa ds)) => pk δ (fun k => match k with
      | .int j => (match ixN ds.length j with | some n => P.nx (δ.set i (some (.own oa (ds.set n d)))) | none => False)
      | _ => False) (P.ex δ)
    | _ => False) := by
    funext d
    show pk δ _ _ = pk δ _ _
    congr 1
    try (funext k; cases k <;> rfl)
  rw [e2] at h
  exact h
theorem o_set {d : D} {K : List D → Prop} {n : Nat} (e : ixN ds.length x = some n) (h : K (ds.set n d)) : ixSet ds d K (.int x) := by
  unfold ixSet
  simp only [e]
  exact h
end
end Pu
namespace Pu
open PySem PySem.Spec PyProof.Rows L2
theorem o_powL {Q : D → Prop} {x y n : Int} (c : 0 ≤ y) (c1 : y ≤ 1000000) (c2 : x.natAbs < 2 ^ 64) (e : x ^ y.toNat = n) (h : Q (.int n)) : fPow (.int x) (.int y) Q := ⟨⟨c, c1, c2⟩, by
  show Q (.int (x ^ y.toNat))
  rw [e]
  exact h⟩
theorem o_pow8 {Q : D → Prop} (h : Q (.int 100000000)) : fPow (.int 10) (.int 8) Q := o_powL (by decide) (by decide) (by decide) (by decide) h
theorem o_pow12 {Q : D → Prop} (h : Q (.int 1000000000000)) : fPow (.int 10) (.int 12) Q := o_powL (by decide) (by decide) (by decide) (by decide) h
theorem o_pow18 {Q : D → Prop} (h : Q (.int 1000000000000000000)) : fPow (.int 10) (.int 18) Q := o_powL (by decide) (by decide) (by decide) (by decide) h
theorem o_pow25 {Q : D → Prop} (h : Q (.int 10000000000000000000000000)) : fPow (.int 10) (.int 25) Q := o_powL (by decide) (by decide) (by decide) (by decide) h
theorem o_pow30 {Q : D → Prop} (h : Q (.int 1000000000000000000000000000000)) : fPow (.int 10) (.int 30) Q := o_powL (by decide) (by decide) (by decide) (by decide) h
theorem o_pow31 {Q : D → Prop} (h : Q (.int 10000000000000000000000000000000)) : fPow (.int 10) (.int 31) Q := o_powL (by decide) (by decide) (by decide) (by decide) h
end Pu
namespace Pu
open PySem PySem.Spec PyProof.Rows L2
section
variable {δ : Dl} {P : PEnds} {i : Nat} {pi : PLx} {pg : PG'} {pb : PSx} {pe pf : PX} {QL : List D → Prop} {Q2 : Exn → Prop}
theorem w_for (h : pi δ (fun ds => pForL pg pb P ds δ) (P.ex δ)) : pFor pi pg pb P δ := h
theorem w_for0 (h : P.nx δ) : pForL pg pb P [] δ := h
theorem w_for1 {d : D} {ds : List D} (h : pg d δ fun δ' => pb { P with nx := pForL pg pb P ds, ct := pForL pg pb P ds, bk := P.nx } δ') : pForL pg pb P (d :: ds) δ := h
theorem w_forI (I : List D → Dl → Prop) (h0 : ∀ δ, I [] δ → P.nx δ)
    (h1 : ∀ (d : D) (ds : List D) (δ : Dl) (k : Dl → Prop), I (d :: ds) δ → (∀ δ', I ds δ' → k δ') → pg d δ fun δ' => pb { P with nx := k, ct := k, bk := P.nx } δ') : ∀ (ds : List D) (δ : Dl), I ds δ → pForL pg pb P ds δ
  | [], δ, h => h0 δ h
  | d :: ds, δ, h => h1 d ds δ _ h fun δ' h' => w_forI I h0 h1 ds δ' h'
theorem l_range1 (h : pe δ (fun d => match d with | .int j => b62 j ∧ QL (rangeD 0 j.toNat) | _ => False) Q2) : pRange1 pe δ QL Q2 := h
theorem l_range2 (h : pe δ (fun d => pf δ (fun e => match d, e with | .int i, .int j => b62 i ∧ b62 j ∧ QL (rangeD i (j - i).toNat) | _, _ => False) Q2) Q2) : pRange2 pe pf δ QL Q2 := h
theorem l_seq (h : pe δ (fun d => match itemsD d with | some ds => QL ds | none => False) Q2) : pItems pe δ QL Q2 := h
theorem g_name {d : D} {K : Dl → Prop} (h : K (δ.set i (some (.d d)))) : pgName i d δ K := h
end
end Pu
namespace Pu
open PySem PySem.Spec PyProof.Rows L2
theorem o_ixPool {Q : D → Prop} (h : ∀ s : Int, 0 ≤ s → Q (.int s)) : fIx .pool (.int 0) Q := ⟨rfl, h⟩
theorem r_rng4 {pg : PG'} {pb : PSx} {P : PEnds} {δ : Dl} (h : pForL pg pb P [.int 0, .int 1, .int 2, .int 3] δ) : pForL pg pb P (rangeD 0 (Int.toNat 4)) δ := h
end Pu
namespace Pu
open PySem PySem.Spec PyProof.Rows L2
section
variable {δ : Dl} {P : PEnds} {i : Nat} {pe pk : PX} {ps : PSx} {Q : D → Prop} {Q2 : Exn → Prop} {oa : Option Addr} {ds : List D}
theorem w_fzO (e : δ[i]? = some (some (.own oa ds))) (h : ps P (δ.set i (some (.d (.lst ds))))) : pFreeze i ps P δ := by unfold pFreeze; rw [e]; exact h
theorem w_fzD {d : D} (e : δ[i]? = some (some (.d d))) (h : ps P δ) : pFreeze i ps P δ := by unfold pFreeze; rw [e]; exact h
theorem w_ins (e : δ[i]? = some (some (.own oa ds))) (h : pk δ (fun k => pe δ (fun d => match k with
      | .int j => ds.length < szl ∧ 0 ≤ j ∧ j < 2 ^ 63 ∧ P.nx (δ.set i (some (.own oa (ds.take j.toNat ++ [d] ++ ds.drop j.toNat))))
      | _ => False) (P.ex δ)) (P.ex δ)) : pIns i pk pe P δ := by unfold pIns; rw [e]; exact h
theorem w_app (e : δ[i]? = some (some (.own oa ds))) (h : pe δ (fun d => ds.length < szl ∧ P.nx (δ.set i (some (.own oa (ds ++ [d]))))) (P.ex δ)) : pApp i pe P δ := by unfold pApp; rw [e]; exact h
theorem o_rep {x : D} {j : Int} (c : 0 ≤ j) (c2 : j ≤ 1000) (h : Q (.lst (List.replicate j.toNat x))) : fRep (.lst [x]) (.int j) Q := by
  have hz : szl = 16777216 := rfl
  refine ⟨by omega, by omega, by simp only [List.length_cons, List.length_nil]; omega, ?_⟩
  have e : (List.replicate j.toNat [x]).flatten = List.replicate j.toNat x := by
    induction j.toNat with
    | zero => rfl
    | succ n ih => rw [List.replicate_succ, List.flatten_cons, ih]; rfl
  rw [e]
  exact h
end
end Pu
namespace Pu
open PySem PySem.Spec PyProof.Rows L2
section
variable {δ : Dl} {P : PEnds} {i c : Nat} {p : PAx} {pe : PX} {Q : D → Prop} {Q2 : Exn → Prop}
theorem w_raise (h : p δ (fun ds => ds.length = (cfs c).length ∧ ds ≠ [] ∧ P.ex δ ⟨c, ds⟩) (P.ex δ)) : pRaise c p P δ := h
theorem w_retN (h : P.rt δ .non) : pRetN P δ := h
theorem w_brk (h : P.bk δ) : pBreak P δ := h
theorem w_cnt (h : P.ct δ) : pCont P δ := h
end
end Pu
namespace Pu
theorem w_ndec {p : Prop} [Decidable p] {A B : Prop} (h1 : ¬ p → A) (h2 : p → B) : if (!decide p) = true then A else B := by
  by_cases h : p
  · rw [decide_eq_true h]; exact w_ff (h2 h)
  · rw [decide_eq_false h]; exact w_tt (h1 h)
theorem w_nff {A B : Prop} (h : A) : if (!false) = true then A else B := w_tt h
theorem w_ntt {A B : Prop} (h : B) : if (!true) = true then A else B := w_ff h
end Pu
namespace Pu
open PySem PySem.Spec PyProof.Rows L2
section
variable {δ : Dl} {P : PEnds} {i : Nat} {pe pa : PX} {Q : D → Prop} {QL : List D → Prop} {Q2 : Exn → Prop} {d : D} {ds : List D} {K : Dl → Prop} {n : Nat} {u : List D → Dl → (Dl → Prop) → Prop} {t : PG'}
theorem o_lenI (e : itemsD d = some ds) (h : Q (.int ds.length)) : fLen [d] Q := by
  unfold itemsD at e
  split at e
  · cases e; exact h
  · cases e; exact h
  · cases e; exact h
  · cases e
theorem l_enum {k0 : Int} (h : pe δ (fun d => match itemsD d with | some ds => QL (enumD k0 ds) | none => False) Q2) : pEnum k0 pe δ QL Q2 := h
theorem g_seq2 {d1 d2 : D} (h : u [d1, d2] δ K) : pgSeq 2 u (.tup [d1, d2]) δ K := ⟨rfl, h⟩
theorem g_cons {d1 : D} {ds : List D} (h : t d1 δ (fun δ' => u ds δ' K)) : pgCons t u (d1 :: ds) δ K := h
theorem g_nil (h : K δ) : pgNil [] δ K := h
theorem o_count {ns : List Int} (e : itemsD d = some (ns.map .int)) (h : pa δ (fun y => match y with | .int k => Q (.int (ns.count k : Nat)) | _ => False) Q2) (hd : ∀ K : D → Prop, K d → pe δ K Q2) : pCount pe pa δ Q Q2 := by
  unfold pCount
  refine hd _ ?_
  simp only [e, intsD_map]
  exact h
end
end Pu
namespace Pu
open PySem PySem.Spec PyProof.Rows L2
section
variable {δ : Dl} {P : PEnds} {i c j : Nat} {pe : PX} {Q : D → Prop} {Q2 : Exn → Prop} {a : Addr} {d : D} {ds : List D}
theorem w_setF (e : δ[i]? = some (some (.slf a c ds))) (hj : ds.length = j) (h : pe δ (fun d => P.nx (δ.set i (some (.slf a c (ds ++ [d]))))) (P.ex δ)) : pSetF i c j pe P δ := by
  unfold pSetF
  rw [e]
  have e2 : (fun d => P.nx (δ.set i (some (.slf a c (ds ++ [d]))))) = fun d => (match (some (some (S.slf a c ds)) : Option (Option S)) with
    | some (some (.slf a c' ds)) => c' = c ∧ ds.length = j ∧ P.nx (δ.set i (some (.slf a c (ds ++ [d]))))
    | _ => False) := by
    funext d
    show _ = (c = c ∧ ds.length = j ∧ _)
    rw [eq_self, true_and, hj, eq_self, true_and]
  rw [e2] at h
  exact h
theorem o_tupI (e : itemsD d = some ds) (h : Q (.tup ds)) : fTuple [d] Q := by
  unfold fTuple
  simp only [e]
  exact h
end
end Pu
namespace Pu
theorem o_sumI {d : D} {ns : List Int} {Q : D → Prop} (e : itemsD d = some (ns.map .int)) (h : Q (.int (List.sum ns))) : fSumA [d] Q := by
  unfold fSumA
  simp only [e, intsD_map]
  exact h
end Pu
namespace Pu
open PySem PySem.Spec PyProof.Rows L2
section
variable {δ : Dl} {P : PEnds} {i c : Nat} {pe : PX} {pa : PAx} {pi : PSpI} {Q : D → Prop} {Q2 : Exn → Prop} {oa : Option Addr} {d : D} {ds : List D}
theorem w_ext (e : δ[i]? = some (some (.own oa ds))) (h : pe δ (fun d => match d with
      | .lst es => ds.length + es.length ≤ szl ∧ P.nx (δ.set i (some (.own oa (ds ++ es))))
      | _ => False) (P.ex δ)) : pExt i pe P δ := by unfold pExt; rw [e]; exact h
theorem e_makeV (e : δ[i]? = some (some (.d (.cls c)))) (h : pMakeW c pi pa δ Q Q2) : pMakeV i c pi pa δ Q Q2 := by unfold pMakeV; rw [e]; exact ⟨rfl, h⟩
theorem e_makeW (h : pa δ (fun ds => pi ds (fun fs => noLL fs = true ∧ Q (.obj c fs)) (fun e => noLL e.ds = true ∧ Q2 e)) Q2) : pMakeW c pi pa δ Q Q2 := h
theorem e_make (h : pa δ (fun ds => pi ds (fun fs => Q (.obj c fs)) Q2) Q2) : pMake c pi pa δ Q Q2 := h
end
def pls : Int → List Int → List Int
  | _, [] => []
  | k, n :: ns => List.replicate n.toNat k ++ pls (k + 1) ns
end Pu
set_option Elab.async false
set_option linter.all false
set_option maxRecDepth 100000
set_option maxHeartbeats 1000000
set_option autoImplicit false
namespace Pu
open PySem PySem.Spec PyProof.Rows L2
section
variable {δ : Dl} {P : PEnds} {i : Nat} {pe pf pg : PX} {Q : D → Prop} {QL : List D → Prop} {Q2 : Exn → Prop} {vs vs1 : List Nat} {pi pi1 : PLx} {p1 p2 : PG'} {pt pt1 : PTx} {cs : List PCl} {pb : PSx}
theorem l_zip2 (h : pe δ (fun d => pf δ (fun e => match itemsD d, itemsD e with | some ds, some es => QL (zipD ds es) | _, _ => False) Q2) Q2) : pZip2 pe pf δ QL Q2 := h
theorem l_zip3 (h : pe δ (fun d => pf δ (fun e => pg δ (fun f => match itemsD d, itemsD e, itemsD f with | some ds, some es, some fs => QL (zipD3 ds es fs) | _, _, _ => False) Q2) Q2) Q2) : pZip3 pe pf pg δ QL Q2 := h
theorem e_revL (h : pe δ (fun d => match d with | .lst ds => Q (.lst ds.reverse) | _ => False) Q2) : pRevL pe δ Q Q2 := h
theorem e_lRg1 (h : pe δ (fun d => match d with | .int n => RgOk 0 n ∧ Q (.lst (rangeD 0 (n - 0).toNat)) | _ => False) Q2) : pLRg1 pe δ Q Q2 := h
theorem e_lRg2 (h : pe δ (fun d => pf δ (fun e => match d, e with | .int i, .int j => RgOk i j ∧ Q (.lst (rangeD i (j - i).toNat)) | _, _ => False) Q2) Q2) : pLRg2 pe pf δ Q Q2 := h
theorem e_lc2 (h : pi δ (fun ds => pLcOut p1 pt pi1 p2 pt1 pe (wipeD δ vs) vs1 Q ds []) Q2) : pLc2 pi p1 pt pi1 p2 pt1 pe vs vs1 δ Q Q2 := h
theorem w_tryAll (h : pb { P with ex := pCls i P cs } δ) : pTryAll i pb cs P δ := h
end
section
variable {δ : Dl} {P : PEnds} {i : Nat} {q : PCl} {r : List PCl} {ex : Exn}
end
section
variable {δ : Dl} {pg pg1 : PG'} {pt pt1 : PTx} {pi1 : PLx} {pe : PX} {vs1 : List Nat} {P : D → Prop} {K : List D → Prop} {d : D} {ds es : List D}
end
end Pu
set_option Elab.async false
set_option linter.all false
set_option maxRecDepth 100000
set_option maxHeartbeats 2000000
set_option autoImplicit false
namespace Pu
open PySem PySem.Spec PyProof.Rows L2
section
variable {pg : PG'} {pt : PTx} {pe : PX} {pi : PLx} {δ δw : Dl} {Q : D → Prop} {Q2 : Exn → Prop} {P : PEnds} {pb : PSx} {vs : List Nat}
theorem w_lc (h : pi δ (fun ds => pLcL pg pt pe (wipeD δ vs) Q ds []) Q2) : pLc pi pg pt pe vs δ Q Q2 := h
theorem w_lcG {α : Type} (φ : α → D) (g : α → Option D) : ∀ (xs : List α) (es : List D), xs.length + es.length ≤ szl →
    (∀ x ∈ xs, ∀ K : Option D → Prop, K (g x) → pg (φ x) δw fun δ' => pt δ' (fun b => if b = true then pe δ' (fun y => K (some y)) (fun _ => False) else K none) fun _ => False) →
    Q (.lst (es ++ xs.filterMap g)) → pLcL pg pt pe δw Q (xs.map φ) es
  | [], es, _, _, hP => by
    show Q (.lst es)
    rw [List.filterMap_nil, List.append_nil] at hP
    exact hP
  | x :: xs, es, hl, h, hP => by
    rw [List.length_cons] at hl
    have ih := fun es' (hl' : xs.length + es'.length ≤ szl) => w_lcG φ g xs es' hl' fun y hy => h y (List.mem_cons_of_mem _ hy)
    refine h x List.mem_cons_self (fun o => match o with | some y => es.length < szl ∧ pLcL pg pt pe δw Q (xs.map φ) (es ++ [y]) | none => pLcL pg pt pe δw Q (xs.map φ) es) ?_
    cases e : g x with
    | none =>
      rw [List.filterMap_cons_none e] at hP
      exact ih es (by omega) hP
    | some y =>
      rw [List.filterMap_cons_some e] at hP
      refine ⟨by omega, ih _ (by rw [List.length_append, List.length_singleton]; omega) ?_⟩
      rw [List.append_assoc]
      exact hP
theorem w_lcT {α : Type} (φ : α → D) (xs : List α) (g : α → Option D) {ds : List D} (e : ds = xs.map φ) (hl : xs.length ≤ szl)
    (h : ∀ x ∈ xs, ∀ K : Option D → Prop, K (g x) → pg (φ x) δw fun δ' => pt δ' (fun b => if b = true then pe δ' (fun y => K (some y)) (fun _ => False) else K none) fun _ => False)
    (hP : Q (.lst (xs.filterMap g))) : pLcL pg pt pe δw Q ds [] := by
  rw [e]
  exact w_lcG φ g xs [] (by simpa using hl) h (by rw [List.nil_append]; exact hP)
theorem w_lcM {α : Type} (φ : α → D) (xs : List α) (g : α → D) {ds : List D} (e : ds = xs.map φ) (hl : xs.length ≤ szl)
    (h : ∀ x ∈ xs, ∀ K : D → Prop, K (g x) → pg (φ x) δw fun δ' => pe δ' K fun _ => False)
    (hP : Q (.lst (xs.map g))) : pLcL pg pYes pe δw Q ds [] := by
  refine w_lcT φ xs (fun x => some (g x)) e hl (fun x hx K hK => ?_) ?_
  · exact h x hx (fun y => K (some y)) hK
  · rw [List.filterMap_eq_map']
    exact hP
theorem w_forP {α : Type} (φ : α → D) (xs : List α) (I : List α → Dl → Prop) {ds : List D} (e : ds = xs.map φ) (h0 : ∀ δ, I xs δ → P.nx δ)
    (h1 : ∀ (pre : List α) (x : α) (post : List α) (δ : Dl) (k : Dl → Prop), xs = pre ++ x :: post → I pre δ → (∀ δ', I (pre ++ [x]) δ' → k δ') → pg (φ x) δ fun δ' => pb { P with nx := k, ct := k, bk := P.nx } δ')
    {δ : Dl} (h : I [] δ) : pForL pg pb P ds δ := by
  rw [e]
  refine w_forI (fun rest δ => ∃ pre post, xs = pre ++ post ∧ rest = post.map φ ∧ I pre δ) ?_ ?_ _ _ ⟨[], xs, rfl, rfl, h⟩
  · rintro δ ⟨pre, post, e1, e2, hI⟩
    have : post = [] := List.map_eq_nil_iff.mp e2.symm
    subst this
    rw [List.append_nil] at e1
    exact h0 δ (e1 ▸ hI)
  · rintro d ds δ k ⟨pre, post, e1, e2, hI⟩ hk
    cases post with
    | nil => cases e2
    | cons x post =>
      rw [List.map_cons] at e2
      injection e2 with e3 e4
      rw [e3]
      refine h1 pre x post δ k e1 hI fun δ' h' => hk δ' ⟨pre ++ [x], post, ?_, e4, h'⟩
      rw [List.append_assoc]
      exact e1
end
theorem rangeD_map (lo : Int) (n : Nat) : rangeD lo n = (List.range n).map fun (i : Nat) => D.int (lo + i) := rfl
theorem enumD_map {α : Type} (φ : α → D) (k0 : Int) : ∀ (xs : List α), enumD k0 (xs.map φ) = (xs.zipIdx).map fun (p : α × Nat) => D.tup [.int (k0 + p.2), φ p.1] := by
  intro xs
  have key : ∀ (xs : List α) (k : Nat), enumD (k0 + k) (xs.map φ) = (xs.zipIdx k).map fun (p : α × Nat) => D.tup [.int (k0 + p.2), φ p.1] := by
    intro xs
    induction xs with
    | nil => intro k; rfl
    | cons x xs ih =>
      intro k
      rw [List.map_cons, List.zipIdx_cons, List.map_cons]
      unfold enumD
      congr 1
      rw [← ih (k + 1)]
      congr 1
      omega
  have := key xs 0
  simpa using this
def okS : Nat → D → Prop
  | 0, _ => False
  | _ + 1, .non => True
  | _ + 1, .bl _ => True
  | _ + 1, .int _ => True
  | _ + 1, .str s => PyData.strOk s = true
  | n + 1, .lst ds => ds.length ≤ szl ∧ ∀ d ∈ ds, okS n d
  | n + 1, .vw ds => ds.length ≤ szl ∧ ∀ d ∈ ds, okS n d
  | n + 1, .tup ds => ds.length ≤ szl ∧ ∀ d ∈ ds, okS n d
  | _ + 1, _ => False
theorem okS_ints {n : Nat} (ns : List Int) : ∀ d ∈ ns.map D.int, okS (n + 1) d := by
  intro d hd
  obtain ⟨i, _, rfl⟩ := List.mem_map.mp hd
  trivial
def truK (F : Bool → D → Prop) (x : D) : Prop := match truD x with | some k => F k x | none => False
def tyK (T : String) (F : Bool → Prop) (x : D) : Prop := match isTy T x with | some b => F b | none => False
def clK (c : Nat) (cs : List Nat) (F : Bool → Prop) (x : D) : Prop := match isCl c cs x with | some b => F b | none => False
def fldK (tbl : List (Nat × Nat)) (Q : D → Prop) (x : D) : Prop := match x with
  | .obj c ds => (match tbl.lookup c with | some j => (match ds[j]? with | some d => Q d | none => False) | none => False)
  | _ => False
def objK (c : Nat) (F : Nat → List D → Prop) (x : D) : Prop := match x with | .obj c' ds => c' = c ∧ F c' ds | _ => False
section
variable {F : Bool → D → Prop} {F1 : Bool → Prop} {Q : D → Prop} {c : Nat} {cs : List Nat} {ds : List D} {x : D} {b : Bool}
theorem k_truB (h : F b (.bl b)) : truK F (.bl b) := h
theorem k_truN (h : F false .non) : truK F .non := h
theorem k_tyt {T : String} (e : isTy T x = some true) (h : F1 true) : tyK T F1 x := by
  unfold tyK
  simp only [e]
  exact h
theorem k_tyf {T : String} (e : isTy T x = some false) (h : F1 false) : tyK T F1 x := by
  unfold tyK
  simp only [e]
  exact h
theorem k_clOt {c' : Nat} (e1 : cs.contains c' = true) (e2 : (c' == c) = true) (h : F1 true) : clK c cs F1 (.obj c' ds) := by
  unfold clK isCl
  simp only [e1, if_true, e2]
  exact h
theorem k_clOf {c' : Nat} (e1 : cs.contains c' = true) (e2 : (c' == c) = false) (h : F1 false) : clK c cs F1 (.obj c' ds) := by
  unfold clK isCl
  simp only [e1, if_true, e2]
  exact h
theorem k_clN {t : String} (e : tyD x = some t) (h : F1 false) : clK c cs F1 x := by
  unfold clK isCl
  cases x <;> first | (simp only [e]; exact h) | cases e
theorem k_fld {tbl : List (Nat × Nat)} {j : Nat} (h1 : tbl.lookup c = some j) (h2 : ds[j]? = some x) (q : Q x) : fldK tbl Q (.obj c ds) := by
  unfold fldK
  simp only [h1, h2]
  exact q
theorem k_obj {F : Nat → List D → Prop} (h : F c ds) : objK c F (.obj c ds) := ⟨rfl, h⟩
end
section
variable {δ : Dl} {P : PEnds} {i : Nat} {pe pa pb : PX} {p : PAx} {Q : D → Prop} {QT : Bool → Prop} {Q2 : Exn → Prop} {pt : PTx}
theorem t_truK (h : pe δ (truK fun k _ => QT k) Q2) : pTru pe δ QT Q2 := h
theorem e_and (h : pa δ (truK fun k x => if k = true then pb δ Q Q2 else Q x) Q2) : pAndV pa pb δ Q Q2 := h
theorem e_or (h : pa δ (truK fun k x => if k = true then Q x else pb δ Q Q2) Q2) : pOrV pa pb δ Q Q2 := h
theorem e_not (h : pa δ (truK fun k _ => Q (.bl (!k))) Q2) : pNotV pa δ Q Q2 := h
theorem e_isT {T : String} (h : pe δ (tyK T fun b => Q (.bl b)) Q2) : pIsT T pe δ Q Q2 := h
theorem e_isC {c : Nat} {cs : List Nat} (h : pe δ (clK c cs fun b => Q (.bl b)) Q2) : pIsC c cs pe δ Q Q2 := h
theorem e_callW {g : PSp} (h : p δ (fun ds => g ds (fun d => noL d = true ∧ Q d) (fun e => noLL e.ds = true ∧ Q2 e)) Q2) : pCallW g p δ Q Q2 := h
theorem e_cm {g : PSp} {c : Nat} (h : p δ (fun ds => g (.cls c :: ds) (fun d => noL d = true ∧ Q d) (fun e => noLL e.ds = true ∧ Q2 e)) Q2) : pCm c g p δ Q Q2 := h
theorem e_fld {tbl : List (Nat × Nat)} (h : pe δ (fldK tbl Q) Q2) : pFld tbl pe δ Q Q2 := h
theorem e_prop {c : Nat} {g : PSp} (h : pe δ (objK c fun c' ds => g [.obj c' ds] Q (fun _ => False)) Q2) : pProp c g pe δ Q Q2 := h
theorem e_meth {c : Nat} {g : PSp} (h : pe δ (objK c fun c' ds0 => p δ (fun ds => g (.obj c' ds0 :: ds) Q Q2) Q2) Q2) : pMeth c g pe p δ Q Q2 := h
theorem w_try {f : Nat → Option Bool} {ps : Addr → Value → Option Addr → PSx} {pb : PSx} (h : pb { P with ex := pTryEx i f ps P } δ) : pTryAs i f pb ps P δ := h
theorem w_tryEx {f : Nat → Option Bool} {ps : Addr → Value → Option Addr → PSx} {e : Exn} (c : f e.c = some true)
    (h : ∀ a cls d, ps a cls d { nx := fun δ2 => P.nx (δ2.set i none), rt := P.rt, bk := fun δ2 => P.bk (δ2.set i none), ct := fun δ2 => P.ct (δ2.set i none), ex := fun _ _ => False } (δ.set i (some (.exc a cls d e)))) : pTryEx i f ps P δ e := by
  unfold pTryEx
  simp only [c]
  exact h
theorem e_xm {a : Addr} {cls : Value} {d : Option Addr} {tbl : List (Nat × Nat)} {e : Exn} {j : Nat} {x : D} (h : δ[i]? = some (some (.exc a cls d e))) (h1 : tbl.lookup e.c = some j) (h2 : e.ds[j]? = some x) (q : Q x) : pXm a cls d i tbl δ Q Q2 := by
  unfold pXm
  rw [h]
  refine ⟨rfl, rfl, rfl, ?_⟩
  simp only [h1, h2]
  exact q
theorem e_isX {a : Addr} {cls : Value} {d : Option Addr} {f : Nat → Option Bool} {e : Exn} {b : Bool} (h : δ[i]? = some (some (.exc a cls d e))) (h1 : f e.c = some b) (q : Q (.bl b)) : pIsX a cls d i f δ Q Q2 := by
  unfold pIsX
  rw [h]
  refine ⟨rfl, rfl, rfl, ?_⟩
  simp only [h1]
  exact q
theorem o_isNf {x : D} (e : isNon x = false) (q : Q (.bl false)) : fIsN x .non Q := by
  show Q (.bl (isNon x))
  rw [e]; exact q
theorem o_isNt {x : D} (e : isNon x = true) (q : Q (.bl true)) : fIsN x .non Q := by
  show Q (.bl (isNon x))
  rw [e]; exact q
theorem o_notNf {x : D} (e : isNon x = false) (q : Q (.bl true)) : fNotN x .non Q := by
  show Q (.bl (!isNon x))
  rw [e]; exact q
theorem o_notNt {x : D} (e : isNon x = true) (q : Q (.bl false)) : fNotN x .non Q := by
  show Q (.bl (!isNon x))
  rw [e]; exact q
theorem o_listI {d : D} {ds : List D} (e : itemsD d = some ds) (q : Q (.lst ds)) : fList [d] Q := by
  unfold itemsD at e
  split at e <;> first | (cases e; exact q) | cases e
end
end Pu

namespace Pu
open PySem PySem.Spec PyProof.Rows L2
class DTy (α : Type) [DecidableEq α] where
  d : α → D
  py : α → PyData
  h1 : ∀ a, toPy (d a) = some (py a)
  h2 : ∀ a b, PyData.eqv (py a) (py b) = decide (a = b)
  k : Nat
  h3 : ∀ a, (py a).canLay0 = true
  h4 : ∀ a, (py a).depth ≤ k
theorem beq_dec {α : Type} [BEq α] [LawfulBEq α] [DecidableEq α] (a b : α) : (a == b) = decide (a = b) := by
  rw [Bool.eq_iff_iff, beq_iff_eq, decide_eq_true_eq]
instance : DTy Int where
  d := .int
  py := .int
  h1 _ := rfl
  h2 a b := by simp only [PyData.eqv]; exact beq_dec a b
  k := 0
  h3 _ := rfl
  h4 _ := Nat.le_refl _
instance : DTy Bool where
  d := .bl
  py := .bool
  h1 _ := rfl
  h2 a b := by simp only [PyData.eqv]; exact beq_dec a b
  k := 0
  h3 _ := rfl
  h4 _ := Nat.le_refl _
section
variable {α β : Type} [DecidableEq α] [DTy α] [DecidableEq β] [DTy β]
theorem dty_all : ∀ xs : List α, toPyAll (xs.map DTy.d) = some (xs.map DTy.py)
  | [] => by unfold toPyAll; rfl
  | x :: xs => by
    rw [List.map_cons, List.map_cons]
    unfold toPyAll
    rw [DTy.h1 x, dty_all xs]
theorem dty_can : ∀ xs : List α, PyData.canLayAll0 (xs.map DTy.py) = true
  | [] => by rw [List.map_nil, PyData.canLayAll0]
  | x :: xs => by
    rw [List.map_cons, PyData.canLayAll0, DTy.h3 x, dty_can xs]
    rfl
theorem dty_dep : ∀ xs : List α, PyData.depthAll (xs.map DTy.py) ≤ DTy.k α
  | [] => Nat.zero_le _
  | x :: xs => by
    rw [List.map_cons, PyData.depthAll]
    exact Nat.max_le.mpr ⟨DTy.h4 x, dty_dep xs⟩
theorem dty_eqv : ∀ xs ys : List α, PyData.eqvAll (xs.map DTy.py) (ys.map DTy.py) = decide (xs = ys)
  | [], [] => by simp only [List.map_nil, PyData.eqvAll, decide_true]
  | [], _ :: _ => by simp [PyData.eqvAll]
  | _ :: _, [] => by simp [PyData.eqvAll]
  | x :: xs, y :: ys => by
    rw [List.map_cons, List.map_cons, PyData.eqvAll, DTy.h2 x y, dty_eqv xs ys, ← Bool.decide_and]
    exact decide_eq_decide.mpr (by rw [List.cons.injEq])
instance : DTy (List α) where
  d xs := .lst (xs.map DTy.d)
  py xs := .list (xs.map DTy.py)
  h1 xs := by unfold toPy; rw [dty_all]; rfl
  h2 xs ys := by simp only [PyData.eqv]; exact dty_eqv xs ys
  k := DTy.k α + 1
  h3 xs := by simp only [PyData.canLay0]; exact dty_can xs
  h4 xs := by simp only [PyData.depth]; exact Nat.succ_le_succ (dty_dep xs)
structure Tp (α : Type) where
  its : List α
deriving DecidableEq
instance : DTy (Tp α) where
  d t := .tup (t.its.map DTy.d)
  py t := .tuple (t.its.map DTy.py)
  h1 t := by unfold toPy; rw [dty_all]; rfl
  h2 t u := by
    simp only [PyData.eqv]
    rw [dty_eqv]
    exact decide_eq_decide.mpr ⟨fun e => by cases t; cases u; exact congrArg Tp.mk e, fun e => by rw [e]⟩
  k := DTy.k α + 1
  h3 t := by simp only [PyData.canLay0]; exact dty_can t.its
  h4 t := by simp only [PyData.depth]; exact Nat.succ_le_succ (dty_dep t.its)
instance : DTy (α × β) where
  d p := .tup [DTy.d p.1, DTy.d p.2]
  py p := .tuple [DTy.py p.1, DTy.py p.2]
  h1 p := by unfold toPy toPyAll toPyAll toPyAll; simp only [DTy.h1]; rfl
  h2 p q := by
    simp only [PyData.eqv, PyData.eqvAll]
    rw [DTy.h2, DTy.h2, Bool.and_true, ← Bool.decide_and]
    exact decide_eq_decide.mpr ⟨fun e => Prod.ext e.1 e.2, fun e => by rw [e]; exact ⟨rfl, rfl⟩⟩
  k := max (DTy.k α) (DTy.k β) + 1
  h3 p := by simp only [PyData.canLay0, PyData.canLayAll0, DTy.h3, Bool.and_self]
  h4 p := by
    simp only [PyData.depth, PyData.depthAll]
    exact Nat.succ_le_succ (Nat.max_le.mpr ⟨Nat.le_trans (DTy.h4 p.1) (Nat.le_max_left _ _), Nat.max_le.mpr ⟨Nat.le_trans (DTy.h4 p.2) (Nat.le_max_right _ _), Nat.zero_le _⟩⟩)
theorem dty_shaped (a : α) (hk : DTy.k α ≤ 64) : SeqAt.shaped (DTy.py a) = true := by
  unfold SeqAt.shaped
  rw [DTy.h3 a, decide_eq_true (Nat.le_trans (DTy.h4 a) hk)]
  rfl
theorem o_eqT {Q : D → Prop} {a b : α} (hk : DTy.k α ≤ 64) (q : Q (.bl (decide (a = b)))) : fEq (DTy.d a) (DTy.d b) Q :=
  ⟨_, _, DTy.h1 a, DTy.h1 b, dty_shaped a hk, dty_shaped b hk, by rw [DTy.h2]; exact q⟩
end
theorem o_eqB {Q : D → Prop} {a b : Bool} (q : Q (.bl (decide (a = b)))) : fEq (.bl a) (.bl b) Q := o_eqT (α := Bool) (by decide) q
theorem o_eqS {Q : D → Prop} {a b : Str} (ha : PyData.strOk a = true) (hb : PyData.strOk b = true) (q : Q (.bl (decide (a = b)))) : fEq (.str a) (.str b) Q := by
  refine ⟨.str a, .str b, rfl, rfl, ?_, ?_, ?_⟩
  · unfold SeqAt.shaped; rw [PyData.canLay0, ha]; rfl
  · unfold SeqAt.shaped; rw [PyData.canLay0, hb]; rfl
  · have e : PyData.eqv (.str a) (.str b) = decide (a = b) := by simp only [PyData.eqv]; exact beq_dec a b
    rw [e]; exact q
end Pu
set_option Elab.async false
set_option linter.all false
set_option maxRecDepth 100000
set_option maxHeartbeats 2000000
set_option autoImplicit false
namespace Pu
open PySem PySem.Spec PyProof.Rows L2
theorem atI_zero {d : D} {ds : List D} : atI (d :: ds) 0 = some d := by
  unfold atI ixN
  rw [if_pos (by omega), if_pos (by simp only [List.length_cons]; omega)]
  rfl
theorem o_ixL0 {Q : D → Prop} {d : D} {ds : List D} (q : Q d) : fIx (.lst (d :: ds)) (.int 0) Q := o_ixL atI_zero q
end Pu
namespace Pu
theorem e_un {δ : Dl} {f : PUn} {pa : PX} {Q : D → Prop} {Q2 : Exn → Prop} (h : pa δ (fun x => f x Q) Q2) : pUn f pa δ Q Q2 := h
theorem o_neg {Q : D → Prop} {i : Int} (q : Q (.int (-i))) : fNeg (.int i) Q := q
theorem l_itR {QL : List D → Prop} {d : D} {ds : List D} (e : itemsD d = some ds) (h : QL ds) : (match itemsD d with | some ds => QL ds | none => False) := by rw [e]; exact h
end Pu
namespace Pu
open PySem PySem.Spec PyProof.Rows L2
def intK (F : Int → Prop) : D → Prop
  | .int j => F j
  | _ => False
theorem k_int {F : Int → Prop} {j : Int} (h : F j) : intK F (.int j) := h
def exK {α : Type} (φ : α → D) (d : D) (F : α → Prop) : Prop := ∃ x, d = φ x ∧ F x
theorem k_exI {F : Int → Prop} {j : Int} (h : F j) : exK D.int (.int j) F := ⟨j, rfl, h⟩
section
variable {α : Type} {φ : α → D} {xs : List α} {δ : Dl} {P : PEnds} {i : Nat} {pe pk : PX} {Q : D → Prop} {Q2 : Exn → Prop} {oa : Option Addr}
theorem ixN_nat {n : Nat} {j : Int} (h1 : 0 ≤ j) (h2 : j < n) : ixN n j = some j.toNat := by
  unfold ixN
  rw [if_pos h1, if_pos h2]
theorem atI_map {j : Int} (h1 : 0 ≤ j) (h2 : j < xs.length) : ∃ x, xs[j.toNat]? = some x ∧ atI (xs.map φ) j = some (φ x) := by
  have hl : j.toNat < xs.length := by omega
  refine ⟨xs[j.toNat], List.getElem?_eq_getElem hl, ?_⟩
  unfold atI
  rw [ixN_nat h1 (by rw [List.length_map]; exact h2)]
  show (xs.map φ)[j.toNat]? = _
  rw [List.getElem?_map, List.getElem?_eq_getElem hl]
  rfl
theorem o_ixM {j : Int} (h1 : 0 ≤ j) (h2 : j < xs.length) (h : ∀ x, xs[j.toNat]? = some x → Q (φ x)) : fIx (.lst (xs.map φ)) (.int j) Q := by
  obtain ⟨x, e1, e2⟩ := atI_map (φ := φ) h1 h2
  exact o_ixL e2 (h x e1)
theorem o_ixMT {j : Int} (h1 : 0 ≤ j) (h2 : j < xs.length) (h : ∀ x, xs[j.toNat]? = some x → Q (φ x)) : fIx (.tup (xs.map φ)) (.int j) Q := by
  obtain ⟨x, e1, e2⟩ := atI_map (φ := φ) h1 h2
  exact o_ixT e2 (h x e1)
end
theorem map_erase {α β : Type} {f : α → β} : ∀ (xs : List α) (j : Nat), (xs.eraseIdx j).map f = (xs.map f).eraseIdx j
  | [], _ => rfl
  | _ :: _, 0 => rfl
  | x :: xs, j + 1 => by
    show f x :: (xs.eraseIdx j).map f = f x :: (xs.map f).eraseIdx j
    rw [map_erase xs j]
def appK (ds : List D) (F : List D → Prop) : D → Prop := fun d => ds.length < szl ∧ F (ds ++ [d])
def insK (ds : List D) (F : List D → Prop) : D → D → Prop := fun k d => match k with
  | .int j => ds.length < szl ∧ 0 ≤ j ∧ j < 2 ^ 63 ∧ F (ds.take j.toNat ++ [d] ++ ds.drop j.toNat)
  | _ => False
def popK (ds : List D) (F : List D → Prop) : D → Prop := fun d => match d with
  | .int k => -(2 ^ 63) ≤ k ∧ k < 2 ^ 63 ∧ (match ixN ds.length k with | some j => F (ds.eraseIdx j) | none => False)
  | _ => False
section
variable {α : Type} {φ : α → D} {xs : List α} {ds : List D} {d : D} {F : List D → Prop} {j : Int} {ns : List Int} {x : Int} {y : α}
theorem k_appI (h1 : ns.length < szl) (h : F ((ns ++ [x]).map .int)) : appK (ns.map .int) F (.int x) := ⟨by rw [List.length_map]; exact h1, by rw [List.map_append] at h; exact h⟩
theorem k_app (h1 : ds.length < szl) (h : F (ds ++ [d])) : appK ds F d := ⟨h1, h⟩
theorem k_appM (h1 : xs.length < szl) (h : F ((xs ++ [y]).map φ)) : appK (xs.map φ) F (φ y) := ⟨by rw [List.length_map]; exact h1, by rw [List.map_append] at h; exact h⟩
theorem k_insM (h1 : xs.length < szl) (h2 : 0 ≤ j) (h3 : j < 2 ^ 63) (h : F ((xs.take j.toNat ++ [y] ++ xs.drop j.toNat).map φ)) : insK (xs.map φ) F (.int j) (φ y) := by
  refine ⟨by rw [List.length_map]; exact h1, h2, h3, ?_⟩
  rw [List.map_append, List.map_append, List.map_take, List.map_drop] at h
  exact h
theorem k_insI (h1 : ns.length < szl) (h2 : 0 ≤ j) (h3 : j < 2 ^ 63) (h : F ((ns.take j.toNat ++ [x] ++ ns.drop j.toNat).map .int)) : insK (ns.map .int) F (.int j) (.int x) := k_insM h1 h2 h3 h
theorem k_setM {K : List D → Prop} (h1 : 0 ≤ j) (h2 : j < xs.length) (h : K ((xs.set j.toNat y).map φ)) : ixSet (xs.map φ) (φ y) K (.int j) := by
  refine o_set (n := j.toNat) (ixN_nat h1 (by rw [List.length_map]; exact h2)) ?_
  rw [List.map_set] at h
  exact h
theorem k_setI {K : List D → Prop} (h1 : 0 ≤ j) (h2 : j < ns.length) (h : K ((ns.set j.toNat x).map .int)) : ixSet (ns.map .int) (.int x) K (.int j) := k_setM h1 h2 h
theorem k_popM (h1 : 0 ≤ j) (h2 : j < xs.length) (h3 : xs.length < 2 ^ 62) (h : F ((xs.eraseIdx j.toNat).map φ)) : popK (xs.map φ) F (.int j) := by
  refine ⟨by omega, by omega, ?_⟩
  rw [ixN_nat h1 (by rw [List.length_map]; exact h2)]
  rw [map_erase] at h
  exact h
end
section
variable {δ : Dl} {P : PEnds} {i : Nat} {pe pk : PX} {oa : Option Addr} {ds : List D}
theorem w_appK (e : δ[i]? = some (some (.own oa ds))) (h : pe δ (appK ds fun es => P.nx (δ.set i (some (.own oa es)))) (P.ex δ)) : pApp i pe P δ := w_app e h
theorem w_insK (e : δ[i]? = some (some (.own oa ds))) (h : pk δ (fun k => pe δ (insK ds (fun es => P.nx (δ.set i (some (.own oa es)))) k) (P.ex δ)) (P.ex δ)) : pIns i pk pe P δ := w_ins e h
theorem w_popK (e : δ[i]? = some (some (.own oa ds))) (h : pe δ (popK ds fun es => P.nx (δ.set i (some (.own oa es)))) (P.ex δ)) : pPopAt i pe P δ := by
  unfold pPopAt
  rw [e]
  exact h
end
end Pu
namespace Pu
end Pu
namespace Pu
theorem t_yes {δ : Dl} {QT : Bool → Prop} {Q2 : Exn → Prop} (h : QT true) : pYes δ QT Q2 := h
end Pu
namespace Pu
theorem fnew {ns : List Int} {P : D → Prop} {P2 : Exn → Prop} (h : ns.length ≤ 63) (q : P .pool) : wpNewPool [.script ns] P P2 := ⟨ns, rfl, h, q⟩
end Pu
namespace Pu
theorem o_sortI {ns : List Int} {Q : D → Prop} (h : ∀ ns' : List Int, ns'.Perm ns → ns'.Pairwise (· ≤ ·) → Q (.lst (ns'.map .int))) : fSortI [.lst (ns.map .int)] Q := by
  unfold fSortI
  simp only [intsD_map]
  exact h
theorem sorted_eq {a b : List Int} (p : a.Perm b) (h1 : a.Pairwise (· ≤ ·)) (h2 : b.Pairwise (· ≤ ·)) : a = b := p.eq_of_pairwise (fun _ _ _ _ x y => Int.le_antisymm x y) h1 h2
end Pu
namespace Pu
open PySem PySem.Spec PyProof.Rows L2
theorem e_fldS {i c j : Nat} {δ : Dl} {Q : D → Prop} {Q2 : Exn → Prop} {a : Addr} {ds : List D} {x : D} (e : δ[i]? = some (some (.slf a c ds))) (h2 : ds[j]? = some x) (q : Q x) : pFldS i c j δ Q Q2 := by
  unfold pFldS
  rw [e]
  refine ⟨rfl, ?_⟩
  simp only [h2]
  exact q
theorem snoc_ind {α : Type} {p : List α → Prop} (h0 : p []) (h1 : ∀ xs x, p xs → p (xs ++ [x])) (xs : List α) : p xs := by
  have key : ∀ (n : Nat) (xs : List α), xs.length = n → p xs := by
    intro n
    induction n with
    | zero => intro xs hl; rw [List.eq_nil_of_length_eq_zero hl]; exact h0
    | succ n ih =>
      intro xs hl
      have hne : xs ≠ [] := fun e => by rw [e] at hl; cases hl
      have e := List.dropLast_concat_getLast hne
      rw [← e]
      exact h1 _ _ (ih _ (by rw [List.length_dropLast]; omega))
  exact key _ xs rfl
end Pu
set_option Elab.async false
set_option linter.all false
set_option maxRecDepth 100000
set_option maxHeartbeats 2000000
set_option autoImplicit false
namespace Pu
open PySem PySem.Spec PyProof.Rows L2
def intO (F : Option Int → Prop) : D → Prop
  | .int i => F (some i)
  | _ => False
section
variable {α : Type} {φ : α → D} {xs ys : List α} {δ : Dl} {pe : PX} {pl ph : POx} {Q : D → Prop} {QO : Option Int → Prop} {Q2 : Exn → Prop} {a b : Int}
theorem e_sl (h : pe δ (fun x => pl δ (fun lo => ph δ (fun hi => fSl x lo hi Q) Q2) Q2) Q2) : pSl pe pl ph δ Q Q2 := h
theorem e_part (h : pe δ (intO QO) Q2) : pPart pe δ QO Q2 := h
theorem e_no (h : QO none) : pNo δ QO Q2 := h
theorem k_intO (h : QO (some a)) : intO QO (.int a) := h
theorem sIxS (n d : Nat) {a : Int} (h1 : 0 ≤ a) : HT.sIx n d (some a) = min a.toNat n := by
  show (if a < 0 then _ else _) = _
  rw [if_neg (by omega)]
theorem cut_from {ds : List D} (h1 : 0 ≤ a) : cutD ds (some a) none = ds.drop a.toNat := by
  unfold cutD
  rw [show HT.sIx ds.length ds.length none = ds.length from rfl]
  rw [sIxS _ _ h1]
  by_cases c : a.toNat ≤ ds.length
  · rw [Nat.min_eq_left c, List.take_of_length_le (by rw [List.length_drop]; omega)]
  · rw [Nat.min_eq_right (by omega), List.drop_eq_nil_of_le (Nat.le_refl _), List.drop_eq_nil_of_le (by omega), List.take_nil]
theorem o_slF (h1 : 0 ≤ a) (q : Q (.lst ((xs.drop a.toNat).map φ))) : fSl (.lst (xs.map φ)) (some a) none Q := by
  show Q (.lst (cutD _ _ _))
  rw [cut_from h1, ← List.map_drop]
  exact q
end
end Pu
namespace Pu
open PySem PySem.Spec PyProof.Rows L2
structure OkStr where
  s : Str
  ok : PyData.strOk s = true
instance : DecidableEq OkStr := fun a b => decidable_of_iff (a.s = b.s) ⟨fun h => by cases a; cases b; cases h; rfl, fun h => by rw [h]⟩
instance : DTy OkStr where
  d x := .str x.s
  py x := .str x.s
  h1 _ := rfl
  h2 a b := by
    simp only [PyData.eqv]
    rw [beq_dec]
    exact decide_eq_decide.mpr ⟨fun h => by cases a; cases b; cases h; rfl, fun h => by rw [h]⟩
  k := 0
  h3 a := by simp only [PyData.canLay0]; exact a.ok
  h4 _ := Nat.le_refl _
end Pu
namespace Pu
open PySem PySem.Spec PyProof.Rows L2
def addK (c : Nat) (psp : PSp) (Q : D → Prop) (Q2 : Exn → Prop) (x y : D) : Prop := match x, y with
  | .obj c1 d1, .obj c2 d2 => c1 = c ∧ c2 = c ∧ psp [.obj c1 d1, .obj c2 d2] Q Q2
  | _, _ => False
end Pu
namespace Pu
open PySem PySem.Spec PyProof.Rows L2
theorem insCount {ns : List Int} {x : Int} (j : Nat) : ns.count 1 ≤ (ns.take j ++ [x] ++ ns.drop j).count 1 := by
  rw [List.count_append, List.count_append]
  have e : ns.count 1 = (ns.take j).count 1 + (ns.drop j).count 1 := by rw [← List.count_append, List.take_append_drop]
  omega
end Pu
namespace Pu
open PySem PySem.Spec PyProof.Rows L2
theorem k_popMK {α : Type} {φ : α → D} {xs : List α} {F : D → List D → Prop} {j : Int} (h1 : 0 ≤ j) (h2 : j < xs.length) (h3 : xs.length < 2 ^ 62) (h : ∀ y, xs[j.toNat]? = some y → F (φ y) ((xs.eraseIdx j.toNat).map φ)) : popMK (xs.map φ) F (.int j) := by
  have hj : j.toNat < xs.length := by omega
  refine ⟨by omega, by omega, ?_⟩
  rw [ixN_nat h1 (by rw [List.length_map]; exact h2)]
  simp only
  rw [List.getElem?_map, List.getElem?_eq_getElem hj]
  have := h _ (List.getElem?_eq_getElem hj)
  rw [map_erase] at this
  exact this
end Pu
namespace Pu
end Pu
set_option Elab.async false
set_option linter.all false
set_option maxRecDepth 100000
set_option maxHeartbeats 1000000
set_option autoImplicit false
namespace Pu
open PySem PySem.Spec PyProof.Rows L2
section
variable {C : Ctx} {G : Gp} {H H0 : Hp} {σ : L2.St} {δ : Dl}
end
def pFzX (i : Nat) (pe : PX) : PX := fun δ P P2 => match δ[i]? with
  | some (some (.own _ ds)) => pe (δ.set i (some (.d (.lst ds)))) (fun d => noL d = true ∧ P d) (fun e => noLL e.ds = true ∧ P2 e)
  | some (some (.d _)) => pe δ P P2
  | _ => False
def pFzT (i : Nat) (pt : PTx) : PTx := fun δ P P2 => match δ[i]? with
  | some (some (.own _ ds)) => pt (δ.set i (some (.d (.lst ds)))) P (fun e => noLL e.ds = true ∧ P2 e)
  | some (some (.d _)) => pt δ P P2
  | _ => False
def pFzO (i : Nat) (pe : PX) : PX := fun δ P P2 => match δ[i]? with
  | some (some (.own _ ds)) => pe (δ.set i (some (.d (.lst ds)))) (fun d => (match d with | .lst es => noLL es = true | _ => False) ∧ P d) (fun e => noLL e.ds = true ∧ P2 e)
  | some (some (.d _)) => pe δ P P2
  | _ => False
section
variable {X : Cx} {E : L2.St → XK} {e : Expr} {te : TE} {pe : PX}
end
end Pu
set_option Elab.async false
set_option linter.all false
set_option maxRecDepth 100000
set_option maxHeartbeats 2000000
set_option autoImplicit false
namespace Pu
open PySem PySem.Spec PyProof.Rows L2
section
variable {α β γ ε ζ η : Type}
abbrev eD (d : D) : D := d
abbrev eN (_ : Unit) : D := .non
abbrev eL (f : α → D) (xs : List α) : D := .lst (List.map f xs)
abbrev eT (f : α → D) (xs : List α) : D := .tup (List.map f xs)
abbrev eP0 (_ : Unit) : D := .tup []
abbrev eR0 (_ : Unit) : D := .lst []
abbrev eP1 (f : α → D) (p : α) : D := .tup [f p]
abbrev eP2 (f : α → D) (g : β → D) (p : α × β) : D := .tup [f p.1, g p.2]
abbrev eP3 (f : α → D) (g : β → D) (h : γ → D) (p : α × β × γ) : D := .tup [f p.1, g p.2.1, h p.2.2]
abbrev eP4 (f : α → D) (g : β → D) (h : γ → D) (i : ε → D) (p : α × β × γ × ε) : D := .tup [f p.1, g p.2.1, h p.2.2.1, i p.2.2.2]
abbrev eP5 (f : α → D) (g : β → D) (h : γ → D) (i : ε → D) (j : ζ → D) (p : α × β × γ × ε × ζ) : D := .tup [f p.1, g p.2.1, h p.2.2.1, i p.2.2.2.1, j p.2.2.2.2]
abbrev eR1 (f : α → D) (p : α) : D := .lst [f p]
abbrev eR2 (f : α → D) (g : β → D) (p : α × β) : D := .lst [f p.1, g p.2]
abbrev eR3 (f : α → D) (g : β → D) (h : γ → D) (p : α × β × γ) : D := .lst [f p.1, g p.2.1, h p.2.2]
abbrev eR4 (f : α → D) (g : β → D) (h : γ → D) (i : ε → D) (p : α × β × γ × ε) : D := .lst [f p.1, g p.2.1, h p.2.2.1, i p.2.2.2]
abbrev eR5 (f : α → D) (g : β → D) (h : γ → D) (i : ε → D) (j : ζ → D) (p : α × β × γ × ε × ζ) : D := .lst [f p.1, g p.2.1, h p.2.2.1, i p.2.2.2.1, j p.2.2.2.2]
section
variable {θ ι κ μ : Type}
abbrev eP6 (f : α → D) (g : β → D) (h : γ → D) (i : ε → D) (j : ζ → D) (k : η → D) (p : α × β × γ × ε × ζ × η) : D := .tup [f p.1, g p.2.1, h p.2.2.1, i p.2.2.2.1, j p.2.2.2.2.1, k p.2.2.2.2.2]
abbrev eP7 (f : α → D) (g : β → D) (h : γ → D) (i : ε → D) (j : ζ → D) (k : η → D) (l : θ → D) (p : α × β × γ × ε × ζ × η × θ) : D := .tup [f p.1, g p.2.1, h p.2.2.1, i p.2.2.2.1, j p.2.2.2.2.1, k p.2.2.2.2.2.1, l p.2.2.2.2.2.2]
abbrev eP8 (f : α → D) (g : β → D) (h : γ → D) (i : ε → D) (j : ζ → D) (k : η → D) (l : θ → D) (m : ι → D) (p : α × β × γ × ε × ζ × η × θ × ι) : D := .tup [f p.1, g p.2.1, h p.2.2.1, i p.2.2.2.1, j p.2.2.2.2.1, k p.2.2.2.2.2.1, l p.2.2.2.2.2.2.1, m p.2.2.2.2.2.2.2]
abbrev eP9 (f : α → D) (g : β → D) (h : γ → D) (i : ε → D) (j : ζ → D) (k : η → D) (l : θ → D) (m : ι → D) (n : κ → D) (p : α × β × γ × ε × ζ × η × θ × ι × κ) : D := .tup [f p.1, g p.2.1, h p.2.2.1, i p.2.2.2.1, j p.2.2.2.2.1, k p.2.2.2.2.2.1, l p.2.2.2.2.2.2.1, m p.2.2.2.2.2.2.2.1, n p.2.2.2.2.2.2.2.2]
abbrev eP10 (f : α → D) (g : β → D) (h : γ → D) (i : ε → D) (j : ζ → D) (k : η → D) (l : θ → D) (m : ι → D) (n : κ → D) (o : μ → D) (p : α × β × γ × ε × ζ × η × θ × ι × κ × μ) : D := .tup [f p.1, g p.2.1, h p.2.2.1, i p.2.2.2.1, j p.2.2.2.2.1, k p.2.2.2.2.2.1, l p.2.2.2.2.2.2.1, m p.2.2.2.2.2.2.2.1, n p.2.2.2.2.2.2.2.2.1, o p.2.2.2.2.2.2.2.2.2]
end
def eO (f : α → D) : Option α → D
  | none => .non
  | some x => f x
end
abbrev Sg := Int × List Int
abbrev eSg : Sg → D := eP2 D.int (eT D.int)
structure Dp where
  p : Int
  q : Int
  f : List Int
deriving Inhabited
structure Bk where
  s : List Sg
  n : Int
deriving Inhabited
abbrev eDp (d : Dp) : D := .obj 0 [.int d.p, .int d.q, .tup (List.map D.int d.f)]
abbrev eBk (b : Bk) : D := .obj 1 [.tup (List.map eSg b.s), .int b.n]
structure Af where
  n : Int
  ps : List Int
  ls : List Int
  xs : List Int
  dep : Dp
deriving Inhabited
abbrev eAf (a : Af) : D := .obj 2 [.int a.n, .tup (List.map D.int a.ps), .tup (List.map D.int a.ls), .tup (List.map D.int a.xs), eDp a.dep]
def bnd {α : Type} (a : α) (k : α → Prop) : Prop := k a
def jn {τ : Type} (F : τ → Prop) (K : τ) : Prop := F K
def ifP (p : Prop) (A B : Prop) : Prop := (p → A) ∧ (¬ p → B)
def forK {α τ : Type} : List α → (α → τ → τ) → τ → τ
  | [], _, K => K
  | x :: xs, b, K => b x (forK xs b K)
def forB {α τ : Type} : List α → (α → τ → τ → τ) → τ → τ
  | [], _, K => K
  | x :: xs, b, K => b x (forB xs b K) K
def lcK {α β : Type} (b : α → (Option β → Prop) → Prop) (K : List β → Prop) : List α → List β → Prop
  | [], es => K es
  | x :: xs, es => b x fun o => match o with
    | some y => lcK b K xs (es ++ [y])
    | none => lcK b K xs es
def gi {α : Type} [Inhabited α] (xs : List α) (i : Int) : α := xs.getD i.toNat default
def ixOk {α : Type} (xs : List α) (i : Int) : Prop := 0 ≤ i ∧ i < xs.length
def lastD {α : Type} [Inhabited α] (xs : List α) : α := xs.getLastD default
def st {α : Type} (xs : List α) (i : Int) (y : α) : List α := xs.set i.toNat y
def ins {α : Type} (xs : List α) (i : Int) (y : α) : List α := xs.take i.toNat ++ [y] ++ xs.drop i.toNat
def era {α : Type} (xs : List α) (i : Int) : List α := xs.eraseIdx i.toNat
def rg (a b : Int) : List Int := (List.range (b - a).toNat).map fun (i : Nat) => a + (i : Int)
def en {α : Type} (k : Int) (xs : List α) : List (Int × α) := xs.zipIdx.map fun p => (k + (p.2 : Int), p.1)
def ab (i : Int) : Int := if i < 0 then -i else i
def mn (i j : Int) : Int := if j < i then j else i
def mx (i j : Int) : Int := if j > i then j else i
def ib (b : Bool) : Int := if b = true then 1 else 0
def mulT (x y : Int) : Prop := (-(2 ^ 64) < x ∧ x < 2 ^ 64) ∨ (-(2 ^ 64) < y ∧ y < 2 ^ 64)
def divT (y : Int) : Prop := 0 < y ∧ y < 2 ^ 200
theorem gi_get {α : Type} [Inhabited α] {xs : List α} {i : Int} (h : ixOk xs i) : xs[i.toNat]? = some (gi xs i) := by
  have h1 := h.1
  have h2 := h.2
  unfold gi
  rw [List.getD_eq_getElem?_getD, List.getElem?_eq_getElem (by omega)]
  rfl
theorem gi_nat {α : Type} [Inhabited α] {xs : List α} {i : Nat} (h : i < xs.length) : gi xs (i : Int) = xs[i] := by
  unfold gi
  rw [List.getD_eq_getElem?_getD, Int.toNat_natCast, List.getElem?_eq_getElem h]
  rfl
theorem rg_D (a b : Int) : rangeD a (b - a).toNat = List.map D.int (rg a b) := by
  unfold rangeD rg
  rw [List.map_map]
  rfl
theorem rg_mem {a b x : Int} : x ∈ rg a b ↔ a ≤ x ∧ x < b := by
  unfold rg
  rw [List.mem_map]
  constructor
  · rintro ⟨i, hi, rfl⟩
    have := List.mem_range.mp hi
    omega
  · rintro ⟨h1, h2⟩
    exact ⟨(x - a).toNat, List.mem_range.mpr (by omega), by omega⟩
theorem rg_len {a b : Int} : (rg a b).length = (b - a).toNat := by unfold rg; simp
theorem en_D {α : Type} (f : α → D) (k : Int) (xs : List α) : enumD k (List.map f xs) = List.map (eP2 D.int f) (en k xs) := by
  rw [enumD_map]
  unfold en
  rw [List.map_map]
  rfl
end Pu
set_option Elab.async false
set_option linter.all false
set_option maxRecDepth 100000
set_option maxHeartbeats 2000000
set_option autoImplicit false
namespace Pu
open PySem PySem.Spec PyProof.Rows L2
abbrev TT (pt : PTx) (δ : Dl) (Q2 : Exn → Prop) (p : Prop) : Prop := ∀ QT : Bool → Prop, (∀ b : Bool, (b = true ↔ p) → QT b) → pt δ QT Q2
section
variable {δ : Dl} {P : PEnds} {Q2 : Exn → Prop} {p q : Prop} {pt pu : PTx} {pe pa pb pc : PX} {a b : PSx}
theorem w_ifT (ht : TT pt δ (P.ex δ) p) (h1 : p → a P δ) (h2 : ¬ p → b P δ) : pIf pt a b P δ :=
  ht _ fun k hk => by
    cases k
    · rw [if_neg (by decide)]
      exact h2 fun z => by have := hk.mpr z; cases this
    · rw [if_pos rfl]
      exact h1 (hk.mp rfl)
theorem w_ifB {k : Bool} {A B : Prop} (hk : k = true ↔ p) (h1 : p → A) (h2 : ¬ p → B) : if k = true then A else B := by
  cases k
  · rw [if_neg (by decide)]
    exact h2 fun z => by have := hk.mpr z; cases this
  · rw [if_pos rfl]
    exact h1 (hk.mp rfl)
theorem dec_iff {p : Prop} [Decidable p] : decide p = true ↔ p := ⟨of_decide_eq_true, decide_eq_true⟩
theorem tt_cmp [Decidable p] (h : ∀ Q : D → Prop, Q (.bl (decide p)) → pe δ Q Q2) : TT (pTst pe) δ Q2 p := fun _ hq => h _ (hq _ dec_iff)
theorem tt_truL {α : Type} {f : α → D} {xs : List α} (h : ∀ Q : D → Prop, Q (.lst (List.map f xs)) → pe δ Q Q2) : TT (pTru pe) δ Q2 (xs ≠ []) := fun _ hq => h _ (hq _ (by cases xs <;> simp))
theorem tt_and (ha : TT pt δ Q2 p) (hb : p → TT pu δ Q2 q) : TT (pAndT pt pu) δ Q2 (p ∧ q) := fun QT hq => ha _ fun k hk => by
  cases k
  · rw [if_neg (by decide)]
    exact hq _ ⟨fun z => (by cases z), fun z => hk.mpr z.1⟩
  · rw [if_pos rfl]
    exact hb (hk.mp rfl) _ fun k2 h2 => hq _ ⟨fun z => ⟨hk.mp rfl, h2.mp z⟩, fun z => h2.mpr z.2⟩
theorem tt_or (ha : TT pt δ Q2 p) (hb : ¬ p → TT pu δ Q2 q) : TT (pOrT pt pu) δ Q2 (p ∨ q) := fun QT hq => ha _ fun k hk => by
  cases k
  · rw [if_neg (by decide)]
    have hn : ¬ p := fun z => by have := hk.mpr z; cases this
    exact hb hn _ fun k2 h2 => hq _ ⟨fun z => .inr (h2.mp z), fun z => h2.mpr (z.resolve_left hn)⟩
  · rw [if_pos rfl]
    exact hq _ ⟨fun _ => .inl (hk.mp rfl), fun _ => rfl⟩
theorem tt_not (ha : TT pt δ Q2 p) : TT (pNotT pt) δ Q2 (¬ p) := fun QT hq => ha _ fun k hk => hq _ (by
  cases k
  · exact ⟨fun _ z => (by have := hk.mpr z; cases this), fun _ => rfl⟩
  · exact ⟨fun z => (by cases z), fun z => absurd (hk.mp rfl) z⟩)
theorem e_chainT {f f' : POp} {dx dy dz : D} {p p' : Prop} [Decidable p] [Decidable p'] (ha : ∀ Q : D → Prop, Q dx → pa δ Q Q2) (hb : ∀ Q : D → Prop, Q dy → pb δ Q Q2) (hc : p → ∀ Q : D → Prop, Q dz → pc δ Q Q2)
    (hf : ∀ Q : D → Prop, Q (.bl (decide p)) → f dx dy Q) (hf' : ∀ Q : D → Prop, Q (.bl (decide p')) → f' dy dz Q) {Q : D → Prop} (h : Q (.bl (decide (p ∧ p')))) : pChain f f' pa pb pc δ Q Q2 := by
  refine ha _ (hb _ (hf _ ?_))
  by_cases hp : p
  · rw [decide_eq_true hp]
    show if true = true then _ else _
    rw [if_pos rfl]
    refine hc hp _ (hf' _ ?_)
    have e : decide (p ∧ p') = decide p' := decide_eq_decide.mpr ⟨fun z => z.2, fun z => ⟨hp, z⟩⟩
    rw [e] at h
    exact h
  · rw [decide_eq_false hp]
    show if false = true then _ else _
    rw [if_neg (by decide)]
    rw [decide_eq_false (fun z => hp z.1)] at h
    exact h
end
section
variable {α β : Type} [Inhabited α] {f : α → D} {xs ys : List α} {i a b : Int} {Q : D → Prop} {d : D}
theorem y_ixL (c : ixOk xs i) (h : Q (f (gi xs i))) : fIx (.lst (List.map f xs)) (.int i) Q := o_ixM c.1 c.2 fun x hx => by
  rw [gi_get c] at hx
  cases hx
  exact h
theorem y_ixT (c : ixOk xs i) (h : Q (f (gi xs i))) : fIx (.tup (List.map f xs)) (.int i) Q := o_ixMT c.1 c.2 fun x hx => by
  rw [gi_get c] at hx
  cases hx
  exact h
theorem y_ixV (c : ixOk xs i) (h : Q (f (gi xs i))) : fIx (.vw (List.map f xs)) (.int i) Q := by
  have := y_ixL (f := f) c h
  exact this
theorem y_ixS (hd : itemsD d = some (List.map f xs)) (c : ixOk xs i) (h : Q (f (gi xs i))) : fIx d (.int i) Q := by
  unfold itemsD at hd
  split at hd
  · cases hd; exact y_ixL c h
  · cases hd; exact y_ixV c h
  · cases hd; exact y_ixT c h
  · cases hd
theorem atI_last' {ds : List D} {x : D} (h : ds.getLast? = some x) : atI ds (-1) = some x := by
  have hne : ds ≠ [] := fun z => by subst z; cases h
  have hl := List.length_pos_iff.mpr hne
  unfold atI ixN
  rw [if_neg (by omega), if_pos (by omega)]
  show ds[(-1 + (ds.length : Int)).toNat]? = _
  have e : (-1 + (ds.length : Int)).toNat = ds.length - 1 := by omega
  rw [e, ← List.getLast?_eq_getElem?]
  exact h
theorem last_map (c : xs ≠ []) : (List.map f xs).getLast? = some (f (lastD xs)) := by
  rw [List.getLast?_map]
  unfold lastD
  rw [List.getLast?_eq_some_getLast c, List.getLastD_eq_getLast?, List.getLast?_eq_some_getLast c]
  rfl
theorem y_lastL (c : xs ≠ []) (h : Q (f (lastD xs))) : fIx (.lst (List.map f xs)) (.int (-1)) Q := o_ixL (atI_last' (last_map c)) h
theorem y_lenL (h : Q (.int xs.length)) : fLen [.lst (List.map f xs)] Q := o_lenL (by rw [List.length_map]; exact h)
theorem y_lenT (h : Q (.int xs.length)) : fLen [.tup (List.map f xs)] Q := o_lenT (by rw [List.length_map]; exact h)
theorem y_lenS (hd : itemsD d = some (List.map f xs)) (h : Q (.int xs.length)) : fLen [d] Q := o_lenI hd (by rw [List.length_map]; exact h)
theorem y_list (hd : itemsD d = some (List.map f xs)) (h : Q (.lst (List.map f xs))) : fList [d] Q := o_listI hd h
theorem y_tuple (hd : itemsD d = some (List.map f xs)) (h : Q (.tup (List.map f xs))) : fTuple [d] Q := o_tupI hd h
theorem y_sum {ns : List Int} (hd : itemsD d = some (List.map D.int ns)) (h : Q (.int ns.sum)) : fSumA [d] Q := o_sumI hd h
theorem intsD_int (ns : List Int) : intsD (List.map D.int ns) = some ns := intsD_map ns
def maxL (ns : List Int) : Int := ns.foldl (fun a b => if b > a then b else a) (ns.headD 0)
def minL (ns : List Int) : Int := ns.foldl (fun a b => if b < a then b else a) (ns.headD 0)
theorem y_rep {x : α} {j : Int} (c : -(2 ^ 63) ≤ j ∧ j ≤ 16777216) (h : Q (.lst (List.map f (List.replicate j.toNat x)))) : fRep (.lst (List.map f [x])) (.int j) Q := by
  have hz : szl = 16777216 := rfl
  refine ⟨c.1, by omega, by simp only [List.length_map, List.length_cons, List.length_nil]; omega, ?_⟩
  have e : (List.replicate j.toNat (List.map f [x])).flatten = List.map f (List.replicate j.toNat x) := by
    induction j.toNat with
    | zero => rfl
    | succ n ih => rw [List.replicate_succ, List.flatten_cons, ih]; rfl
  rw [e]
  exact h
theorem y_sort {ns : List Int} (h : ∀ ns' : List Int, ns'.Perm ns → ns'.Pairwise (· ≤ ·) → Q (.lst (List.map D.int ns'))) : fSortI [.lst (List.map D.int ns)] Q := o_sortI h
def slF (xs : List α) (a : Int) : List α := xs.drop a.toNat
def slT (xs : List α) (b : Int) : List α := xs.take b.toNat
def slM (xs : List α) (a b : Int) : List α := (xs.drop a.toNat).take (b.toNat - a.toNat)
variable {x y : Int} {ns : List Int}
theorem y_mul (c : mulT x y) (h : Q (.int (x * y))) : fMul (.int x) (.int y) Q := o_mul c h
theorem y_div (c : divT y) (h : Q (.int (x / y))) : fDiv (.int x) (.int y) Q := o_div c.1 c.2 h
theorem y_mod (c : 0 < y) (h : Q (.int (x % y))) : fMod (.int x) (.int y) Q := o_mod c h
theorem y_min (h : Q (.int (mn x y))) : fMin2 [.int x, .int y] Q := h
theorem y_inS (hd : itemsD d = some (List.map D.int ns)) (h : Q (.bl (decide (x ∈ ns)))) : fIn false (.int x) d Q := ⟨rfl, _, hd, by rw [List.all_map, List.all_eq_true]; intro _ _; rfl, by
  have e : inF (.int x) (List.map D.int ns) = decide (x ∈ ns) := by
    clear hd h
    unfold inF
    induction ns with
    | nil => rfl
    | cons a g ih =>
      rw [List.map_cons, List.any_cons, ih]
      show ((a == x) || decide (x ∈ g)) = _
      by_cases c : x = a
      · subst c
        simp
      · have c2 : ¬ a = x := fun z => c z.symm
        have : (a == x) = false := by simpa using c2
        rw [this, Bool.false_or]
        exact decide_eq_decide.mpr ⟨fun z => List.mem_cons_of_mem _ z, fun z => by rcases List.mem_cons.mp z with z | z; exact absurd z c; exact z⟩
  rw [e]
  exact h⟩
end
end Pu
set_option Elab.async false
set_option linter.all false
set_option maxRecDepth 100000
set_option maxHeartbeats 2000000
set_option autoImplicit false
namespace Pu
open PySem PySem.Spec PyProof.Rows L2
section
variable {τ α β : Type} {a b : PSx} {P : PEnds} {δ : Dl}
theorem w_seqJ {F : τ → Prop} {K : τ} (Rel : τ → (Dl → Prop) → Prop) (h : jn F K) (hr : Rel K (b P)) (hf : ∀ (k : τ) (N : Dl → Prop), Rel k N → F k → a { P with nx := N } δ) : pSeq a b P δ := hf K (b P) hr h
theorem w_forK {pg : PG'} {pb : PSx} (f : α → D) {xs : List α} {body : α → τ → τ} {K : τ} (Rel : τ → (Dl → Prop) → Prop) (hend : Rel K P.nx)
    (hb : ∀ (x : α) (k : τ) (N : Dl → Prop), Rel k N → Rel (body x k) (fun δ => pg (f x) δ fun δ' => pb { P with nx := N, ct := N, bk := P.nx } δ')) : Rel (forK xs body K) (fun δ => pForL pg pb P (List.map f xs) δ) := by
  induction xs with
  | nil => exact hend
  | cons x xs ih => exact hb x _ _ ih
theorem forK_ind {xs : List α} {body : α → τ → τ} {K : τ} (J : List α → τ → Prop) (hend : J xs K) (hb : ∀ (pre : List α) (x : α) (post : List α) (k : τ), xs = pre ++ x :: post → J (pre ++ [x]) k → J pre (body x k)) : J [] (forK xs body K) := by
  have key : ∀ (post pre : List α), xs = pre ++ post → J pre (forK post body K) := by
    intro post
    induction post with
    | nil =>
      intro pre e
      rw [List.append_nil] at e
      rw [← e]
      exact hend
    | cons x post ih =>
      intro pre e
      exact hb pre x post _ e (ih (pre ++ [x]) (by rw [e, List.append_assoc]; rfl))
  exact key xs [] rfl
theorem lcK_ind {body : α → (Option β → Prop) → Prop} {K : List β → Prop} {xs : List α} (I : List α → List β → Prop) (h0 : I [] []) (hend : ∀ es, I xs es → K es)
    (hb : ∀ (pre : List α) (x : α) (post : List α) (es : List β) (k : Option β → Prop), xs = pre ++ x :: post → I pre es → (∀ y, I (pre ++ [x]) (es ++ [y]) → k (some y)) → (I (pre ++ [x]) es → k none) → body x k) : lcK body K xs [] := by
  have key : ∀ (post pre : List α) (es : List β), xs = pre ++ post → I pre es → lcK body K post es := by
    intro post
    induction post with
    | nil =>
      intro pre es e hI
      rw [List.append_nil] at e
      subst e
      exact hend es hI
    | cons x post ih =>
      intro pre es e hI
      unfold lcK
      have e2 : xs = (pre ++ [x]) ++ post := by rw [e, List.append_assoc]; rfl
      exact hb pre x post es _ e hI (fun y hy => ih _ _ e2 hy) (fun hy => ih _ _ e2 hy)
  exact key xs [] [] rfl h0
variable {f : α → D} {g : β → D} {xs : List α} {pi : PLx} {pg : PG'} {pt : PTx} {pe : PX} {δw : Dl} {Q : D → Prop} {Q2 : Exn → Prop} {vs : List Nat}
theorem y_lcM (e : α → β) (hl : xs.length ≤ szl) (he : ∀ x ∈ xs, ∀ Q : D → Prop, Q (g (e x)) → pg (f x) δw fun δ' => pe δ' Q fun _ => False) (h : Q (.lst (List.map g (List.map e xs)))) : pLcL pg pYes pe δw Q (List.map f xs) [] := by
  refine w_lcM f xs (fun x => g (e x)) rfl hl (fun x hx K hK => he x hx K hK) ?_
  rw [List.map_map] at h
  exact h
theorem fm_filter {p : α → Bool} {h : α → D} : ∀ xs : List α, (xs.filterMap fun x => if p x = true then some (h x) else none) = (xs.filter p).map h
  | [] => rfl
  | x :: xs => by
    rw [List.filterMap_cons]
    by_cases z : p x = true
    · rw [if_pos z, List.filter_cons_of_pos z, List.map_cons, fm_filter xs]
    · rw [if_neg z, List.filter_cons_of_neg z]
      exact fm_filter xs
theorem y_lcT (p : α → Prop) [DecidablePred p] (e : α → β) (hl : xs.length ≤ szl)
    (he : ∀ x ∈ xs, ∀ (A : Prop) (Q : D → Prop), (p x → Q (g (e x))) → (¬ p x → A) → pg (f x) δw fun δ' => pt δ' (fun b => if b = true then pe δ' Q (fun _ => False) else A) fun _ => False)
    (h : Q (.lst (List.map g (List.map e (xs.filter fun x => decide (p x)))))) : pLcL pg pt pe δw Q (List.map f xs) [] := by
  refine w_lcT f xs (fun x => if decide (p x) = true then some (g (e x)) else none) rfl hl (fun x hx K hK => ?_) ?_
  · refine he x hx (K none) (fun y => K (some y)) (fun hp => ?_) (fun hp => ?_)
    · rw [if_pos (decide_eq_true hp)] at hK
      exact hK
    · rw [if_neg (by rw [decide_eq_false hp]; decide)] at hK
      exact hK
  · rw [fm_filter (p := fun x => decide (p x)) (h := fun x => g (e x))]
    rw [List.map_map] at h
    exact h
theorem y_lcF (p : α → Prop) [DecidablePred p] (hl : xs.length ≤ szl)
    (he : ∀ x ∈ xs, ∀ (A : Prop) (Q : D → Prop), (p x → Q (f x)) → (¬ p x → A) → pg (f x) δw fun δ' => pt δ' (fun b => if b = true then pe δ' Q (fun _ => False) else A) fun _ => False)
    (h : Q (.lst (List.map f (xs.filter fun x => decide (p x))))) : pLcL pg pt pe δw Q (List.map f xs) [] := by
  refine y_lcT (g := f) p id hl he ?_
  rw [List.map_id]
  exact h
theorem y_lcK {body : α → (Option β → Prop) → Prop} {K : List β → Prop} (hl : xs.length ≤ szl) (h : lcK body K xs []) (hk : ∀ es, K es → Q (.lst (List.map g es)))
    (hb : ∀ (x : α) (k : Option β → Prop) (A : Prop) (Qe : D → Prop), (∀ y, k (some y) → Qe (g y)) → (k none → A) → body x k → pg (f x) δw fun δ' => pt δ' (fun b => if b = true then pe δ' Qe (fun _ => False) else A) fun _ => False) : pLcL pg pt pe δw Q (List.map f xs) [] := by
  have key : ∀ (xs : List α) (es : List β), xs.length + es.length ≤ szl → lcK body K xs es → pLcL pg pt pe δw Q (List.map f xs) (List.map g es) := by
    intro xs
    induction xs with
    | nil => intro es _ h; exact hk es h
    | cons x xs ih =>
      intro es hl h
      rw [List.length_cons] at hl
      unfold lcK at h
      show pg (f x) δw fun δ' => pt δ' (fun b => if b = true then pe δ' (fun y => (List.map g es).length < szl ∧ pLcL pg pt pe δw Q (List.map f xs) (List.map g es ++ [y])) (fun _ => False) else pLcL pg pt pe δw Q (List.map f xs) (List.map g es)) fun _ => False
      refine hb x _ _ (fun y => (List.map g es).length < szl ∧ pLcL pg pt pe δw Q (List.map f xs) (List.map g es ++ [y])) (fun y hy => ?_) (fun hn => ?_) h
      · refine ⟨by rw [List.length_map]; omega, ?_⟩
        have := ih (es ++ [y]) (by rw [List.length_append, List.length_singleton]; omega) hy
        rw [List.map_append] at this
        exact this
      · exact ih es (by omega) hn
  exact key xs [] (by simpa using hl) h
end
section
variable {δ : Dl} {pe pf pg : PX} {QL : List D → Prop} {Q2 : Exn → Prop} {α β γ : Type} {f : α → D} {g : β → D} {h' : γ → D} {xs : List α} {ys : List β} {zs : List γ} {d d2 d3 : D} {i j : Int}
theorem y_rg1 (he : ∀ Q : D → Prop, Q (.int j) → pe δ Q Q2) (c : b62 j) (h : QL (List.map D.int (rg 0 j))) : pRange1 pe δ QL Q2 := he _ ⟨c, by
  rw [← rg_D, Int.sub_zero] at h
  exact h⟩
theorem y_it (he : ∀ Q : D → Prop, Q d → pe δ Q Q2) (hd : itemsD d = some (List.map f xs)) (h : QL (List.map f xs)) : pItems pe δ QL Q2 := he _ (by rw [hd]; exact h)
theorem y_en {k : Int} (he : ∀ Q : D → Prop, Q d → pe δ Q Q2) (hd : itemsD d = some (List.map f xs)) (h : QL (List.map (eP2 D.int f) (en k xs))) : pEnum k pe δ QL Q2 := he _ (by rw [hd]; rw [← en_D] at h; exact h)
def zip3 (xs : List α) (ys : List β) (zs : List γ) : List (α × β × γ) := xs.zip (ys.zip zs)
end
section
variable {α β γ ε : Type} {f : α → D} {g : β → D} {h : γ → D} {i : ε → D} {δ : Dl} {K : Dl → Prop} {u : List D → Dl → (Dl → Prop) → Prop}
theorem y_g2 {x : α × β} (q : u [f x.1, g x.2] δ K) : pgSeq 2 u (eP2 f g x) δ K := ⟨rfl, q⟩
end
section
variable {δ : Dl} {P : PEnds} {i : Nat} {pb : PSx}
theorem w_tryM {f : Nat → Option Bool} {ps : Addr → Value → Option Addr → PSx} {e : Exn} (c : f e.c = some false) (h : P.ex δ e) : pTryEx i f ps P δ e := by
  unfold pTryEx
  rw [c]
  exact h
end
end Pu
set_option Elab.async false
set_option linter.all false
set_option maxRecDepth 100000
set_option maxHeartbeats 2000000
set_option autoImplicit false
namespace Pu
open PySem PySem.Spec PyProof.Rows L2
def okE : Nat → D → Prop
  | 0, _ => False
  | _ + 1, .non => True
  | _ + 1, .int _ => True
  | _ + 1, .str s => PyData.strOk s = true
  | n + 1, .lst ds => ∀ d ∈ ds, okE n d
  | n + 1, .tup ds => ∀ d ∈ ds, okE n d
  | _ + 1, _ => False
theorem okE_py : ∀ (n : Nat) (d : D), okE n d → ∃ p, toPy d = some p ∧ p.canLay0 = true ∧ p.depth ≤ n
  | 0, _, h => h.elim
  | n + 1, d, h => by
    have all : ∀ ds : List D, (∀ d ∈ ds, okE n d) → ∃ ps, toPyAll ds = some ps ∧ PyData.canLayAll0 ps = true ∧ PyData.depthAll ps ≤ n := by
      intro ds
      induction ds with
      | nil => intro _; exact ⟨[], rfl, rfl, Nat.zero_le _⟩
      | cons d ds ih =>
        intro h
        obtain ⟨p, h1, h2, h3⟩ := okE_py n d (h d List.mem_cons_self)
        obtain ⟨ps, h4, h5, h6⟩ := ih fun e he => h e (List.mem_cons_of_mem _ he)
        refine ⟨p :: ps, ?_, ?_, ?_⟩
        · unfold toPyAll; rw [h1, h4]
        · unfold PyData.canLayAll0; rw [h2, h5]; rfl
        · unfold PyData.depthAll; exact Nat.max_le.mpr ⟨h3, h6⟩
    cases d with
    | non => exact ⟨_, rfl, rfl, Nat.zero_le _⟩
    | int i => exact ⟨_, rfl, rfl, Nat.zero_le _⟩
    | str s => exact ⟨_, rfl, h, Nat.zero_le _⟩
    | lst ds =>
      obtain ⟨ps, h1, h2, h3⟩ := all ds h
      refine ⟨.list ps, ?_, ?_, ?_⟩
      · unfold toPy; rw [h1]; rfl
      · unfold PyData.canLay0; exact h2
      · unfold PyData.depth; exact Nat.succ_le_succ h3
    | tup ds =>
      obtain ⟨ps, h1, h2, h3⟩ := all ds h
      refine ⟨.tuple ps, ?_, ?_, ?_⟩
      · unfold toPy; rw [h1]; rfl
      · unfold PyData.canLay0; exact h2
      · unfold PyData.depth; exact Nat.succ_le_succ h3
    | bl _ => exact h.elim
    | obj _ _ => exact h.elim
    | pool => exact h.elim
    | cls _ => exact h.elim
    | script _ => exact h.elim
    | pin _ _ => exact h.elim
    | vw _ => exact h.elim
theorem okE_eqv : ∀ (n : Nat) (d e : D) (p q : PyData), okE n d → okE n e → toPy d = some p → toPy e = some q → (PyData.eqv p q = true ↔ d = e)
  | 0, _, _, _, _, h, _, _, _ => h.elim
  | n + 1, d, e, p, q, h1, h2, e1, e2 => by
    have all : ∀ (ds es : List D) (ps qs : List PyData), (∀ d ∈ ds, okE n d) → (∀ d ∈ es, okE n d) → toPyAll ds = some ps → toPyAll es = some qs → (PyData.eqvAll ps qs = true ↔ ds = es) := by
      intro ds
      induction ds with
      | nil =>
        intro es ps qs _ _ e1 e2
        cases e1
        cases es with
        | nil => cases e2; exact ⟨fun _ => rfl, fun _ => rfl⟩
        | cons e es =>
          unfold toPyAll at e2
          split at e2
          · cases e2; exact ⟨fun z => (by simp [PyData.eqvAll] at z), fun z => (by cases z)⟩
          · cases e2
      | cons d ds ih =>
        intro es ps qs h1 h2 e1 e2
        unfold toPyAll at e1
        split at e1
        · rename_i a as ha has
          cases e1
          cases es with
          | nil => cases e2; exact ⟨fun z => (by simp [PyData.eqvAll] at z), fun z => (by cases z)⟩
          | cons e es =>
            unfold toPyAll at e2
            split at e2
            · rename_i b bs hb hbs
              cases e2
              have i1 := okE_eqv n d e a b (h1 d List.mem_cons_self) (h2 e List.mem_cons_self) ha hb
              have i2 := ih es as bs (fun x hx => h1 x (List.mem_cons_of_mem _ hx)) (fun x hx => h2 x (List.mem_cons_of_mem _ hx)) has hbs
              unfold PyData.eqvAll
              rw [Bool.and_eq_true, i1, i2]
              exact ⟨fun z => by rw [z.1, z.2], fun z => by injection z with z1 z2; exact ⟨z1, z2⟩⟩
            · cases e2
        · cases e1
    have ma : ∀ (o : Option (List PyData)) (r : PyData), o.map PyData.list = some r → ∃ ps, o = some ps ∧ r = .list ps := fun o r h => by cases o with
      | none => cases h
      | some ps => cases h; exact ⟨ps, rfl, rfl⟩
    have mb : ∀ (o : Option (List PyData)) (r : PyData), o.map PyData.tuple = some r → ∃ ps, o = some ps ∧ r = .tuple ps := fun o r h => by cases o with
      | none => cases h
      | some ps => cases h; exact ⟨ps, rfl, rfl⟩
    cases d <;> cases e <;> first
      | exact h1.elim
      | exact h2.elim
      | (unfold toPy at e1 e2
         first
         | (cases e1; cases e2; simp [PyData.eqv]; done)
         | (obtain ⟨ps, e3, rfl⟩ := ma _ _ e1
            obtain ⟨qs, e4, rfl⟩ := ma _ _ e2
            have := all _ _ ps qs h1 h2 e3 e4
            unfold PyData.eqv
            rw [this]
            exact ⟨fun z => by rw [z], fun z => by injection z⟩)
         | (obtain ⟨ps, e3, rfl⟩ := mb _ _ e1
            obtain ⟨qs, e4, rfl⟩ := mb _ _ e2
            have := all _ _ ps qs h1 h2 e3 e4
            unfold PyData.eqv
            rw [this]
            exact ⟨fun z => by rw [z], fun z => by injection z⟩)
         | (obtain ⟨ps, e3, rfl⟩ := ma _ _ e1
            obtain ⟨qs, e4, rfl⟩ := mb _ _ e2
            simp [PyData.eqv]; done)
         | (obtain ⟨ps, e3, rfl⟩ := mb _ _ e1
            obtain ⟨qs, e4, rfl⟩ := ma _ _ e2
            simp [PyData.eqv]; done)
         | (obtain ⟨ps, e3, rfl⟩ := ma _ _ e1; cases e2; simp [PyData.eqv]; done)
         | (obtain ⟨ps, e3, rfl⟩ := mb _ _ e1; cases e2; simp [PyData.eqv]; done)
         | (obtain ⟨ps, e3, rfl⟩ := ma _ _ e2; cases e1; simp [PyData.eqv]; done)
         | (obtain ⟨ps, e3, rfl⟩ := mb _ _ e2; cases e1; simp [PyData.eqv]; done))
theorem okE_shaped {n : Nat} {d : D} {p : PyData} (hn : n ≤ 64) (h : okE n d) (e : toPy d = some p) : SeqAt.shaped p = true := by
  obtain ⟨p', h1, h2, h3⟩ := okE_py n d h
  rw [e] at h1
  cases h1
  unfold SeqAt.shaped
  rw [h2, decide_eq_true (Nat.le_trans h3 hn)]
  rfl
theorem y_eqD {d e : D} {Q : D → Prop} (hd : okE 8 d) (he : okE 8 e) (h : ∀ b : Bool, (b = true ↔ d = e) → Q (.bl b)) : fEq d e Q := by
  obtain ⟨p, h1, _, _⟩ := okE_py 8 d hd
  obtain ⟨q, h2, _, _⟩ := okE_py 8 e he
  exact ⟨p, q, h1, h2, okE_shaped (by decide) hd h1, okE_shaped (by decide) he h2, h _ (okE_eqv 8 d e p q hd he h1 h2)⟩
theorem y_neD {d e : D} {Q : D → Prop} (hd : okE 8 d) (he : okE 8 e) (h : ∀ b : Bool, (b = true ↔ d ≠ e) → Q (.bl b)) : fNe d e Q := by
  obtain ⟨p, h1, _, _⟩ := okE_py 8 d hd
  obtain ⟨q, h2, _, _⟩ := okE_py 8 e he
  refine ⟨p, q, h1, h2, okE_shaped (by decide) hd h1, okE_shaped (by decide) he h2, h _ ?_⟩
  have := okE_eqv 8 d e p q hd he h1 h2
  cases hk : PyData.eqv p q
  · rw [hk] at this
    exact ⟨fun _ z => (by have := this.mpr z; cases this), fun _ => rfl⟩
  · rw [hk] at this
    exact ⟨fun z => (by cases z), fun z => absurd (this.mp rfl) z⟩
class EInj {α : Type} (f : α → D) : Prop where
  inj : ∀ a b, f a = f b → a = b
class EOkE {α : Type} (f : α → D) (n : Nat) : Prop where
  ok : ∀ a, okE n (f a)
section
variable {α β γ ε : Type} {f : α → D} {g : β → D} {h : γ → D} {i : ε → D} {n : Nat}
theorem map_inj [EInj f] : ∀ xs ys : List α, List.map f xs = List.map f ys → xs = ys
  | [], [], _ => rfl
  | [], _ :: _, e => by cases e
  | _ :: _, [], e => by cases e
  | x :: xs, y :: ys, e => by
    rw [List.map_cons, List.map_cons] at e
    injection e with e1 e2
    rw [EInj.inj (f := f) _ _ e1, map_inj xs ys e2]
instance : EInj D.int := ⟨fun _ _ e => by injection e⟩
instance : EInj D.str := ⟨fun _ _ e => by injection e⟩
instance : EInj eD := ⟨fun _ _ e => e⟩
instance [EInj f] : EInj (eL f) := ⟨fun a b e => by injection e with e; exact map_inj a b e⟩
instance [EInj f] : EInj (eT f) := ⟨fun a b e => by injection e with e; exact map_inj a b e⟩
instance [EInj f] : EInj (eP1 f) := ⟨fun a b e => by injection e with e; injection e with e1; exact EInj.inj (f := f) _ _ e1⟩
instance [EInj f] [EInj g] : EInj (eP2 f g) := ⟨fun a b e => by injection e with e; injection e with e1 e; injection e with e2; exact Prod.ext (EInj.inj (f := f) _ _ e1) (EInj.inj (f := g) _ _ e2)⟩
instance [EInj f] [EInj g] : EInj (eR2 f g) := ⟨fun a b e => by injection e with e; injection e with e1 e; injection e with e2; exact Prod.ext (EInj.inj (f := f) _ _ e1) (EInj.inj (f := g) _ _ e2)⟩
instance [EInj f] [EInj g] [EInj h] : EInj (eP3 f g h) := ⟨fun a b e => by injection e with e; injection e with e1 e; injection e with e2 e; injection e with e3; exact Prod.ext (EInj.inj (f := f) _ _ e1) (Prod.ext (EInj.inj (f := g) _ _ e2) (EInj.inj (f := h) _ _ e3))⟩
instance [EInj f] [EInj g] [EInj h] : EInj (eR3 f g h) := ⟨fun a b e => by injection e with e; injection e with e1 e; injection e with e2 e; injection e with e3; exact Prod.ext (EInj.inj (f := f) _ _ e1) (Prod.ext (EInj.inj (f := g) _ _ e2) (EInj.inj (f := h) _ _ e3))⟩
instance : EOkE D.int (n + 1) := ⟨fun _ => trivial⟩
instance [EOkE f n] : EOkE (eL f) (n + 1) := ⟨fun a d hd => by obtain ⟨x, _, rfl⟩ := List.mem_map.mp hd; exact EOkE.ok x⟩
instance [EOkE f n] : EOkE (eT f) (n + 1) := ⟨fun a d hd => by obtain ⟨x, _, rfl⟩ := List.mem_map.mp hd; exact EOkE.ok x⟩
instance [EOkE f n] : EOkE (eP1 f) (n + 1) := ⟨fun a d hd => by
  simp only [List.mem_cons, List.not_mem_nil, or_false] at hd
  subst hd
  exact EOkE.ok _⟩
instance [EOkE f n] [EOkE g n] : EOkE (eP2 f g) (n + 1) := ⟨fun a d hd => by
  simp only [List.mem_cons, List.not_mem_nil, or_false] at hd
  rcases hd with rfl | rfl
  · exact EOkE.ok (f := f) _
  · exact EOkE.ok (f := g) _⟩
instance [EOkE f n] [EOkE g n] : EOkE (eR2 f g) (n + 1) := ⟨fun a d hd => by
  simp only [List.mem_cons, List.not_mem_nil, or_false] at hd
  rcases hd with rfl | rfl
  · exact EOkE.ok (f := f) _
  · exact EOkE.ok (f := g) _⟩
instance [EOkE f n] [EOkE g n] [EOkE h n] : EOkE (eP3 f g h) (n + 1) := ⟨fun a d hd => by
  simp only [List.mem_cons, List.not_mem_nil, or_false] at hd
  rcases hd with rfl | rfl | rfl
  · exact EOkE.ok (f := f) _
  · exact EOkE.ok (f := g) _
  · exact EOkE.ok (f := h) _⟩
instance [EOkE f n] [EOkE g n] [EOkE h n] : EOkE (eR3 f g h) (n + 1) := ⟨fun a d hd => by
  simp only [List.mem_cons, List.not_mem_nil, or_false] at hd
  rcases hd with rfl | rfl | rfl
  · exact EOkE.ok (f := f) _
  · exact EOkE.ok (f := g) _
  · exact EOkE.ok (f := h) _⟩
variable {a b : α} {Q : D → Prop}
theorem y_eq [EInj f] (ha : okE 8 (f a)) (hb : okE 8 (f b)) (q : ∀ c : Bool, (c = true ↔ a = b) → Q (.bl c)) : fEq (f a) (f b) Q := y_eqD ha hb fun c hc => q c (hc.trans ⟨EInj.inj (f := f) _ _, fun z => by rw [z]⟩)
theorem y_ne [EInj f] (ha : okE 8 (f a)) (hb : okE 8 (f b)) (q : ∀ c : Bool, (c = true ↔ a ≠ b) → Q (.bl c)) : fNe (f a) (f b) Q := y_neD ha hb fun c hc => q c (hc.trans ⟨fun z y => z (by rw [y]), fun z y => z (EInj.inj (f := f) _ _ y)⟩)
theorem y_eqd [EInj f] [Decidable (a = b)] (ha : okE 8 (f a)) (hb : okE 8 (f b)) (q : Q (.bl (decide (a = b)))) : fEq (f a) (f b) Q := y_eq ha hb fun c hc => by
  have : c = decide (a = b) := by
    rw [Bool.eq_iff_iff, hc]
    exact dec_iff.symm
  rw [this]
  exact q
theorem y_ned [EInj f] [Decidable (a = b)] (ha : okE 8 (f a)) (hb : okE 8 (f b)) (q : Q (.bl (!decide (a = b)))) : fNe (f a) (f b) Q := y_ne ha hb fun c hc => by
  have : c = !decide (a = b) := by
    rw [Bool.eq_iff_iff, hc]
    by_cases z : a = b <;> simp [z]
  rw [this]
  exact q
theorem y_ok [EOkE f 8] : okE 8 (f a) := EOkE.ok a
end
end Pu
set_option Elab.async false
set_option linter.all false
set_option maxRecDepth 100000
set_option maxHeartbeats 2000000
set_option autoImplicit false
namespace Pu
open PySem PySem.Spec PyProof.Rows L2
def aoK (F : List D → Prop) : D → Prop := fun d => match d with | .lst ds => F ds | _ => False
def extK (ds : List D) (F : List D → Prop) : D → Prop := fun d => match d with | .lst es => ds.length + es.length ≤ szl ∧ F (ds ++ es) | _ => False
section
variable {α β : Type} {f : α → D} {g : β → D} {xs ys : List α} {y : α} {F : List D → Prop} {j : Int} {ds : List D}
theorem k_ao (h : F ds) : aoK F (.lst ds) := h
theorem y_app (c : xs.length < szl) (h : F (List.map f (xs ++ [y]))) : appK (List.map f xs) F (f y) := k_appM c h
theorem y_ins (c : xs.length < szl ∧ 0 ≤ j ∧ j < 2 ^ 63) (h : F (List.map f (ins xs j y))) : insK (List.map f xs) F (.int j) (f y) := k_insM c.1 c.2.1 c.2.2 h
theorem y_set (c : ixOk xs j) (h : F (List.map f (st xs j y))) : ixSet (List.map f xs) (f y) F (.int j) := k_setM c.1 c.2 h
def setLast (xs : List α) (y : α) : List α := xs.dropLast ++ [y]
theorem ixN_last {n : Nat} (h : 0 < n) : ixN n (-1) = some (n - 1) := by
  unfold ixN
  rw [if_neg (by omega), if_pos (by omega)]
  congr 1
  omega
theorem set_last : ∀ (xs : List α) (y : α), xs ≠ [] → xs.set (xs.length - 1) y = xs.dropLast ++ [y]
  | [], _, h => absurd rfl h
  | [a], y, _ => rfl
  | a :: b :: xs, y, _ => by
    have := set_last (b :: xs) y (by simp)
    simp only [List.length_cons, Nat.add_sub_cancel, List.set_cons_succ, List.dropLast_cons₂, List.cons_append] at this ⊢
    rw [this]
theorem y_setLast (c : xs ≠ []) (h : F (List.map f (setLast xs y))) : ixSet (List.map f xs) (f y) F (.int (-1)) := by
  refine o_set (n := xs.length - 1) (by rw [List.length_map]; exact ixN_last (List.length_pos_iff.mpr c)) ?_
  rw [← List.map_set, set_last xs y c]
  exact h
theorem y_pop [Inhabited α] {G : D → List D → Prop} (c : ixOk xs j ∧ xs.length < 2 ^ 62) (h : G (f (gi xs j)) (List.map f (era xs j))) : popMK (List.map f xs) G (.int j) := k_popMK c.1.1 c.1.2 c.2 fun z hz => by
  rw [gi_get c.1] at hz
  cases hz
  exact h
theorem y_popS (c : ixOk xs j ∧ xs.length < 2 ^ 62) (h : F (List.map f (era xs j))) : popK (List.map f xs) F (.int j) := k_popM c.1.1 c.1.2 c.2 h
theorem y_rev : (fun ds : List D => some ds.reverse) (List.map f xs) = some (List.map f xs.reverse) := by
  show some _ = _
  rw [List.map_reverse]
def lstK (Q : D → Prop) (ds : List D) : Prop := ds.length ≤ szl ∧ Q (.lst ds)
theorem e_lstK {p : PAx} {δ : Dl} {Q : D → Prop} {Q2 : Exn → Prop} (h : p δ (lstK Q) Q2) : pLst p δ Q Q2 := h
theorem k_lst {Q : D → Prop} {ds : List D} (c : ds.length ≤ szl) (h : Q (.lst ds)) : lstK Q ds := ⟨c, h⟩
def cntK (ns : List Int) (Q : D → Prop) : D → Prop := fun y => match y with | .int k => Q (.int (ns.count k : Nat)) | _ => False
theorem k_cnt {ns : List Int} {Q : D → Prop} {k : Int} (h : Q (.int (ns.count k : Nat))) : cntK ns Q (.int k) := h
theorem e_cnt {ns : List Int} {d : D} {δ : Dl} {pe pa : PX} {Q : D → Prop} {Q2 : Exn → Prop} (e : itemsD d = some (List.map D.int ns)) (hd : ∀ K : D → Prop, K d → pe δ K Q2) (h : pa δ (cntK ns Q) Q2) : pCount pe pa δ Q Q2 := o_count e h fun K hK => hd K hK
variable {a0 a1 a2 a3 a4 a5 a6 a7 : α} {Q : D → Prop} {d0 d1 d2 d3 d4 d5 d6 d7 : D}
theorem ln0 : ([] : List D).length ≤ szl := by decide
theorem ln1 : [d0].length ≤ szl := by simp only [List.length_cons, List.length_nil]; decide
theorem ln2 : [d0, d1].length ≤ szl := by simp only [List.length_cons, List.length_nil]; decide
theorem ln3 : [d0, d1, d2].length ≤ szl := by simp only [List.length_cons, List.length_nil]; decide
theorem ln4 : [d0, d1, d2, d3].length ≤ szl := by simp only [List.length_cons, List.length_nil]; decide
theorem ln5 : [d0, d1, d2, d3, d4].length ≤ szl := by simp only [List.length_cons, List.length_nil]; decide
theorem ln6 : [d0, d1, d2, d3, d4, d5].length ≤ szl := by simp only [List.length_cons, List.length_nil]; decide
theorem y_mk0 (h : Q (.lst (List.map f []))) : lstK Q ([] : List D) := ⟨ln0, h⟩
theorem y_mk1 (h : Q (.lst (List.map f [a0]))) : lstK Q [f a0] := ⟨ln1, h⟩
theorem y_mk6 (h : Q (.lst (List.map f [a0, a1, a2, a3, a4, a5]))) : lstK Q [f a0, f a1, f a2, f a3, f a4, f a5] := ⟨ln6, h⟩
variable {l : List D}
theorem y_l0 (h : Q d0) : fIx (.lst (d0 :: l)) (.int 0) Q := o_ixL0 h
theorem y_l1 (h : Q d1) : fIx (.lst (d0 :: d1 :: l)) (.int 1) Q := o_ixL (x := 1) (d := d1) (by unfold atI ixN; rw [if_pos (by decide), if_pos (by simp only [List.length_cons]; omega)]; rfl) h
theorem y_l2 (h : Q d2) : fIx (.lst (d0 :: d1 :: d2 :: l)) (.int 2) Q := o_ixL (x := 2) (d := d2) (by unfold atI ixN; rw [if_pos (by decide), if_pos (by simp only [List.length_cons]; omega)]; rfl) h
theorem y_t0 (h : Q d0) : fIx (.tup (d0 :: l)) (.int 0) Q := o_ixT (x := 0) (d := d0) (by unfold atI ixN; rw [if_pos (by decide), if_pos (by simp only [List.length_cons]; omega)]; rfl) h
theorem y_t1 (h : Q d1) : fIx (.tup (d0 :: d1 :: l)) (.int 1) Q := o_ixT (x := 1) (d := d1) (by unfold atI ixN; rw [if_pos (by decide), if_pos (by simp only [List.length_cons]; omega)]; rfl) h
theorem set_lit {N : Dl → Prop} {δ δ' : Dl} (e : δ = δ') (h : N δ') : N δ := by rw [e]; exact h
theorem w_sf0 {P : PEnds} {pe : PX} {c j : Nat} {a : Addr} {ds : List D} {l : Dl} (hj : ds.length = j) (h : pe (some (.slf a c ds) :: l) (fun d => P.nx (some (.slf a c (ds ++ [d])) :: l)) (P.ex (some (.slf a c ds) :: l))) : pSetF 0 c j pe P (some (.slf a c ds) :: l) := w_setF rfl hj h
theorem e_fs0 {c j : Nat} {a : Addr} {ds : List D} {l : Dl} {x : D} {Q2 : Exn → Prop} (e : ds[j]? = some x) (h : Q x) : pFldS 0 c j (some (.slf a c ds) :: l) Q Q2 := e_fldS rfl e h
end
end Pu
namespace Pu
open PySem PySem.Spec PyProof.Rows L2
section
variable {δ : Dl} {P : PEnds} {Q2 : Exn → Prop} {p : Prop} {pe : PX} {i : Nat} {pb : PSx}
theorem y_nedd {α : Type} {f : α → D} [EInj f] {a b : α} [Decidable (a = b)] {Q : D → Prop} (ha : okE 8 (f a)) (hb : okE 8 (f b)) (q : Q (.bl (decide (a ≠ b)))) : fNe (f a) (f b) Q := y_ned ha hb (by
  have e : decide (a ≠ b) = !decide (a = b) := by by_cases z : a = b <;> simp [z]
  rw [e] at q
  exact q)
theorem w_tryKB {f : Nat → Option Bool} {ps : Addr → Value → Option Addr → PSx} {H : Exn → Prop} {B : (Exn → Prop) → Prop} (h : bnd H B) (RelE : Dl → Prop) (hh : ∀ δ' e, RelE δ' → H e → pTryEx i f ps P δ' e) (hb : (∀ δ' e, RelE δ' → H e → pTryEx i f ps P δ' e) → B H → pb { P with ex := pTryEx i f ps P } δ) : pTryAs i f pb ps P δ := w_try (hb hh h)
theorem w_tryEL {f : Nat → Option Bool} {ps : Addr → Value → Option Addr → PSx} {e : Exn} (L : Addr → Value → Option Addr → Dl) (c : f e.c = some true) (hs : ∀ a cls d, δ.set i (some (.exc a cls d e)) = L a cls d)
    (h : ∀ a cls d, ps a cls d { nx := fun δ2 => P.nx (δ2.set i none), rt := P.rt, bk := fun δ2 => P.bk (δ2.set i none), ct := fun δ2 => P.ct (δ2.set i none), ex := fun _ _ => False } (L a cls d)) : pTryEx i f ps P δ e := w_tryEx c fun a cls d => by rw [hs]; exact h a cls d
end
section
class NoLs {α : Type} (f : α → D) : Prop where
  no : ∀ a, noL (f a) = true
variable {α β : Type} {f : α → D} {g : β → D}
theorem noLL_map [NoLs f] : ∀ xs : List α, noLL (List.map f xs) = true
  | [] => rfl
  | x :: xs => by
    rw [List.map_cons]
    unfold noLL
    rw [NoLs.no (f := f) x, noLL_map xs]
    rfl
instance : NoLs D.int := ⟨fun _ => rfl⟩
instance : NoLs D.bl := ⟨fun _ => rfl⟩
instance : NoLs D.str := ⟨fun _ => rfl⟩
instance : NoLs eN := ⟨fun _ => rfl⟩
instance [NoLs f] : NoLs (eT f) := ⟨fun a => by show noL (.tup _) = true; unfold noL; exact noLL_map a⟩
instance [NoLs f] [NoLs g] : NoLs (eP2 f g) := ⟨fun a => by show noL (.tup _) = true; unfold noL noLL noLL noLL; rw [NoLs.no (f := f), NoLs.no (f := g)]; rfl⟩
instance : NoLs eDp := ⟨fun a => by show noL (.obj _ _) = true; simp [noL, noLL, noLL_map]⟩
instance : NoLs eBk := ⟨fun a => by show noL (.obj _ _) = true; simp [noL, noLL, noLL_map]⟩
instance : NoLs eAf := ⟨fun a => by show noL (.obj _ _) = true; simp [noL, noLL, noLL_map]⟩
theorem nl [NoLs f] {a : α} : noL (f a) = true := NoLs.no a
theorem nlAf {a : Af} : noLL [.int a.n, .tup (List.map D.int a.ps), .tup (List.map D.int a.ls), .tup (List.map D.int a.xs), eDp a.dep] = true := by simp [noL, noLL, noLL_map]
end
end Pu
namespace Pu
open PySem PySem.Spec PyProof.Rows L2
section
variable {δ : Dl} {P : PEnds} {Q2 : Exn → Prop} {p q : Prop} {pt pu : PTx} {pe pa pb : PX} {a b : PSx} {Q : D → Prop} {ds : List D}
theorem hdL : itemsD (.lst ds) = some ds := rfl
theorem hdT : itemsD (.tup ds) = some ds := rfl
theorem e_andT (ha : ∀ Q : D → Prop, Q (.bl true) → pa δ Q Q2) (h : pb δ Q Q2) : pAndV pa pb δ Q Q2 := ha _ h
theorem e_notF (ha : ∀ Q : D → Prop, Q (.bl false) → pa δ Q Q2) (h : Q (.bl true)) : pNotV pa δ Q Q2 := ha _ h
def srt (ns : List Int) : List Int := ns.mergeSort fun a b => decide (a ≤ b)
theorem srt_perm (ns : List Int) : (srt ns).Perm ns := List.mergeSort_perm ns _
theorem srt_sorted (ns : List Int) : (srt ns).Pairwise (· ≤ ·) := by
  have := List.pairwise_mergeSort (le := fun a b : Int => decide (a ≤ b)) (fun a b c h1 h2 => by
    have h1' := of_decide_eq_true h1
    have h2' := of_decide_eq_true h2
    exact decide_eq_true (Int.le_trans h1' h2')) (fun a b => by
    rcases Int.le_total a b with h | h
    · simp [h]
    · simp [h]) ns
  exact this.imp fun h => of_decide_eq_true h
theorem y_srt {ns : List Int} (h : Q (.lst (List.map D.int (srt ns)))) : fSortI [.lst (List.map D.int ns)] Q := y_sort fun ns' h1 h2 => by
  have : ns' = srt ns := sorted_eq (h1.trans (srt_perm ns).symm) h2 (srt_sorted ns)
  rw [this]
  exact h
end
end Pu
namespace Pu
open PySem PySem.Spec PyProof.Rows L2
section
variable {τ : Type} {δ : Dl} {pe : PX} {Q : D → Prop} {Q2 : Exn → Prop}
end
end Pu
namespace Pu
section
variable {Q : D → Prop} {x y : Int}
end
end Pu
namespace Pu
def fzoK (Q : D → Prop) : D → Prop := fun d => (match d with | .lst es => noLL es = true | _ => False) ∧ Q d
end Pu
set_option Elab.async false
set_option linter.all false
set_option maxRecDepth 100000
set_option maxHeartbeats 2000000
set_option autoImplicit false
namespace Pu
open PySem PySem.Spec PyProof.Rows L2
def rg1K (QL : List D → Prop) : D → Prop := fun d => match d with | .int j => b62 j ∧ QL (rangeD 0 j.toNat) | _ => False
def rg2K (QL : List D → Prop) (i : D) : D → Prop := fun d => match i, d with | .int i, .int j => b62 i ∧ b62 j ∧ QL (rangeD i (j - i).toNat) | _, _ => False
def itK (QL : List D → Prop) : D → Prop := fun d => match itemsD d with | some ds => QL ds | none => False
def enK (k : Int) (QL : List D → Prop) : D → Prop := fun d => match itemsD d with | some ds => QL (enumD k ds) | none => False
section
variable {δ : Dl} {pe pf : PX} {QL : List D → Prop} {Q2 : Exn → Prop} {α : Type} {f : α → D} {xs : List α} {d : D} {i j k : Int}
end
def sameT (a b : D) : Prop := okS 6 a ∧ a = b
end Pu
namespace Pu
open PySem PySem.Spec PyProof.Rows L2
def okB : Nat → D → Prop
  | 0, _ => False
  | _ + 1, .non => True
  | _ + 1, .bl _ => True
  | _ + 1, .int _ => True
  | _ + 1, .str s => PyData.strOk s = true
  | n + 1, .lst ds => ∀ d ∈ ds, okB n d
  | n + 1, .tup ds => ∀ d ∈ ds, okB n d
  | _ + 1, _ => False
section
variable {Q : D → Prop} {ds : List D}
end
class EBk {α : Type} (f : α → D) (n : Nat) : Prop where
  ok : ∀ a, okB n (f a)
section
variable {α β γ ε ζ : Type} {f : α → D} {g : β → D} {h : γ → D} {i : ε → D} {j : ζ → D} {n : Nat}
instance : EBk D.int (n + 1) := ⟨fun _ => trivial⟩
instance : EBk D.bl (n + 1) := ⟨fun _ => trivial⟩
instance : EBk eN (n + 1) := ⟨fun _ => trivial⟩
instance [EBk f n] : EBk (eL f) (n + 1) := ⟨fun a d hd => by obtain ⟨x, _, rfl⟩ := List.mem_map.mp hd; exact EBk.ok x⟩
instance [EBk f n] : EBk (eT f) (n + 1) := ⟨fun a d hd => by obtain ⟨x, _, rfl⟩ := List.mem_map.mp hd; exact EBk.ok x⟩
instance [EBk f n] [EBk g n] : EBk (eP2 f g) (n + 1) := ⟨fun a d hd => by
  simp only [List.mem_cons, List.not_mem_nil, or_false] at hd
  rcases hd with rfl | rfl
  · exact EBk.ok (f := f) _
  · exact EBk.ok (f := g) _⟩
instance [EBk f n] [EBk g n] : EBk (eR2 f g) (n + 1) := ⟨fun a d hd => by
  simp only [List.mem_cons, List.not_mem_nil, or_false] at hd
  rcases hd with rfl | rfl
  · exact EBk.ok (f := f) _
  · exact EBk.ok (f := g) _⟩
instance [EBk f n] [EBk g n] [EBk h n] : EBk (eP3 f g h) (n + 1) := ⟨fun a d hd => by
  simp only [List.mem_cons, List.not_mem_nil, or_false] at hd
  rcases hd with rfl | rfl | rfl
  · exact EBk.ok (f := f) _
  · exact EBk.ok (f := g) _
  · exact EBk.ok (f := h) _⟩
instance [EBk f n] [EBk g n] [EBk h n] : EBk (eR3 f g h) (n + 1) := ⟨fun a d hd => by
  simp only [List.mem_cons, List.not_mem_nil, or_false] at hd
  rcases hd with rfl | rfl | rfl
  · exact EBk.ok (f := f) _
  · exact EBk.ok (f := g) _
  · exact EBk.ok (f := h) _⟩
end
end Pu
namespace Pu
section
variable {Q : D → Prop} {ds : List D} {d : D} {α : Type} {f : α → D} {xs : List α}
end
end Pu
namespace Pu
theorem w_ifBn {p : Prop} {k : Bool} {A B : Prop} (hk : k = true ↔ p) (h1 : ¬ p → A) (h2 : p → B) : if (!k) = true then A else B := by
  cases k
  · exact w_nff (h1 fun z => by have := hk.mpr z; cases this)
  · exact w_ntt (h2 (hk.mp rfl))
end Pu
namespace Pu
def takeOk (n : Int) : Prop := 1 ≤ n ∧ n < 2 ^ 200
def takeT (limit : Int) (Q : Int → Prop) : Prop := ∀ r : Int, 0 ≤ r → r < limit → Q r
end Pu
set_option Elab.async false
set_option linter.all false
set_option maxRecDepth 100000
set_option maxHeartbeats 2000000
set_option autoImplicit false
namespace Pu
open PySem PySem.Spec PyProof.Rows L2
section
variable {α β γ ε ζ : Type}
abbrev eV (f : α → D) (xs : List α) : D := .vw (List.map f xs)
abbrev eW0 (_ : Unit) : D := .vw []
abbrev eW1 (f : α → D) (p : α) : D := .vw [f p]
abbrev eW2 (f : α → D) (g : β → D) (p : α × β) : D := .vw [f p.1, g p.2]
abbrev eW3 (f : α → D) (g : β → D) (h : γ → D) (p : α × β × γ) : D := .vw [f p.1, g p.2.1, h p.2.2]
abbrev eW4 (f : α → D) (g : β → D) (h : γ → D) (i : ε → D) (p : α × β × γ × ε) : D := .vw [f p.1, g p.2.1, h p.2.2.1, i p.2.2.2]
abbrev eW5 (f : α → D) (g : β → D) (h : γ → D) (i : ε → D) (j : ζ → D) (p : α × β × γ × ε × ζ) : D := .vw [f p.1, g p.2.1, h p.2.2.1, i p.2.2.2.1, j p.2.2.2.2]
class VE (f : α → D) (g : outParam (α → D)) : Prop where
  h : ∀ x, viewD (f x) = g x
variable {f f' : α → D} {g g' : β → D} {h h' : γ → D} {i i' : ε → D} {j j' : ζ → D}
theorem vql_map [VE f f'] : ∀ xs : List α, viewL (List.map f xs) = List.map f' xs
  | [] => rfl
  | x :: xs => by rw [List.map_cons, List.map_cons]; unfold viewL; rw [VE.h (f := f) x, vql_map xs]
theorem vq_tup {ds ds' : List D} (e : viewL ds = ds') : viewD (.tup ds) = .tup ds' := by unfold viewD; rw [e]
theorem vq_lst {ds ds' : List D} (e : viewL ds = ds') : viewD (.lst ds) = .vw ds' := by unfold viewD; rw [e]
theorem vq_vw {ds ds' : List D} (e : viewL ds = ds') : viewD (.vw ds) = .vw ds' := by unfold viewD; rw [e]
theorem vq_obj {c : Nat} {ds ds' : List D} (e : viewL ds = ds') : viewD (.obj c ds) = .obj c ds' := by unfold viewD; rw [e]
theorem vql_nil : viewL [] = [] := rfl
theorem vql_cons {d d' : D} {ds ds' : List D} (e : viewD d = d') (e2 : viewL ds = ds') : viewL (d :: ds) = d' :: ds' := by unfold viewL; rw [e, e2]
theorem vq [VE f f'] (x : α) : viewD (f x) = f' x := VE.h x
instance : VE D.int D.int := ⟨fun _ => rfl⟩
instance : VE D.bl D.bl := ⟨fun _ => rfl⟩
instance : VE D.str D.str := ⟨fun _ => rfl⟩
instance : VE eN eN := ⟨fun _ => rfl⟩
instance [VE f f'] : VE (eL f) (eV f') := ⟨fun x => vq_lst (vql_map x)⟩
instance [VE f f'] : VE (eV f) (eV f') := ⟨fun x => vq_vw (vql_map x)⟩
instance [VE f f'] : VE (eT f) (eT f') := ⟨fun x => vq_tup (vql_map x)⟩
instance : VE eP0 eP0 := ⟨fun _ => rfl⟩
instance : VE eR0 eW0 := ⟨fun _ => rfl⟩
instance [VE f f'] : VE (eP1 f) (eP1 f') := ⟨fun x => vq_tup (vql_cons (vq _) vql_nil)⟩
instance [VE f f'] [VE g g'] : VE (eP2 f g) (eP2 f' g') := ⟨fun x => vq_tup (vql_cons (vq _) (vql_cons (vq _) vql_nil))⟩
instance [VE f f'] [VE g g'] [VE h h'] : VE (eP3 f g h) (eP3 f' g' h') := ⟨fun x => vq_tup (vql_cons (vq _) (vql_cons (vq _) (vql_cons (vq _) vql_nil)))⟩
instance [VE f f'] [VE g g'] [VE h h'] [VE i i'] : VE (eP4 f g h i) (eP4 f' g' h' i') := ⟨fun x => vq_tup (vql_cons (vq _) (vql_cons (vq _) (vql_cons (vq _) (vql_cons (vq _) vql_nil))))⟩
instance [VE f f'] [VE g g'] [VE h h'] [VE i i'] [VE j j'] : VE (eP5 f g h i j) (eP5 f' g' h' i' j') := ⟨fun x => vq_tup (vql_cons (vq _) (vql_cons (vq _) (vql_cons (vq _) (vql_cons (vq _) (vql_cons (vq _) vql_nil)))))⟩
instance [VE f f'] : VE (eR1 f) (eW1 f') := ⟨fun x => vq_lst (vql_cons (vq _) vql_nil)⟩
instance [VE f f'] [VE g g'] : VE (eR2 f g) (eW2 f' g') := ⟨fun x => vq_lst (vql_cons (vq _) (vql_cons (vq _) vql_nil))⟩
instance [VE f f'] [VE g g'] [VE h h'] : VE (eR3 f g h) (eW3 f' g' h') := ⟨fun x => vq_lst (vql_cons (vq _) (vql_cons (vq _) (vql_cons (vq _) vql_nil)))⟩
instance [VE f f'] [VE g g'] [VE h h'] [VE i i'] : VE (eR4 f g h i) (eW4 f' g' h' i') := ⟨fun x => vq_lst (vql_cons (vq _) (vql_cons (vq _) (vql_cons (vq _) (vql_cons (vq _) vql_nil))))⟩
instance [VE f f'] [VE g g'] [VE h h'] [VE i i'] [VE j j'] : VE (eR5 f g h i j) (eW5 f' g' h' i' j') := ⟨fun x => vq_lst (vql_cons (vq _) (vql_cons (vq _) (vql_cons (vq _) (vql_cons (vq _) (vql_cons (vq _) vql_nil)))))⟩
instance : VE eDp eDp := ⟨fun x => vq_obj (vql_cons rfl (vql_cons rfl (vql_cons (vq_tup (vql_map _)) vql_nil)))⟩
instance : VE eBk eBk := ⟨fun x => vq_obj (vql_cons (vq_tup (vql_map _)) (vql_cons rfl vql_nil))⟩
instance : VE eAf eAf := ⟨fun x => vq_obj (vql_cons rfl (vql_cons (vq_tup (vql_map _)) (vql_cons (vq_tup (vql_map _)) (vql_cons (vq_tup (vql_map _)) (vql_cons (vq (f := eDp) _) vql_nil)))))⟩
class NoVs (f : α → D) : Prop where
  no : ∀ a, noV (f a) = true
theorem nvl_map [NoVs f] : ∀ xs : List α, noVL (List.map f xs) = true
  | [] => rfl
  | x :: xs => by rw [List.map_cons]; unfold noVL; rw [NoVs.no (f := f) x, nvl_map xs]; rfl
theorem nv_tup {ds : List D} (e : noVL ds = true) : noV (.tup ds) = true := by unfold noV; exact e
theorem nv_lst {ds : List D} (e : noVL ds = true) : noV (.lst ds) = true := by unfold noV; exact e
theorem nv_obj {c : Nat} {ds : List D} (e : noVL ds = true) : noV (.obj c ds) = true := by unfold noV; exact e
theorem nvl_nil : noVL [] = true := rfl
theorem nvl_cons {d : D} {ds : List D} (e : noV d = true) (e2 : noVL ds = true) : noVL (d :: ds) = true := by unfold noVL; rw [e, e2]; rfl
theorem nv [NoVs f] (x : α) : noV (f x) = true := NoVs.no x
instance : NoVs D.int := ⟨fun _ => rfl⟩
instance : NoVs D.bl := ⟨fun _ => rfl⟩
instance : NoVs D.str := ⟨fun _ => rfl⟩
instance : NoVs eN := ⟨fun _ => rfl⟩
instance [NoVs f] : NoVs (eL f) := ⟨fun x => nv_lst (nvl_map x)⟩
instance [NoVs f] : NoVs (eT f) := ⟨fun x => nv_tup (nvl_map x)⟩
instance : NoVs eP0 := ⟨fun _ => rfl⟩
instance : NoVs eR0 := ⟨fun _ => rfl⟩
instance [NoVs f] : NoVs (eP1 f) := ⟨fun x => nv_tup (nvl_cons (nv _) nvl_nil)⟩
instance [NoVs f] [NoVs g] : NoVs (eP2 f g) := ⟨fun x => nv_tup (nvl_cons (nv _) (nvl_cons (nv _) nvl_nil))⟩
instance [NoVs f] [NoVs g] [NoVs h] : NoVs (eP3 f g h) := ⟨fun x => nv_tup (nvl_cons (nv _) (nvl_cons (nv _) (nvl_cons (nv _) nvl_nil)))⟩
instance [NoVs f] [NoVs g] [NoVs h] [NoVs i] : NoVs (eP4 f g h i) := ⟨fun x => nv_tup (nvl_cons (nv _) (nvl_cons (nv _) (nvl_cons (nv _) (nvl_cons (nv _) nvl_nil))))⟩
instance [NoVs f] [NoVs g] [NoVs h] [NoVs i] [NoVs j] : NoVs (eP5 f g h i j) := ⟨fun x => nv_tup (nvl_cons (nv _) (nvl_cons (nv _) (nvl_cons (nv _) (nvl_cons (nv _) (nvl_cons (nv _) nvl_nil)))))⟩
instance [NoVs f] : NoVs (eR1 f) := ⟨fun x => nv_lst (nvl_cons (nv _) nvl_nil)⟩
instance [NoVs f] [NoVs g] : NoVs (eR2 f g) := ⟨fun x => nv_lst (nvl_cons (nv _) (nvl_cons (nv _) nvl_nil))⟩
instance [NoVs f] [NoVs g] [NoVs h] : NoVs (eR3 f g h) := ⟨fun x => nv_lst (nvl_cons (nv _) (nvl_cons (nv _) (nvl_cons (nv _) nvl_nil)))⟩
instance [NoVs f] [NoVs g] [NoVs h] [NoVs i] : NoVs (eR4 f g h i) := ⟨fun x => nv_lst (nvl_cons (nv _) (nvl_cons (nv _) (nvl_cons (nv _) (nvl_cons (nv _) nvl_nil))))⟩
instance [NoVs f] [NoVs g] [NoVs h] [NoVs i] [NoVs j] : NoVs (eR5 f g h i j) := ⟨fun x => nv_lst (nvl_cons (nv _) (nvl_cons (nv _) (nvl_cons (nv _) (nvl_cons (nv _) (nvl_cons (nv _) nvl_nil)))))⟩
instance : NoVs eDp := ⟨fun x => nv_obj (nvl_cons rfl (nvl_cons rfl (nvl_cons (nv_tup (nvl_map _)) nvl_nil)))⟩
instance : NoVs eBk := ⟨fun x => nv_obj (nvl_cons (nv_tup (nvl_map _)) (nvl_cons rfl nvl_nil))⟩
instance : NoVs eAf := ⟨fun x => nv_obj (nvl_cons rfl (nvl_cons (nv_tup (nvl_map _)) (nvl_cons (nv_tup (nvl_map _)) (nvl_cons (nv_tup (nvl_map _)) (nvl_cons (nv (f := eDp) _) nvl_nil)))))⟩
end
instance {α β γ ε ζ η : Type} {f f' : α → D} {g g' : β → D} {h h' : γ → D} {i i' : ε → D} {j j' : ζ → D} {k k' : η → D} [VE f f'] [VE g g'] [VE h h'] [VE i i'] [VE j j'] [VE k k'] : VE (eP6 f g h i j k) (eP6 f' g' h' i' j' k') := ⟨fun x => vq_tup (vql_cons (vq _) (vql_cons (vq _) (vql_cons (vq _) (vql_cons (vq _) (vql_cons (vq _) (vql_cons (vq _) vql_nil))))))⟩
instance {α β γ ε ζ η : Type} {f : α → D} {g : β → D} {h : γ → D} {i : ε → D} {j : ζ → D} {k : η → D} [NoVs f] [NoVs g] [NoVs h] [NoVs i] [NoVs j] [NoVs k] : NoVs (eP6 f g h i j k) := ⟨fun x => nv_tup (nvl_cons (nv _) (nvl_cons (nv _) (nvl_cons (nv _) (nvl_cons (nv _) (nvl_cons (nv _) (nvl_cons (nv _) nvl_nil))))))⟩
instance {α β γ ε ζ η θ : Type} {f f' : α → D} {g g' : β → D} {h h' : γ → D} {i i' : ε → D} {j j' : ζ → D} {k k' : η → D} {l l' : θ → D} [VE f f'] [VE g g'] [VE h h'] [VE i i'] [VE j j'] [VE k k'] [VE l l'] : VE (eP7 f g h i j k l) (eP7 f' g' h' i' j' k' l') := ⟨fun x => vq_tup (vql_cons (vq _) (vql_cons (vq _) (vql_cons (vq _) (vql_cons (vq _) (vql_cons (vq _) (vql_cons (vq _) (vql_cons (vq _) vql_nil)))))))⟩
instance {α β γ ε ζ η θ : Type} {f : α → D} {g : β → D} {h : γ → D} {i : ε → D} {j : ζ → D} {k : η → D} {l : θ → D} [NoVs f] [NoVs g] [NoVs h] [NoVs i] [NoVs j] [NoVs k] [NoVs l] : NoVs (eP7 f g h i j k l) := ⟨fun x => nv_tup (nvl_cons (nv _) (nvl_cons (nv _) (nvl_cons (nv _) (nvl_cons (nv _) (nvl_cons (nv _) (nvl_cons (nv _) (nvl_cons (nv _) nvl_nil)))))))⟩
instance {α β γ ε ζ η θ ι : Type} {f f' : α → D} {g g' : β → D} {h h' : γ → D} {i i' : ε → D} {j j' : ζ → D} {k k' : η → D} {l l' : θ → D} {m m' : ι → D} [VE f f'] [VE g g'] [VE h h'] [VE i i'] [VE j j'] [VE k k'] [VE l l'] [VE m m'] : VE (eP8 f g h i j k l m) (eP8 f' g' h' i' j' k' l' m') := ⟨fun x => vq_tup (vql_cons (vq _) (vql_cons (vq _) (vql_cons (vq _) (vql_cons (vq _) (vql_cons (vq _) (vql_cons (vq _) (vql_cons (vq _) (vql_cons (vq _) vql_nil))))))))⟩
instance {α β γ ε ζ η θ ι : Type} {f : α → D} {g : β → D} {h : γ → D} {i : ε → D} {j : ζ → D} {k : η → D} {l : θ → D} {m : ι → D} [NoVs f] [NoVs g] [NoVs h] [NoVs i] [NoVs j] [NoVs k] [NoVs l] [NoVs m] : NoVs (eP8 f g h i j k l m) := ⟨fun x => nv_tup (nvl_cons (nv _) (nvl_cons (nv _) (nvl_cons (nv _) (nvl_cons (nv _) (nvl_cons (nv _) (nvl_cons (nv _) (nvl_cons (nv _) (nvl_cons (nv _) nvl_nil))))))))⟩
instance {α β γ ε ζ η θ ι κ : Type} {f f' : α → D} {g g' : β → D} {h h' : γ → D} {i i' : ε → D} {j j' : ζ → D} {k k' : η → D} {l l' : θ → D} {m m' : ι → D} {n n' : κ → D} [VE f f'] [VE g g'] [VE h h'] [VE i i'] [VE j j'] [VE k k'] [VE l l'] [VE m m'] [VE n n'] : VE (eP9 f g h i j k l m n) (eP9 f' g' h' i' j' k' l' m' n') := ⟨fun x => vq_tup (vql_cons (vq _) (vql_cons (vq _) (vql_cons (vq _) (vql_cons (vq _) (vql_cons (vq _) (vql_cons (vq _) (vql_cons (vq _) (vql_cons (vq _) (vql_cons (vq _) vql_nil)))))))))⟩
instance {α β γ ε ζ η θ ι κ : Type} {f : α → D} {g : β → D} {h : γ → D} {i : ε → D} {j : ζ → D} {k : η → D} {l : θ → D} {m : ι → D} {n : κ → D} [NoVs f] [NoVs g] [NoVs h] [NoVs i] [NoVs j] [NoVs k] [NoVs l] [NoVs m] [NoVs n] : NoVs (eP9 f g h i j k l m n) := ⟨fun x => nv_tup (nvl_cons (nv _) (nvl_cons (nv _) (nvl_cons (nv _) (nvl_cons (nv _) (nvl_cons (nv _) (nvl_cons (nv _) (nvl_cons (nv _) (nvl_cons (nv _) (nvl_cons (nv _) nvl_nil)))))))))⟩
instance {α β γ ε ζ η θ ι κ μ : Type} {f f' : α → D} {g g' : β → D} {h h' : γ → D} {i i' : ε → D} {j j' : ζ → D} {k k' : η → D} {l l' : θ → D} {m m' : ι → D} {n n' : κ → D} {o o' : μ → D} [VE f f'] [VE g g'] [VE h h'] [VE i i'] [VE j j'] [VE k k'] [VE l l'] [VE m m'] [VE n n'] [VE o o'] : VE (eP10 f g h i j k l m n o) (eP10 f' g' h' i' j' k' l' m' n' o') := ⟨fun x => vq_tup (vql_cons (vq _) (vql_cons (vq _) (vql_cons (vq _) (vql_cons (vq _) (vql_cons (vq _) (vql_cons (vq _) (vql_cons (vq _) (vql_cons (vq _) (vql_cons (vq _) (vql_cons (vq _) vql_nil))))))))))⟩
instance {α β γ ε ζ η θ ι κ μ : Type} {f : α → D} {g : β → D} {h : γ → D} {i : ε → D} {j : ζ → D} {k : η → D} {l : θ → D} {m : ι → D} {n : κ → D} {o : μ → D} [NoVs f] [NoVs g] [NoVs h] [NoVs i] [NoVs j] [NoVs k] [NoVs l] [NoVs m] [NoVs n] [NoVs o] : NoVs (eP10 f g h i j k l m n o) := ⟨fun x => nv_tup (nvl_cons (nv _) (nvl_cons (nv _) (nvl_cons (nv _) (nvl_cons (nv _) (nvl_cons (nv _) (nvl_cons (nv _) (nvl_cons (nv _) (nvl_cons (nv _) (nvl_cons (nv _) (nvl_cons (nv _) nvl_nil))))))))))⟩
section
variable {bs : List Bool} {l l' : Dl} {d d' : D} {ds ds' : List D} {o : Option S} {oa : Option Addr} {T : Addr → Prop}
theorem vd_e : vwDl [] [] = [] := rfl
theorem vd_f (e : vwDl bs l = l') : vwDl (false :: bs) (o :: l) = none :: l' := by unfold vwDl; rw [e]
theorem vd_d (e1 : viewD d = d') (e : vwDl bs l = l') : vwDl (true :: bs) (some (.d d) :: l) = some (.d d') :: l' := by unfold vwDl; rw [e]; show some (S.d (viewD d)) :: l' = _; rw [e1]
theorem vd_t (e1 : viewD d = d') (e : vwDl bs l = l') : vwDl (true :: bs) (some (.tree T d) :: l) = some (.d d') :: l' := by unfold vwDl; rw [e]; show some (S.d (viewD d)) :: l' = _; rw [e1]
variable {δ δ' : Dl} {pe : PX} {pt : PTx} {Q : D → Prop} {QT : Bool → Prop} {Q2 : Exn → Prop} {P : PEnds} {i : Nat}
theorem t_vw {p : Prop} (e : vwDl bs δ = δ') (h : TT pt δ' (fun e => noVL e.ds = true ∧ Q2 e) p) : TT (pVwT bs pt) δ Q2 p := fun QT hq => by unfold pVwT; rw [e]; exact h QT hq
theorem tt_vwE (e : vwDl bs δ = δ') (h : pt δ' QT (fun e => noVL e.ds = true ∧ Q2 e)) : pVwT bs pt δ QT Q2 := by unfold pVwT; rw [e]; exact h
def vasK (N : List D → Prop) : D → Prop := fun d => match d with | .lst ds => noLL ds = true ∧ N ds | _ => False
theorem w_asT (e : vwDl bs δ = δ') (h : pe δ' (fun d => noV d = true ∧ ∀ T, P.nx (δ.set i (some (.tree T d)))) (fun e => noVL e.ds = true ∧ P.ex δ e)) : pAsgT bs pe i P δ := by unfold pAsgT; rw [e]; exact h
end
section
variable {Q : D → Prop} {F1 : Bool → Prop} {ds l : List D} {d0 d1 d2 d3 d4 : D} {δ : Dl} {K : Dl → Prop} {u : List D → Dl → (Dl → Prop) → Prop}
theorem hdV : itemsD (.vw ds) = some ds := rfl
theorem o_ixW {i : Int} {x : D} (e : atI ds i = some x) (h : Q x) : fIx (.vw ds) (.int i) Q := by have := o_ixL e h; exact this
theorem o_lenW (h : Q (.int ds.length)) : fLen [.vw ds] Q := h
theorem y_w0 (h : Q d0) : fIx (.vw (d0 :: l)) (.int 0) Q := by have := y_l0 (l := l) h; exact this
theorem y_w1 (h : Q d1) : fIx (.vw (d0 :: d1 :: l)) (.int 1) Q := by have := y_l1 (d0 := d0) (l := l) h; exact this
theorem y_w2 (h : Q d2) : fIx (.vw (d0 :: d1 :: d2 :: l)) (.int 2) Q := by have := y_l2 (d0 := d0) (d1 := d1) (l := l) h; exact this
variable {α : Type} {f : α → D} {xs ys : List α} {a b : Int}
end
section
variable {δ : Dl} {P : PEnds} {i : Nat} {up : Bool} {pp : PTr} {pe pj pk : PX} {T : Addr → Prop} {d : D} {K : D → Prop} {P2 : Exn → Prop} {nx : Dl → Prop}
def trK (d1 : D) (K : D → Prop) : D → Prop := fun x => match x with
  | .int n => (match d1 with
    | .lst ds => (match atI ds n with | some y => K y | none => False)
    | .tup ds => (match atI ds n with | some y => K y | none => False)
    | _ => False)
  | _ => False
def trLK (N : List D → Prop) : D → Prop := fun d1 => match d1 with | .lst es => N es | _ => False
def trJ (es : List D) (N : Nat → Prop) : D → Prop := fun k => match k with
  | .int j => (match ixN es.length j with | some n => N n | none => False)
  | _ => False
theorem tr_v (h : K d) : pTrV δ d K P2 := h
theorem tr_i (h : pp δ d (fun d1 => pj δ (trK d1 K) P2) P2) : pTrI pp pj δ d K P2 := h
theorem k_trCt {ds : List D} {n : Int} {y : D} (e : atI ds n = some y) (h : K y) : trK (.tup ds) K (.int n) := by unfold trK; simp only; rw [e]; exact h
theorem atI_mapX {α : Type} [Inhabited α] {f : α → D} {xs : List α} {n : Int} (c : ixOk xs n) : atI (List.map f xs) n = some (f (gi xs n)) := by
  have h1 := c.1
  have h2 := c.2
  unfold atI ixN
  rw [List.length_map, if_pos (by omega), if_pos (by omega)]
  show (List.map f xs)[n.toNat]? = _
  rw [List.getElem?_map, gi_get c]
  rfl
theorem k_tt1 {d0 d1 : D} {l : List D} (h : K d1) : trK (.tup (d0 :: d1 :: l)) K (.int 1) := k_trCt (by unfold atI ixN; rw [if_pos (by decide), if_pos (by simp only [List.length_cons]; omega)]; rfl) h
def UpLL (a b : List Int) : List (List Int) → List (List Int) → Prop
  | [], [] => True
  | u :: us, v :: vs => (v = u ∨ (u = a ∧ v = b)) ∧ UpLL a b us vs
  | _, _ => False
theorem UpLL.refl {a b : List Int} : ∀ x : List (List Int), UpLL a b x x
  | [] => trivial
  | _ :: xs => ⟨.inl rfl, UpLL.refl xs⟩
theorem map_int_inj : ∀ {xs ys : List Int}, List.map D.int xs = List.map D.int ys → xs = ys
  | [], [], _ => rfl
  | [], _ :: _, h => by cases h
  | _ :: _, [], h => by cases h
  | x :: xs, y :: ys, h => by
    rw [List.map_cons, List.map_cons] at h
    injection h with h1 h2
    injection h1 with h1
    rw [h1, map_int_inj h2]
end
end Pu
namespace Pu
end Pu
set_option Elab.async false
set_option linter.all false
set_option maxRecDepth 100000
set_option maxHeartbeats 2000000
set_option autoImplicit false
namespace Pu
open PySem PySem.Spec PyProof.Rows L2
abbrev eRs (p : Str × List Int) : D := .tup (D.str p.1 :: List.map D.int p.2)
section
variable {α β : Type} {f : α → D} {g : β → D}
instance : VE eRs eRs := ⟨fun x => vq_tup (vql_cons rfl (vql_map _))⟩
instance : NoVs eRs := ⟨fun x => nv_tup (nvl_cons rfl (nvl_map _))⟩
instance : NoLs eRs := ⟨fun x => by show noL (.tup _) = true; unfold noL noLL; rw [noLL_map]; rfl⟩
instance : EInj eRs := ⟨fun a b e => by
  injection e with e
  injection e with e1 e2
  injection e1 with e1
  obtain ⟨a1, a2⟩ := a
  obtain ⟨b1, b2⟩ := b
  simp only at e1 e2
  rw [e1, map_int_inj e2]⟩
class ToRs (f : α → D) where
  r : α → Str × List Int
  h : ∀ x, f x = eRs (r x)
instance : ToRs eRs := ⟨id, fun _ => rfl⟩
instance : ToRs (eP1 D.str) := ⟨fun p => (p, []), fun _ => rfl⟩
instance : ToRs (eP2 D.str D.int) := ⟨fun p => (p.1, [p.2]), fun _ => rfl⟩
instance : ToRs (eP3 D.str D.int D.int) := ⟨fun p => (p.1, [p.2.1, p.2.2]), fun _ => rfl⟩
instance : ToRs (eP4 D.str D.int D.int D.int) := ⟨fun p => (p.1, [p.2.1, p.2.2.1, p.2.2.2]), fun _ => rfl⟩
instance : ToRs (eP5 D.str D.int D.int D.int D.int) := ⟨fun p => (p.1, [p.2.1, p.2.2.1, p.2.2.2.1, p.2.2.2.2]), fun _ => rfl⟩
variable {Q : D → Prop} {xs : List α} {ys : List β} {d d' : D} {ds : List D}
end
end Pu
set_option Elab.async false
set_option linter.all false
set_option maxRecDepth 100000
set_option maxHeartbeats 2000000
set_option autoImplicit false
namespace Pu
open PySem PySem.Spec PyProof.Rows L2
def ssrt (ns : List Int) : List Int := srt ns.eraseDups
theorem mem_dups {ns : List Int} {k : Int} : k ∈ ns.eraseDups ↔ k ∈ ns := List.mem_eraseDups
theorem ssrt_mem {ns : List Int} {k : Int} : k ∈ ssrt ns ↔ k ∈ ns := by
  unfold ssrt
  rw [(srt_perm _).mem_iff, mem_dups]
theorem nodup_dups : ∀ (n : Nat) (ns : List Int), ns.length ≤ n → ns.eraseDups.Nodup
  | 0, ns, h => by
    rw [List.eq_nil_of_length_eq_zero (by omega : ns.length = 0)]
    exact List.nodup_nil
  | n + 1, [], _ => List.nodup_nil
  | n + 1, x :: xs, h => by
    rw [List.eraseDups_cons, List.nodup_cons]
    have hl := List.length_filter_le (fun b => !b == x) xs
    rw [List.length_cons] at h
    refine ⟨?_, nodup_dups n _ (by omega)⟩
    rw [mem_dups, List.mem_filter]
    simp
theorem ssrt_lt (ns : List Int) : (ssrt ns).Pairwise (· < ·) := by
  have h1 := srt_sorted ns.eraseDups
  have h2 : (ssrt ns).Nodup := (srt_perm _).symm.nodup (nodup_dups _ ns (Nat.le_refl _))
  rw [List.nodup_iff_pairwise_ne] at h2
  have := List.Pairwise.and h1 h2
  exact this.imp fun {a b} h => by omega
theorem lt_ext {a b : List Int} (h1 : a.Pairwise (· < ·)) (h2 : b.Pairwise (· < ·)) (h : ∀ x, x ∈ a ↔ x ∈ b) : a = b := by
  have n1 : a.Nodup := h1.imp (fun {x y} z => by omega)
  have n2 : b.Nodup := h2.imp (fun {x y} z => by omega)
  exact sorted_eq ((List.perm_ext_iff_of_nodup n1 n2).mpr h) (h1.imp (fun {x y} z => by omega)) (h2.imp (fun {x y} z => by omega))
theorem y_srtS {ns : List Int} {d : D} {Q : D → Prop} (hd : itemsD d = some (List.map D.int ns)) (c : ns.length < 64) (h : Q (.lst (List.map D.int (ssrt ns)))) : fSrtSet [d] Q := by
  unfold fSrtSet
  dsimp only
  rw [hd]
  dsimp only
  rw [intsD_int]
  refine ⟨c, fun ns' h1 h2 => ?_⟩
  rw [lt_ext h1 (ssrt_lt ns) fun x => by rw [h2, ssrt_mem]]
  exact h
section
variable {α β γ ε ζ : Type} {f f' : α → D} {g g' : β → D} {h h' : γ → D} {i i' : ε → D} {j j' : ζ → D}
instance [VE f f'] : VE (eW1 f) (eW1 f') := ⟨fun x => vq_vw (vql_cons (vq _) vql_nil)⟩
instance [VE f f'] [VE g g'] : VE (eW2 f g) (eW2 f' g') := ⟨fun x => vq_vw (vql_cons (vq _) (vql_cons (vq _) vql_nil))⟩
instance [VE f f'] [VE g g'] [VE h h'] : VE (eW3 f g h) (eW3 f' g' h') := ⟨fun x => vq_vw (vql_cons (vq _) (vql_cons (vq _) (vql_cons (vq _) vql_nil)))⟩
instance [VE f f'] [VE g g'] [VE h h'] [VE i i'] : VE (eW4 f g h i) (eW4 f' g' h' i') := ⟨fun x => vq_vw (vql_cons (vq _) (vql_cons (vq _) (vql_cons (vq _) (vql_cons (vq _) vql_nil))))⟩
instance [VE f f'] [VE g g'] [VE h h'] [VE i i'] [VE j j'] : VE (eW5 f g h i j) (eW5 f' g' h' i' j') := ⟨fun x => vq_vw (vql_cons (vq _) (vql_cons (vq _) (vql_cons (vq _) (vql_cons (vq _) (vql_cons (vq _) vql_nil)))))⟩
end
def mvK (N : List D → Prop) : D → Prop := fun d1 => match d1 with | .lst es => noLL es = true ∧ N es | _ => False
theorem k_mv {N : List D → Prop} {es : List D} (c : noLL es = true) (h : N es) : mvK N (.lst es) := ⟨c, h⟩
theorem w_mvT {P : PEnds} {pp : PTr} {i k : Nat} {δ : Dl} {T : Addr → Prop} {d : D} (hh : δ[i]? = some (some (.tree T d))) (h : pp δ d (mvK fun es => P.nx ((δ.set i none).set k (some (.own none es)))) (P.ex δ)) : pMvT i pp k P δ := by
  unfold pMvT
  rw [hh]
  exact h
theorem atI_tail {α : Type} [Inhabited α] {f : α → D} {d0 : D} {xs : List α} {i : Int} (c : 1 ≤ i ∧ ixOk xs (i - 1)) : atI (d0 :: List.map f xs) i = some (f (gi xs (i - 1))) := by
  rw [← atI_mapX (f := f) c.2]
  obtain ⟨c0, c1, c2⟩ := c
  unfold atI ixN
  simp only [List.length_cons]
  rw [if_pos (by omega), if_pos (by rw [List.length_map]; omega), if_pos (by omega), if_pos (by rw [List.length_map]; omega)]
  show (d0 :: List.map f xs)[i.toNat]? = (List.map f xs)[(i - 1).toNat]?
  have e : i.toNat = (i - 1).toNat + 1 := by omega
  rw [e, List.getElem?_cons_succ]
theorem y_ixRl {α : Type} [Inhabited α] {f : α → D} {d0 : D} {xs : List α} {ds : List D} {i : Int} {Q : D → Prop} (c : 1 ≤ i ∧ ixOk xs (i - 1)) (e : ds = d0 :: List.map f xs) (h : Q (f (gi xs (i - 1)))) : fIx (.lst ds) (.int i) Q := by
  subst e
  have := atI_tail (f := f) (d0 := d0) c
  show fIx _ _ _
  unfold fIx
  simp only [this]
  exact h
theorem y_ixRw {α : Type} [Inhabited α] {f : α → D} {d0 : D} {xs : List α} {ds : List D} {i : Int} {Q : D → Prop} (c : 1 ≤ i ∧ ixOk xs (i - 1)) (e : ds = d0 :: List.map f xs) (h : Q (f (gi xs (i - 1)))) : fIx (.vw ds) (.int i) Q := by
  subst e
  have := atI_tail (f := f) (d0 := d0) c
  unfold fIx
  simp only [this]
  exact h
theorem y_slRl {ds es : List D} {a : Int} {Q : D → Prop} (c : 0 ≤ a) (e : ds.drop a.toNat = es) (h : Q (.lst es)) : fSl (.lst ds) (some a) none Q := by
  subst e
  have := o_slF (φ := fun x : D => x) (xs := ds) (a := a) (Q := Q) c (by rw [List.map_id']; exact h)
  rwa [List.map_id'] at this
theorem y_appE {α : Type} {f : α → D} {xs : List α} {y : α} {d : D} {F : List D → Prop} (c : xs.length < szl) (e : d = f y) (h : F (List.map f (xs ++ [y]))) : appK (List.map f xs) F d := by
  subst e
  exact y_app c h
end Pu
set_option Elab.async false
set_option linter.all false
set_option maxRecDepth 100000
set_option autoImplicit false
namespace Pu
open PySem PySem.Spec PyProof.Rows L2
theorem e_v0 {l : Dl} {d : D} {Q : D → Prop} {Q2 : Exn → Prop} (h : Q d) : pVar 0 (some (.d d) :: l) Q Q2 := h
theorem e_v1 {x0 : Option S} {l : Dl} {d : D} {Q : D → Prop} {Q2 : Exn → Prop} (h : Q d) : pVar 1 (x0 :: some (.d d) :: l) Q Q2 := h
theorem e_v2 {x0 x1 : Option S} {l : Dl} {d : D} {Q : D → Prop} {Q2 : Exn → Prop} (h : Q d) : pVar 2 (x0 :: x1 :: some (.d d) :: l) Q Q2 := h
theorem e_v3 {x0 x1 x2 : Option S} {l : Dl} {d : D} {Q : D → Prop} {Q2 : Exn → Prop} (h : Q d) : pVar 3 (x0 :: x1 :: x2 :: some (.d d) :: l) Q Q2 := h
theorem e_v4 {x0 x1 x2 x3 : Option S} {l : Dl} {d : D} {Q : D → Prop} {Q2 : Exn → Prop} (h : Q d) : pVar 4 (x0 :: x1 :: x2 :: x3 :: some (.d d) :: l) Q Q2 := h
theorem e_v5 {x0 x1 x2 x3 x4 : Option S} {l : Dl} {d : D} {Q : D → Prop} {Q2 : Exn → Prop} (h : Q d) : pVar 5 (x0 :: x1 :: x2 :: x3 :: x4 :: some (.d d) :: l) Q Q2 := h
theorem e_v6 {x0 x1 x2 x3 x4 x5 : Option S} {l : Dl} {d : D} {Q : D → Prop} {Q2 : Exn → Prop} (h : Q d) : pVar 6 (x0 :: x1 :: x2 :: x3 :: x4 :: x5 :: some (.d d) :: l) Q Q2 := h
theorem e_v7 {x0 x1 x2 x3 x4 x5 x6 : Option S} {l : Dl} {d : D} {Q : D → Prop} {Q2 : Exn → Prop} (h : Q d) : pVar 7 (x0 :: x1 :: x2 :: x3 :: x4 :: x5 :: x6 :: some (.d d) :: l) Q Q2 := h
theorem e_v8 {x0 x1 x2 x3 x4 x5 x6 x7 : Option S} {l : Dl} {d : D} {Q : D → Prop} {Q2 : Exn → Prop} (h : Q d) : pVar 8 (x0 :: x1 :: x2 :: x3 :: x4 :: x5 :: x6 :: x7 :: some (.d d) :: l) Q Q2 := h
theorem e_v9 {x0 x1 x2 x3 x4 x5 x6 x7 x8 : Option S} {l : Dl} {d : D} {Q : D → Prop} {Q2 : Exn → Prop} (h : Q d) : pVar 9 (x0 :: x1 :: x2 :: x3 :: x4 :: x5 :: x6 :: x7 :: x8 :: some (.d d) :: l) Q Q2 := h
theorem e_v10 {x0 x1 x2 x3 x4 x5 x6 x7 x8 x9 : Option S} {l : Dl} {d : D} {Q : D → Prop} {Q2 : Exn → Prop} (h : Q d) : pVar 10 (x0 :: x1 :: x2 :: x3 :: x4 :: x5 :: x6 :: x7 :: x8 :: x9 :: some (.d d) :: l) Q Q2 := h
theorem e_v11 {x0 x1 x2 x3 x4 x5 x6 x7 x8 x9 x10 : Option S} {l : Dl} {d : D} {Q : D → Prop} {Q2 : Exn → Prop} (h : Q d) : pVar 11 (x0 :: x1 :: x2 :: x3 :: x4 :: x5 :: x6 :: x7 :: x8 :: x9 :: x10 :: some (.d d) :: l) Q Q2 := h
theorem e_v12 {x0 x1 x2 x3 x4 x5 x6 x7 x8 x9 x10 x11 : Option S} {l : Dl} {d : D} {Q : D → Prop} {Q2 : Exn → Prop} (h : Q d) : pVar 12 (x0 :: x1 :: x2 :: x3 :: x4 :: x5 :: x6 :: x7 :: x8 :: x9 :: x10 :: x11 :: some (.d d) :: l) Q Q2 := h
theorem e_vv2 {x0 x1 : Option S} {l : Dl} {d : D} {Q : D → Prop} {Q2 : Exn → Prop} (h : Q d) : pVarV 2 (x0 :: x1 :: some (.d d) :: l) Q Q2 := h
theorem e_vv3 {x0 x1 x2 : Option S} {l : Dl} {d : D} {Q : D → Prop} {Q2 : Exn → Prop} (h : Q d) : pVarV 3 (x0 :: x1 :: x2 :: some (.d d) :: l) Q Q2 := h
theorem e_vv5 {x0 x1 x2 x3 x4 : Option S} {l : Dl} {d : D} {Q : D → Prop} {Q2 : Exn → Prop} (h : Q d) : pVarV 5 (x0 :: x1 :: x2 :: x3 :: x4 :: some (.d d) :: l) Q Q2 := h
theorem e_vo1 {x0 : Option S} {l : Dl} {oa : Option Addr} {ds : List D} {Q : D → Prop} {Q2 : Exn → Prop} (h : Q (.lst ds)) : pVarV 1 (x0 :: some (.own oa ds) :: l) Q Q2 := h
theorem e_vo2 {x0 x1 : Option S} {l : Dl} {oa : Option Addr} {ds : List D} {Q : D → Prop} {Q2 : Exn → Prop} (h : Q (.lst ds)) : pVarV 2 (x0 :: x1 :: some (.own oa ds) :: l) Q Q2 := h
theorem e_vo3 {x0 x1 x2 : Option S} {l : Dl} {oa : Option Addr} {ds : List D} {Q : D → Prop} {Q2 : Exn → Prop} (h : Q (.lst ds)) : pVarV 3 (x0 :: x1 :: x2 :: some (.own oa ds) :: l) Q Q2 := h
theorem e_vo4 {x0 x1 x2 x3 : Option S} {l : Dl} {oa : Option Addr} {ds : List D} {Q : D → Prop} {Q2 : Exn → Prop} (h : Q (.lst ds)) : pVarV 4 (x0 :: x1 :: x2 :: x3 :: some (.own oa ds) :: l) Q Q2 := h
theorem e_vo5 {x0 x1 x2 x3 x4 : Option S} {l : Dl} {oa : Option Addr} {ds : List D} {Q : D → Prop} {Q2 : Exn → Prop} (h : Q (.lst ds)) : pVarV 5 (x0 :: x1 :: x2 :: x3 :: x4 :: some (.own oa ds) :: l) Q Q2 := h
theorem e_vo6 {x0 x1 x2 x3 x4 x5 : Option S} {l : Dl} {oa : Option Addr} {ds : List D} {Q : D → Prop} {Q2 : Exn → Prop} (h : Q (.lst ds)) : pVarV 6 (x0 :: x1 :: x2 :: x3 :: x4 :: x5 :: some (.own oa ds) :: l) Q Q2 := h
theorem w_as1 {x0 : Option S} {l : Dl} {y : Option S} {P : PEnds} {pe : PX} (h : pe (x0 :: y :: l) (fun d => P.nx (x0 :: some (.d d) :: l)) (P.ex (x0 :: y :: l))) : pAsg pe 1 P (x0 :: y :: l) := h
theorem w_as2 {x0 x1 : Option S} {l : Dl} {y : Option S} {P : PEnds} {pe : PX} (h : pe (x0 :: x1 :: y :: l) (fun d => P.nx (x0 :: x1 :: some (.d d) :: l)) (P.ex (x0 :: x1 :: y :: l))) : pAsg pe 2 P (x0 :: x1 :: y :: l) := h
theorem w_as3 {x0 x1 x2 : Option S} {l : Dl} {y : Option S} {P : PEnds} {pe : PX} (h : pe (x0 :: x1 :: x2 :: y :: l) (fun d => P.nx (x0 :: x1 :: x2 :: some (.d d) :: l)) (P.ex (x0 :: x1 :: x2 :: y :: l))) : pAsg pe 3 P (x0 :: x1 :: x2 :: y :: l) := h
theorem w_as4 {x0 x1 x2 x3 : Option S} {l : Dl} {y : Option S} {P : PEnds} {pe : PX} (h : pe (x0 :: x1 :: x2 :: x3 :: y :: l) (fun d => P.nx (x0 :: x1 :: x2 :: x3 :: some (.d d) :: l)) (P.ex (x0 :: x1 :: x2 :: x3 :: y :: l))) : pAsg pe 4 P (x0 :: x1 :: x2 :: x3 :: y :: l) := h
theorem w_as5 {x0 x1 x2 x3 x4 : Option S} {l : Dl} {y : Option S} {P : PEnds} {pe : PX} (h : pe (x0 :: x1 :: x2 :: x3 :: x4 :: y :: l) (fun d => P.nx (x0 :: x1 :: x2 :: x3 :: x4 :: some (.d d) :: l)) (P.ex (x0 :: x1 :: x2 :: x3 :: x4 :: y :: l))) : pAsg pe 5 P (x0 :: x1 :: x2 :: x3 :: x4 :: y :: l) := h
theorem w_as6 {x0 x1 x2 x3 x4 x5 : Option S} {l : Dl} {y : Option S} {P : PEnds} {pe : PX} (h : pe (x0 :: x1 :: x2 :: x3 :: x4 :: x5 :: y :: l) (fun d => P.nx (x0 :: x1 :: x2 :: x3 :: x4 :: x5 :: some (.d d) :: l)) (P.ex (x0 :: x1 :: x2 :: x3 :: x4 :: x5 :: y :: l))) : pAsg pe 6 P (x0 :: x1 :: x2 :: x3 :: x4 :: x5 :: y :: l) := h
theorem w_as7 {x0 x1 x2 x3 x4 x5 x6 : Option S} {l : Dl} {y : Option S} {P : PEnds} {pe : PX} (h : pe (x0 :: x1 :: x2 :: x3 :: x4 :: x5 :: x6 :: y :: l) (fun d => P.nx (x0 :: x1 :: x2 :: x3 :: x4 :: x5 :: x6 :: some (.d d) :: l)) (P.ex (x0 :: x1 :: x2 :: x3 :: x4 :: x5 :: x6 :: y :: l))) : pAsg pe 7 P (x0 :: x1 :: x2 :: x3 :: x4 :: x5 :: x6 :: y :: l) := h
theorem w_as9 {x0 x1 x2 x3 x4 x5 x6 x7 x8 : Option S} {l : Dl} {y : Option S} {P : PEnds} {pe : PX} (h : pe (x0 :: x1 :: x2 :: x3 :: x4 :: x5 :: x6 :: x7 :: x8 :: y :: l) (fun d => P.nx (x0 :: x1 :: x2 :: x3 :: x4 :: x5 :: x6 :: x7 :: x8 :: some (.d d) :: l)) (P.ex (x0 :: x1 :: x2 :: x3 :: x4 :: x5 :: x6 :: x7 :: x8 :: y :: l))) : pAsg pe 9 P (x0 :: x1 :: x2 :: x3 :: x4 :: x5 :: x6 :: x7 :: x8 :: y :: l) := h
theorem w_as10 {x0 x1 x2 x3 x4 x5 x6 x7 x8 x9 : Option S} {l : Dl} {y : Option S} {P : PEnds} {pe : PX} (h : pe (x0 :: x1 :: x2 :: x3 :: x4 :: x5 :: x6 :: x7 :: x8 :: x9 :: y :: l) (fun d => P.nx (x0 :: x1 :: x2 :: x3 :: x4 :: x5 :: x6 :: x7 :: x8 :: x9 :: some (.d d) :: l)) (P.ex (x0 :: x1 :: x2 :: x3 :: x4 :: x5 :: x6 :: x7 :: x8 :: x9 :: y :: l))) : pAsg pe 10 P (x0 :: x1 :: x2 :: x3 :: x4 :: x5 :: x6 :: x7 :: x8 :: x9 :: y :: l) := h
theorem w_as11 {x0 x1 x2 x3 x4 x5 x6 x7 x8 x9 x10 : Option S} {l : Dl} {y : Option S} {P : PEnds} {pe : PX} (h : pe (x0 :: x1 :: x2 :: x3 :: x4 :: x5 :: x6 :: x7 :: x8 :: x9 :: x10 :: y :: l) (fun d => P.nx (x0 :: x1 :: x2 :: x3 :: x4 :: x5 :: x6 :: x7 :: x8 :: x9 :: x10 :: some (.d d) :: l)) (P.ex (x0 :: x1 :: x2 :: x3 :: x4 :: x5 :: x6 :: x7 :: x8 :: x9 :: x10 :: y :: l))) : pAsg pe 11 P (x0 :: x1 :: x2 :: x3 :: x4 :: x5 :: x6 :: x7 :: x8 :: x9 :: x10 :: y :: l) := h
theorem w_ao1 {x0 : Option S} {l : Dl} {y : Option S} {P : PEnds} {pe : PX} (h : pe (x0 :: y :: l) (aoK fun ds => P.nx (x0 :: some (.own none ds) :: l)) (P.ex (x0 :: y :: l))) : pAsgO pe 1 P (x0 :: y :: l) := h
theorem w_ao2 {x0 x1 : Option S} {l : Dl} {y : Option S} {P : PEnds} {pe : PX} (h : pe (x0 :: x1 :: y :: l) (aoK fun ds => P.nx (x0 :: x1 :: some (.own none ds) :: l)) (P.ex (x0 :: x1 :: y :: l))) : pAsgO pe 2 P (x0 :: x1 :: y :: l) := h
theorem w_ao3 {x0 x1 x2 : Option S} {l : Dl} {y : Option S} {P : PEnds} {pe : PX} (h : pe (x0 :: x1 :: x2 :: y :: l) (aoK fun ds => P.nx (x0 :: x1 :: x2 :: some (.own none ds) :: l)) (P.ex (x0 :: x1 :: x2 :: y :: l))) : pAsgO pe 3 P (x0 :: x1 :: x2 :: y :: l) := h
theorem w_ao4 {x0 x1 x2 x3 : Option S} {l : Dl} {y : Option S} {P : PEnds} {pe : PX} (h : pe (x0 :: x1 :: x2 :: x3 :: y :: l) (aoK fun ds => P.nx (x0 :: x1 :: x2 :: x3 :: some (.own none ds) :: l)) (P.ex (x0 :: x1 :: x2 :: x3 :: y :: l))) : pAsgO pe 4 P (x0 :: x1 :: x2 :: x3 :: y :: l) := h
theorem w_ao5 {x0 x1 x2 x3 x4 : Option S} {l : Dl} {y : Option S} {P : PEnds} {pe : PX} (h : pe (x0 :: x1 :: x2 :: x3 :: x4 :: y :: l) (aoK fun ds => P.nx (x0 :: x1 :: x2 :: x3 :: x4 :: some (.own none ds) :: l)) (P.ex (x0 :: x1 :: x2 :: x3 :: x4 :: y :: l))) : pAsgO pe 5 P (x0 :: x1 :: x2 :: x3 :: x4 :: y :: l) := h
theorem w_ao6 {x0 x1 x2 x3 x4 x5 : Option S} {l : Dl} {y : Option S} {P : PEnds} {pe : PX} (h : pe (x0 :: x1 :: x2 :: x3 :: x4 :: x5 :: y :: l) (aoK fun ds => P.nx (x0 :: x1 :: x2 :: x3 :: x4 :: x5 :: some (.own none ds) :: l)) (P.ex (x0 :: x1 :: x2 :: x3 :: x4 :: x5 :: y :: l))) : pAsgO pe 6 P (x0 :: x1 :: x2 :: x3 :: x4 :: x5 :: y :: l) := h
theorem w_fz1 {x0 : Option S} {l : Dl} {oa : Option Addr} {ds : List D} {P : PEnds} {ps : PSx} (h : ps P (x0 :: some (.d (.lst ds)) :: l)) : pFreeze 1 ps P (x0 :: some (.own oa ds) :: l) := h
theorem w_fz2 {x0 x1 : Option S} {l : Dl} {oa : Option Addr} {ds : List D} {P : PEnds} {ps : PSx} (h : ps P (x0 :: x1 :: some (.d (.lst ds)) :: l)) : pFreeze 2 ps P (x0 :: x1 :: some (.own oa ds) :: l) := h
theorem w_fz3 {x0 x1 x2 : Option S} {l : Dl} {oa : Option Addr} {ds : List D} {P : PEnds} {ps : PSx} (h : ps P (x0 :: x1 :: x2 :: some (.d (.lst ds)) :: l)) : pFreeze 3 ps P (x0 :: x1 :: x2 :: some (.own oa ds) :: l) := h
theorem w_fz4 {x0 x1 x2 x3 : Option S} {l : Dl} {oa : Option Addr} {ds : List D} {P : PEnds} {ps : PSx} (h : ps P (x0 :: x1 :: x2 :: x3 :: some (.d (.lst ds)) :: l)) : pFreeze 4 ps P (x0 :: x1 :: x2 :: x3 :: some (.own oa ds) :: l) := h
theorem w_fz5 {x0 x1 x2 x3 x4 : Option S} {l : Dl} {oa : Option Addr} {ds : List D} {P : PEnds} {ps : PSx} (h : ps P (x0 :: x1 :: x2 :: x3 :: x4 :: some (.d (.lst ds)) :: l)) : pFreeze 5 ps P (x0 :: x1 :: x2 :: x3 :: x4 :: some (.own oa ds) :: l) := h
theorem w_fz6 {x0 x1 x2 x3 x4 x5 : Option S} {l : Dl} {oa : Option Addr} {ds : List D} {P : PEnds} {ps : PSx} (h : ps P (x0 :: x1 :: x2 :: x3 :: x4 :: x5 :: some (.d (.lst ds)) :: l)) : pFreeze 6 ps P (x0 :: x1 :: x2 :: x3 :: x4 :: x5 :: some (.own oa ds) :: l) := h
theorem w_ap1 {x0 : Option S} {l : Dl} {oa : Option Addr} {ds : List D} {P : PEnds} {pe : PX} (h : pe (x0 :: some (.own oa ds) :: l) (appK ds fun es => P.nx (x0 :: some (.own oa es) :: l)) (P.ex (x0 :: some (.own oa ds) :: l))) : pApp 1 pe P (x0 :: some (.own oa ds) :: l) := h
theorem w_ap2 {x0 x1 : Option S} {l : Dl} {oa : Option Addr} {ds : List D} {P : PEnds} {pe : PX} (h : pe (x0 :: x1 :: some (.own oa ds) :: l) (appK ds fun es => P.nx (x0 :: x1 :: some (.own oa es) :: l)) (P.ex (x0 :: x1 :: some (.own oa ds) :: l))) : pApp 2 pe P (x0 :: x1 :: some (.own oa ds) :: l) := h
theorem w_ap4 {x0 x1 x2 x3 : Option S} {l : Dl} {oa : Option Addr} {ds : List D} {P : PEnds} {pe : PX} (h : pe (x0 :: x1 :: x2 :: x3 :: some (.own oa ds) :: l) (appK ds fun es => P.nx (x0 :: x1 :: x2 :: x3 :: some (.own oa es) :: l)) (P.ex (x0 :: x1 :: x2 :: x3 :: some (.own oa ds) :: l))) : pApp 4 pe P (x0 :: x1 :: x2 :: x3 :: some (.own oa ds) :: l) := h
theorem w_ap5 {x0 x1 x2 x3 x4 : Option S} {l : Dl} {oa : Option Addr} {ds : List D} {P : PEnds} {pe : PX} (h : pe (x0 :: x1 :: x2 :: x3 :: x4 :: some (.own oa ds) :: l) (appK ds fun es => P.nx (x0 :: x1 :: x2 :: x3 :: x4 :: some (.own oa es) :: l)) (P.ex (x0 :: x1 :: x2 :: x3 :: x4 :: some (.own oa ds) :: l))) : pApp 5 pe P (x0 :: x1 :: x2 :: x3 :: x4 :: some (.own oa ds) :: l) := h
theorem w_ap6 {x0 x1 x2 x3 x4 x5 : Option S} {l : Dl} {oa : Option Addr} {ds : List D} {P : PEnds} {pe : PX} (h : pe (x0 :: x1 :: x2 :: x3 :: x4 :: x5 :: some (.own oa ds) :: l) (appK ds fun es => P.nx (x0 :: x1 :: x2 :: x3 :: x4 :: x5 :: some (.own oa es) :: l)) (P.ex (x0 :: x1 :: x2 :: x3 :: x4 :: x5 :: some (.own oa ds) :: l))) : pApp 6 pe P (x0 :: x1 :: x2 :: x3 :: x4 :: x5 :: some (.own oa ds) :: l) := h
theorem w_ap9 {x0 x1 x2 x3 x4 x5 x6 x7 x8 : Option S} {l : Dl} {oa : Option Addr} {ds : List D} {P : PEnds} {pe : PX} (h : pe (x0 :: x1 :: x2 :: x3 :: x4 :: x5 :: x6 :: x7 :: x8 :: some (.own oa ds) :: l) (appK ds fun es => P.nx (x0 :: x1 :: x2 :: x3 :: x4 :: x5 :: x6 :: x7 :: x8 :: some (.own oa es) :: l)) (P.ex (x0 :: x1 :: x2 :: x3 :: x4 :: x5 :: x6 :: x7 :: x8 :: some (.own oa ds) :: l))) : pApp 9 pe P (x0 :: x1 :: x2 :: x3 :: x4 :: x5 :: x6 :: x7 :: x8 :: some (.own oa ds) :: l) := h
theorem w_in6 {x0 x1 x2 x3 x4 x5 : Option S} {l : Dl} {oa : Option Addr} {ds : List D} {P : PEnds} {pe : PX} {pk : PX} (h : pk (x0 :: x1 :: x2 :: x3 :: x4 :: x5 :: some (.own oa ds) :: l) (fun k => pe (x0 :: x1 :: x2 :: x3 :: x4 :: x5 :: some (.own oa ds) :: l) (insK ds (fun es => P.nx (x0 :: x1 :: x2 :: x3 :: x4 :: x5 :: some (.own oa es) :: l)) k) (P.ex (x0 :: x1 :: x2 :: x3 :: x4 :: x5 :: some (.own oa ds) :: l))) (P.ex (x0 :: x1 :: x2 :: x3 :: x4 :: x5 :: some (.own oa ds) :: l))) : pIns 6 pk pe P (x0 :: x1 :: x2 :: x3 :: x4 :: x5 :: some (.own oa ds) :: l) := w_insK rfl h
theorem w_si1 {x0 : Option S} {l : Dl} {oa : Option Addr} {ds : List D} {P : PEnds} {pe : PX} {pk : PX} (h : pe (x0 :: some (.own oa ds) :: l) (fun d => pk (x0 :: some (.own oa ds) :: l) (ixSet ds d fun es => P.nx (x0 :: some (.own oa es) :: l)) (P.ex (x0 :: some (.own oa ds) :: l))) (P.ex (x0 :: some (.own oa ds) :: l))) : pSetI 1 pk pe P (x0 :: some (.own oa ds) :: l) := w_setO rfl h
theorem w_si2 {x0 x1 : Option S} {l : Dl} {oa : Option Addr} {ds : List D} {P : PEnds} {pe : PX} {pk : PX} (h : pe (x0 :: x1 :: some (.own oa ds) :: l) (fun d => pk (x0 :: x1 :: some (.own oa ds) :: l) (ixSet ds d fun es => P.nx (x0 :: x1 :: some (.own oa es) :: l)) (P.ex (x0 :: x1 :: some (.own oa ds) :: l))) (P.ex (x0 :: x1 :: some (.own oa ds) :: l))) : pSetI 2 pk pe P (x0 :: x1 :: some (.own oa ds) :: l) := w_setO rfl h
theorem w_si3 {x0 x1 x2 : Option S} {l : Dl} {oa : Option Addr} {ds : List D} {P : PEnds} {pe : PX} {pk : PX} (h : pe (x0 :: x1 :: x2 :: some (.own oa ds) :: l) (fun d => pk (x0 :: x1 :: x2 :: some (.own oa ds) :: l) (ixSet ds d fun es => P.nx (x0 :: x1 :: x2 :: some (.own oa es) :: l)) (P.ex (x0 :: x1 :: x2 :: some (.own oa ds) :: l))) (P.ex (x0 :: x1 :: x2 :: some (.own oa ds) :: l))) : pSetI 3 pk pe P (x0 :: x1 :: x2 :: some (.own oa ds) :: l) := w_setO rfl h
theorem w_si4 {x0 x1 x2 x3 : Option S} {l : Dl} {oa : Option Addr} {ds : List D} {P : PEnds} {pe : PX} {pk : PX} (h : pe (x0 :: x1 :: x2 :: x3 :: some (.own oa ds) :: l) (fun d => pk (x0 :: x1 :: x2 :: x3 :: some (.own oa ds) :: l) (ixSet ds d fun es => P.nx (x0 :: x1 :: x2 :: x3 :: some (.own oa es) :: l)) (P.ex (x0 :: x1 :: x2 :: x3 :: some (.own oa ds) :: l))) (P.ex (x0 :: x1 :: x2 :: x3 :: some (.own oa ds) :: l))) : pSetI 4 pk pe P (x0 :: x1 :: x2 :: x3 :: some (.own oa ds) :: l) := w_setO rfl h
theorem w_si5 {x0 x1 x2 x3 x4 : Option S} {l : Dl} {oa : Option Addr} {ds : List D} {P : PEnds} {pe : PX} {pk : PX} (h : pe (x0 :: x1 :: x2 :: x3 :: x4 :: some (.own oa ds) :: l) (fun d => pk (x0 :: x1 :: x2 :: x3 :: x4 :: some (.own oa ds) :: l) (ixSet ds d fun es => P.nx (x0 :: x1 :: x2 :: x3 :: x4 :: some (.own oa es) :: l)) (P.ex (x0 :: x1 :: x2 :: x3 :: x4 :: some (.own oa ds) :: l))) (P.ex (x0 :: x1 :: x2 :: x3 :: x4 :: some (.own oa ds) :: l))) : pSetI 5 pk pe P (x0 :: x1 :: x2 :: x3 :: x4 :: some (.own oa ds) :: l) := w_setO rfl h
theorem w_pa5 {x0 x1 x2 x3 x4 : Option S} {l : Dl} {oa : Option Addr} {ds : List D} {P : PEnds} {pe : PX} (h : pe (x0 :: x1 :: x2 :: x3 :: x4 :: some (.own oa ds) :: l) (popK ds fun es => P.nx (x0 :: x1 :: x2 :: x3 :: x4 :: some (.own oa es) :: l)) (P.ex (x0 :: x1 :: x2 :: x3 :: x4 :: some (.own oa ds) :: l))) : pPopAt 5 pe P (x0 :: x1 :: x2 :: x3 :: x4 :: some (.own oa ds) :: l) := w_popK rfl h
theorem w_mu9 {x0 x1 x2 x3 x4 x5 x6 x7 x8 : Option S} {l : Dl} {oa : Option Addr} {ds : List D} {P : PEnds} {F : List D → Option (List D)} {es : List D} (e : F ds = some es) (h : P.nx (x0 :: x1 :: x2 :: x3 :: x4 :: x5 :: x6 :: x7 :: x8 :: some (.own oa es) :: l)) : pMut 9 F P (x0 :: x1 :: x2 :: x3 :: x4 :: x5 :: x6 :: x7 :: x8 :: some (.own oa ds) :: l) := by
  show (match F ds with | some es => _ | none => False)
  rw [e]
  exact h
theorem g_n2 {x0 x1 : Option S} {l : Dl} {y : Option S} {d : D} {K : Dl → Prop} (h : K (x0 :: x1 :: some (.d d) :: l)) : pgName 2 d (x0 :: x1 :: y :: l) K := h
theorem g_n3 {x0 x1 x2 : Option S} {l : Dl} {y : Option S} {d : D} {K : Dl → Prop} (h : K (x0 :: x1 :: x2 :: some (.d d) :: l)) : pgName 3 d (x0 :: x1 :: x2 :: y :: l) K := h
theorem g_n4 {x0 x1 x2 x3 : Option S} {l : Dl} {y : Option S} {d : D} {K : Dl → Prop} (h : K (x0 :: x1 :: x2 :: x3 :: some (.d d) :: l)) : pgName 4 d (x0 :: x1 :: x2 :: x3 :: y :: l) K := h
theorem g_n5 {x0 x1 x2 x3 x4 : Option S} {l : Dl} {y : Option S} {d : D} {K : Dl → Prop} (h : K (x0 :: x1 :: x2 :: x3 :: x4 :: some (.d d) :: l)) : pgName 5 d (x0 :: x1 :: x2 :: x3 :: x4 :: y :: l) K := h
theorem g_n6 {x0 x1 x2 x3 x4 x5 : Option S} {l : Dl} {y : Option S} {d : D} {K : Dl → Prop} (h : K (x0 :: x1 :: x2 :: x3 :: x4 :: x5 :: some (.d d) :: l)) : pgName 6 d (x0 :: x1 :: x2 :: x3 :: x4 :: x5 :: y :: l) K := h
theorem g_n7 {x0 x1 x2 x3 x4 x5 x6 : Option S} {l : Dl} {y : Option S} {d : D} {K : Dl → Prop} (h : K (x0 :: x1 :: x2 :: x3 :: x4 :: x5 :: x6 :: some (.d d) :: l)) : pgName 7 d (x0 :: x1 :: x2 :: x3 :: x4 :: x5 :: x6 :: y :: l) K := h
theorem g_n8 {x0 x1 x2 x3 x4 x5 x6 x7 : Option S} {l : Dl} {y : Option S} {d : D} {K : Dl → Prop} (h : K (x0 :: x1 :: x2 :: x3 :: x4 :: x5 :: x6 :: x7 :: some (.d d) :: l)) : pgName 8 d (x0 :: x1 :: x2 :: x3 :: x4 :: x5 :: x6 :: x7 :: y :: l) K := h
theorem g_n9 {x0 x1 x2 x3 x4 x5 x6 x7 x8 : Option S} {l : Dl} {y : Option S} {d : D} {K : Dl → Prop} (h : K (x0 :: x1 :: x2 :: x3 :: x4 :: x5 :: x6 :: x7 :: x8 :: some (.d d) :: l)) : pgName 9 d (x0 :: x1 :: x2 :: x3 :: x4 :: x5 :: x6 :: x7 :: x8 :: y :: l) K := h
theorem g_n11 {x0 x1 x2 x3 x4 x5 x6 x7 x8 x9 x10 : Option S} {l : Dl} {y : Option S} {d : D} {K : Dl → Prop} (h : K (x0 :: x1 :: x2 :: x3 :: x4 :: x5 :: x6 :: x7 :: x8 :: x9 :: x10 :: some (.d d) :: l)) : pgName 11 d (x0 :: x1 :: x2 :: x3 :: x4 :: x5 :: x6 :: x7 :: x8 :: x9 :: x10 :: y :: l) K := h
theorem g_n12 {x0 x1 x2 x3 x4 x5 x6 x7 x8 x9 x10 x11 : Option S} {l : Dl} {y : Option S} {d : D} {K : Dl → Prop} (h : K (x0 :: x1 :: x2 :: x3 :: x4 :: x5 :: x6 :: x7 :: x8 :: x9 :: x10 :: x11 :: some (.d d) :: l)) : pgName 12 d (x0 :: x1 :: x2 :: x3 :: x4 :: x5 :: x6 :: x7 :: x8 :: x9 :: x10 :: x11 :: y :: l) K := h
theorem gen_d1 {x0 : Option S} {l : Dl} {α : Type} {a : α} {k : α → Prop} {N : Dl → Prop} (f : α → D) (h : bnd a k) (hk : ∀ x, k x → N (x0 :: some (.d (f x)) :: l)) : N (x0 :: some (.d (f a)) :: l) := hk a h
theorem gen_d2 {x0 x1 : Option S} {l : Dl} {α : Type} {a : α} {k : α → Prop} {N : Dl → Prop} (f : α → D) (h : bnd a k) (hk : ∀ x, k x → N (x0 :: x1 :: some (.d (f x)) :: l)) : N (x0 :: x1 :: some (.d (f a)) :: l) := hk a h
theorem gen_d3 {x0 x1 x2 : Option S} {l : Dl} {α : Type} {a : α} {k : α → Prop} {N : Dl → Prop} (f : α → D) (h : bnd a k) (hk : ∀ x, k x → N (x0 :: x1 :: x2 :: some (.d (f x)) :: l)) : N (x0 :: x1 :: x2 :: some (.d (f a)) :: l) := hk a h
theorem gen_d4 {x0 x1 x2 x3 : Option S} {l : Dl} {α : Type} {a : α} {k : α → Prop} {N : Dl → Prop} (f : α → D) (h : bnd a k) (hk : ∀ x, k x → N (x0 :: x1 :: x2 :: x3 :: some (.d (f x)) :: l)) : N (x0 :: x1 :: x2 :: x3 :: some (.d (f a)) :: l) := hk a h
theorem gen_d5 {x0 x1 x2 x3 x4 : Option S} {l : Dl} {α : Type} {a : α} {k : α → Prop} {N : Dl → Prop} (f : α → D) (h : bnd a k) (hk : ∀ x, k x → N (x0 :: x1 :: x2 :: x3 :: x4 :: some (.d (f x)) :: l)) : N (x0 :: x1 :: x2 :: x3 :: x4 :: some (.d (f a)) :: l) := hk a h
theorem gen_d6 {x0 x1 x2 x3 x4 x5 : Option S} {l : Dl} {α : Type} {a : α} {k : α → Prop} {N : Dl → Prop} (f : α → D) (h : bnd a k) (hk : ∀ x, k x → N (x0 :: x1 :: x2 :: x3 :: x4 :: x5 :: some (.d (f x)) :: l)) : N (x0 :: x1 :: x2 :: x3 :: x4 :: x5 :: some (.d (f a)) :: l) := hk a h
theorem gen_d7 {x0 x1 x2 x3 x4 x5 x6 : Option S} {l : Dl} {α : Type} {a : α} {k : α → Prop} {N : Dl → Prop} (f : α → D) (h : bnd a k) (hk : ∀ x, k x → N (x0 :: x1 :: x2 :: x3 :: x4 :: x5 :: x6 :: some (.d (f x)) :: l)) : N (x0 :: x1 :: x2 :: x3 :: x4 :: x5 :: x6 :: some (.d (f a)) :: l) := hk a h
theorem gen_d9 {x0 x1 x2 x3 x4 x5 x6 x7 x8 : Option S} {l : Dl} {α : Type} {a : α} {k : α → Prop} {N : Dl → Prop} (f : α → D) (h : bnd a k) (hk : ∀ x, k x → N (x0 :: x1 :: x2 :: x3 :: x4 :: x5 :: x6 :: x7 :: x8 :: some (.d (f x)) :: l)) : N (x0 :: x1 :: x2 :: x3 :: x4 :: x5 :: x6 :: x7 :: x8 :: some (.d (f a)) :: l) := hk a h
theorem gen_d10 {x0 x1 x2 x3 x4 x5 x6 x7 x8 x9 : Option S} {l : Dl} {α : Type} {a : α} {k : α → Prop} {N : Dl → Prop} (f : α → D) (h : bnd a k) (hk : ∀ x, k x → N (x0 :: x1 :: x2 :: x3 :: x4 :: x5 :: x6 :: x7 :: x8 :: x9 :: some (.d (f x)) :: l)) : N (x0 :: x1 :: x2 :: x3 :: x4 :: x5 :: x6 :: x7 :: x8 :: x9 :: some (.d (f a)) :: l) := hk a h
theorem gen_d11 {x0 x1 x2 x3 x4 x5 x6 x7 x8 x9 x10 : Option S} {l : Dl} {α : Type} {a : α} {k : α → Prop} {N : Dl → Prop} (f : α → D) (h : bnd a k) (hk : ∀ x, k x → N (x0 :: x1 :: x2 :: x3 :: x4 :: x5 :: x6 :: x7 :: x8 :: x9 :: x10 :: some (.d (f x)) :: l)) : N (x0 :: x1 :: x2 :: x3 :: x4 :: x5 :: x6 :: x7 :: x8 :: x9 :: x10 :: some (.d (f a)) :: l) := hk a h
theorem gen_o2 {x0 x1 : Option S} {l : Dl} {α : Type} {oa : Option Addr} {a : List α} {k : List α → Prop} {N : Dl → Prop} (f : α → D) (h : bnd a k) (hk : ∀ x, k x → N (x0 :: x1 :: some (.own oa (List.map f x)) :: l)) : N (x0 :: x1 :: some (.own oa (List.map f a)) :: l) := hk a h
theorem gen_o3 {x0 x1 x2 : Option S} {l : Dl} {α : Type} {oa : Option Addr} {a : List α} {k : List α → Prop} {N : Dl → Prop} (f : α → D) (h : bnd a k) (hk : ∀ x, k x → N (x0 :: x1 :: x2 :: some (.own oa (List.map f x)) :: l)) : N (x0 :: x1 :: x2 :: some (.own oa (List.map f a)) :: l) := hk a h
theorem gen_o5 {x0 x1 x2 x3 x4 : Option S} {l : Dl} {α : Type} {oa : Option Addr} {a : List α} {k : List α → Prop} {N : Dl → Prop} (f : α → D) (h : bnd a k) (hk : ∀ x, k x → N (x0 :: x1 :: x2 :: x3 :: x4 :: some (.own oa (List.map f x)) :: l)) : N (x0 :: x1 :: x2 :: x3 :: x4 :: some (.own oa (List.map f a)) :: l) := hk a h
theorem gen_o6 {x0 x1 x2 x3 x4 x5 : Option S} {l : Dl} {α : Type} {oa : Option Addr} {a : List α} {k : List α → Prop} {N : Dl → Prop} (f : α → D) (h : bnd a k) (hk : ∀ x, k x → N (x0 :: x1 :: x2 :: x3 :: x4 :: x5 :: some (.own oa (List.map f x)) :: l)) : N (x0 :: x1 :: x2 :: x3 :: x4 :: x5 :: some (.own oa (List.map f a)) :: l) := hk a h
theorem e_xm2 {x0 x1 : Option S} {l : Dl} {a : Addr} {cls : Value} {dx : Option Addr} {e : Exn} {tbl : List (Nat × Nat)} {j : Nat} {x : D} {Q : D → Prop} {Q2 : Exn → Prop} (h1 : tbl.lookup e.c = some j) (h2 : e.ds[j]? = some x) (q : Q x) : pXm a cls dx 2 tbl (x0 :: x1 :: some (.exc a cls dx e) :: l) Q Q2 := e_xm rfl h1 h2 q
theorem e_ix2 {x0 x1 : Option S} {l : Dl} {a : Addr} {cls : Value} {dx : Option Addr} {e : Exn} {f : Nat → Option Bool} {b : Bool} {Q : D → Prop} {Q2 : Exn → Prop} (h1 : f e.c = some b) (q : Q (.bl b)) : pIsX a cls dx 2 f (x0 :: x1 :: some (.exc a cls dx e) :: l) Q Q2 := e_isX rfl h1 q
theorem w_amp4_3 {x0 x1 x2 : Option S} {l : Dl} {oa ob : Option Addr} {ds es : List D} {P : PEnds} {pe : PX} (h : pe (x0 :: x1 :: x2 :: some (.own ob es) :: some (.own oa ds) :: l) (popMK es fun x es1 => appK ds (fun ds1 => P.nx (x0 :: x1 :: x2 :: some (.own ob es1) :: some (.own oa ds1) :: l)) x) (P.ex (x0 :: x1 :: x2 :: some (.own ob es) :: some (.own oa ds) :: l))) : pAppM 4 (pmPop 3 pe) P (x0 :: x1 :: x2 :: some (.own ob es) :: some (.own oa ds) :: l) := h
end Pu
set_option Elab.async false
set_option linter.all false
set_option maxRecDepth 100000
set_option maxHeartbeats 8000000
set_option autoImplicit false
namespace Pu
open PySem PySem.Spec PyProof.Rows L2
def top (i : Nat) : Stmt := PySem.Challenge.pw_outagain_k18_crews_seen.main.body.getD i (.Pass ⟨0, 0, 0, 0⟩)
abbrev s__law_take : Stmt := (top 35)
abbrev s__law_depot : Stmt := (top 37)
abbrev s__law_changed : Stmt := (top 43)
abbrev s__law_choose : Stmt := (top 39)
abbrev s__law_great : Stmt := (top 36)
abbrev s__law_span : Stmt := (top 41)
abbrev s__law_gone : Stmt := (top 40)
abbrev s__law_here : Stmt := (top 38)
abbrev s__law_book : Stmt := (top 42)
abbrev s__law_case : Stmt := (top 44)
abbrev s_check_period_and_quota : Stmt := (top 17)
abbrev s_check_firsts : Stmt := (top 18)
abbrev s_DepotU_initU : Stmt := (inClass (top 16) 2)
abbrev s__law_pool : Stmt := (top 34)
abbrev s_ascending : Stmt := (top 11)
abbrev s_check_stretches : Stmt := (top 30)
abbrev s_join_neighbours : Stmt := (top 13)
abbrev s_BookU_initU : Stmt := (inClass (top 29) 0)
abbrev s_AfterU_initU : Stmt := (inClass (top 20) 0)
abbrev s_Depot_size : Stmt := (inClass (top 16) 4)
abbrev s_check_runners : Stmt := (top 22)
abbrev s_long_runs : Stmt := (top 23)
abbrev s_walk : Stmt := (top 21)
abbrev s_check_days : Stmt := (top 10)
abbrev s_Depot_closings : Stmt := (inClass (top 16) 7)
abbrev s_crews_seen : Stmt := (top 25)
abbrev s__law_ask : Stmt := (top 48)
abbrev s__law_number : Stmt := (top 32)
abbrev s__law_same : Stmt := (top 33)
abbrev s__law_joined : Stmt := (top 45)
abbrev s__law_closings_in : Stmt := (top 46)
abbrev s__law_due : Stmt := (top 47)
abbrev s_law : Stmt := (top 49)
abbrev s_BadDepotU_initU : Stmt := (inClass (top 4) 0)
abbrev s_BadBookU_initU : Stmt := (inClass (top 5) 0)
abbrev s_OutOfRangeU_initU : Stmt := (inClass (top 3) 0)
theorem sc__law_take : FnScope ["pool", "limit", "cell", "got", "k", "mixed"] ["pool", "limit"] (defScope s__law_take) := ⟨rfl, rfl, rfl, by decide +kernel, rfl, by decide +kernel, by decide +kernel⟩
theorem sc__law_depot : FnScope ["pool", "drivers", "period", "m", "n", "q", "firsts", "k"] ["pool", "drivers", "period"] (defScope s__law_depot) := ⟨rfl, rfl, rfl, by decide +kernel, rfl, by decide +kernel, by decide +kernel⟩
theorem sc__law_changed : FnScope ["pool", "plan", "rows", "got", "k", "crew", "way", "at"] ["pool", "plan", "rows"] (defScope s__law_changed) := ⟨rfl, rfl, rfl, by decide +kernel, rfl, by decide +kernel, by decide +kernel⟩
theorem sc__law_choose : FnScope ["pool", "here", "many", "rest", "got", "k"] ["pool", "here", "many"] (defScope s__law_choose) := ⟨rfl, rfl, rfl, by decide +kernel, rfl, by decide +kernel, by decide +kernel⟩
theorem sc__law_great : FnScope ["pool", "most", "way", "got", "k"] ["pool", "most"] (defScope s__law_great) := ⟨rfl, rfl, rfl, by decide +kernel, rfl, by decide +kernel, by decide +kernel⟩
theorem sc__law_span : FnScope ["pool", "great", "way"] ["pool", "great"] (defScope s__law_span) := ⟨rfl, rfl, rfl, by decide +kernel, rfl, by decide +kernel, by decide +kernel⟩
theorem sc__law_gone : FnScope ["nexts", "crew", "span", "start", "m", "row", "i", "u"] ["nexts", "crew", "span", "start", "m"] (defScope s__law_gone) := ⟨rfl, rfl, rfl, by decide +kernel, rfl, by decide +kernel, by decide +kernel⟩
theorem sc__law_here : FnScope ["nexts", "morning", "i"] ["nexts", "morning"] (defScope s__law_here) := ⟨rfl, rfl, rfl, by decide +kernel, rfl, by decide +kernel, by decide +kernel⟩
theorem sc__law_book : FnScope ["pool", "plan", "many", "great", "nexts", "counts", "rows", "start", "k", "crew", "span", "i"] ["pool", "plan", "many", "great"] (defScope s__law_book) := ⟨rfl, rfl, rfl, by decide +kernel, rfl, by decide +kernel, by decide +kernel⟩
theorem sc__law_case : FnScope ["pool", "plan", "books", "k", "many"] ["pool"] (defScope s__law_case) := ⟨rfl, rfl, rfl, by decide +kernel, rfl, by decide +kernel, by decide +kernel⟩
theorem sc_check_period_and_quota : FnScope ["period", "quota"] ["period", "quota"] (defScope s_check_period_and_quota) := ⟨rfl, rfl, rfl, by decide +kernel, rfl, by decide +kernel, by decide +kernel⟩
theorem sc_check_firsts : FnScope ["period", "quota", "firsts", "driver", "first", "ones"] ["period", "quota", "firsts"] (defScope s_check_firsts) := ⟨rfl, rfl, rfl, by decide +kernel, rfl, by decide +kernel, by decide +kernel⟩
theorem sc_DepotU_initU : FnScope ["self", "period", "quota", "firsts"] ["self", "period", "quota", "firsts"] (defScope s_DepotU_initU) := ⟨rfl, rfl, rfl, by decide +kernel, rfl, by decide +kernel, by decide +kernel⟩
theorem sc__law_pool : FnScope ["script"] ["script"] (defScope s__law_pool) := ⟨rfl, rfl, rfl, by decide +kernel, rfl, by decide +kernel, by decide +kernel⟩
theorem sc_ascending : FnScope ["drivers", "size", "least", "driver"] ["drivers", "size"] (defScope s_ascending) := ⟨rfl, rfl, rfl, by decide +kernel, rfl, by decide +kernel, by decide +kernel⟩
theorem sc_check_stretches : FnScope ["stretches", "total", "at", "days", "runners"] ["stretches"] (defScope s_check_stretches) := ⟨rfl, rfl, rfl, by decide +kernel, rfl, by decide +kernel, by decide +kernel⟩
theorem sc_join_neighbours : FnScope ["pairs", "rows", "many", "what"] ["pairs"] (defScope s_join_neighbours) := ⟨rfl, rfl, rfl, by decide +kernel, rfl, by decide +kernel, by decide +kernel⟩
theorem sc_BookU_initU : FnScope ["self", "stretches", "days", "runners", "_"] ["self", "stretches"] (defScope s_BookU_initU) := ⟨rfl, rfl, rfl, by decide +kernel, rfl, by decide +kernel, by decide +kernel⟩
theorem sc_AfterU_initU : FnScope ["self", "depot", "days", "passes", "longs", "nexts"] ["self", "depot", "days", "passes", "longs", "nexts"] (defScope s_AfterU_initU) := ⟨rfl, rfl, rfl, by decide +kernel, rfl, by decide +kernel, by decide +kernel⟩
theorem sc_Depot_size : FnScope ["self"] ["self"] (defScope s_Depot_size) := ⟨rfl, rfl, rfl, by decide +kernel, rfl, by decide +kernel, by decide +kernel⟩
theorem sc_check_runners : FnScope ["depot", "at", "runners", "nexts", "morning", "driver"] ["depot", "at", "runners", "nexts", "morning"] (defScope s_check_runners) := ⟨rfl, rfl, rfl, by decide +kernel, rfl, by decide +kernel, by decide +kernel⟩
theorem sc_long_runs : FnScope ["depot", "morning", "behind"] ["depot", "morning", "behind"] (defScope s_long_runs) := ⟨rfl, rfl, rfl, by decide +kernel, rfl, by decide +kernel, by decide +kernel⟩
theorem sc_walk : FnScope ["depot", "book", "passes", "longs", "nexts", "behind", "at", "days", "runners", "driver", "runs"] ["depot", "book"] (defScope s_walk) := ⟨rfl, rfl, rfl, by decide +kernel, rfl, by decide +kernel, by decide +kernel⟩
theorem sc_check_days : FnScope ["days"] ["days"] (defScope s_check_days) := ⟨rfl, rfl, rfl, by decide +kernel, rfl, by decide +kernel, by decide +kernel⟩
theorem sc_Depot_closings : FnScope ["self", "days"] ["self", "days"] (defScope s_Depot_closings) := ⟨rfl, rfl, rfl, by decide +kernel, rfl, by decide +kernel, by decide +kernel⟩
theorem sc_crews_seen : FnScope ["depot", "book", "rows", "days", "many", "runners", "times"] ["depot", "book"] (defScope s_crews_seen) := ⟨rfl, rfl, rfl, by decide +kernel, rfl, by decide +kernel, by decide +kernel⟩
theorem sc__law_ask : FnScope ["depot", "book", "e", "kin", "strange"] ["depot", "book"] (defScope s__law_ask) := ⟨rfl, rfl, rfl, by decide +kernel, rfl, by decide +kernel, by decide +kernel⟩
theorem sc__law_number : FnScope ["got"] ["got"] (defScope s__law_number) := ⟨rfl, rfl, rfl, by decide +kernel, rfl, by decide +kernel, by decide +kernel⟩
theorem sc__law_same : FnScope ["got", "due", "k"] ["got", "due"] (defScope s__law_same) := ⟨rfl, rfl, rfl, by decide +kernel, rfl, by decide +kernel, by decide +kernel⟩
theorem sc__law_joined : FnScope ["rows", "got", "row"] ["rows"] (defScope s__law_joined) := ⟨rfl, rfl, rfl, by decide +kernel, rfl, by decide +kernel, by decide +kernel⟩
theorem sc__law_closings_in : FnScope ["start", "end", "m", "first"] ["start", "end", "m"] (defScope s__law_closings_in) := ⟨rfl, rfl, rfl, by decide +kernel, rfl, by decide +kernel, by decide +kernel⟩
theorem sc__law_due : FnScope ["plan", "rows", "nexts", "start", "got", "joined", "k", "crew", "i", "times"] ["plan", "rows"] (defScope s__law_due) := ⟨rfl, rfl, rfl, by decide +kernel, rfl, by decide +kernel, by decide +kernel⟩
theorem sc_law : FnScope ["script", "case", "plan", "depot", "books", "row", "rows", "k", "answer", "crews", "m", "there", "first"] ["script"] (defScope s_law) := ⟨rfl, rfl, rfl, by decide +kernel, rfl, by decide +kernel, by decide +kernel⟩
theorem sc_BadDepotU_initU : FnScope ["self", "at", "code"] ["self", "at", "code"] (defScope s_BadDepotU_initU) := ⟨rfl, rfl, rfl, by decide +kernel, rfl, by decide +kernel, by decide +kernel⟩
theorem sc_BadBookU_initU : FnScope ["self", "at", "code"] ["self", "at", "code"] (defScope s_BadBookU_initU) := ⟨rfl, rfl, rfl, by decide +kernel, rfl, by decide +kernel, by decide +kernel⟩
theorem sc_OutOfRangeU_initU : FnScope ["self", "at", "code"] ["self", "at", "code"] (defScope s_OutOfRangeU_initU) := ⟨rfl, rfl, rfl, by decide +kernel, rfl, by decide +kernel, by decide +kernel⟩
theorem bb_ValueError : bootBuiltins "ValueError" = some (.type "ValueError") := by decide +kernel
theorem bb_abs : bootBuiltins "abs" = some (.builtin "abs") := by decide +kernel
theorem bb_bool : bootBuiltins "bool" = some (.type "bool") := by decide +kernel
theorem bb_int : bootBuiltins "int" = some (.type "int") := by decide +kernel
theorem bb_isinstance : bootBuiltins "isinstance" = some (.builtin "isinstance") := by decide +kernel
theorem bb_len : bootBuiltins "len" = some (.builtin "len") := by decide +kernel
theorem bb_list : bootBuiltins "list" = some (.type "list") := by decide +kernel
theorem bb_min : bootBuiltins "min" = some (.builtin "min") := by decide +kernel
theorem bb_set : bootBuiltins "set" = some (.type "set") := by decide +kernel
theorem bb_sorted : bootBuiltins "sorted" = some (.builtin "sorted") := by decide +kernel
theorem bb_str : bootBuiltins "str" = some (.type "str") := by decide +kernel
theorem bb_sum : bootBuiltins "sum" = some (.builtin "sum") := by decide +kernel
theorem bb_tuple : bootBuiltins "tuple" = some (.type "tuple") := by decide +kernel
def c_BadBook : Nat → Option Bool
  | 21 => some false | 22 => some false | 23 => some true | 26 => some false | 32 => some false
  | _ => none
def f_BadCrews : Nat → Option Bool
  | 21 => some false | 22 => some false | 23 => some false | 26 => some true | 32 => some false
  | _ => none
def f_BadDepot : Nat → Option Bool
  | 21 => some false | 22 => some true | 23 => some false | 26 => some false | 32 => some false
  | _ => none
def f_NoBook : Nat → Option Bool
  | 21 => some false | 22 => some false | 23 => some false | 26 => some false | 32 => some true
  | _ => none
def f_OutOfRange : Nat → Option Bool
  | 21 => some true | 22 => some false | 23 => some false | 26 => some false | 32 => some false
  | _ => none
def f_OutagainError : Nat → Option Bool
  | 21 => some true | 22 => some true | 23 => some true | 26 => some true | 32 => some true
  | _ => none
def f_ValueError : Nat → Option Bool
  | 21 => some true | 22 => some true | 23 => some true | 26 => some true | 32 => some true
  | _ => none
def b__law_take : PSx :=
 (pSeq (pIf (pAndT (pTst (pOp fEq (pOp fIx (pVarV 0) (pC (.int 0))) (pC (.int 0)))) (pTst (pOp fLt (pOp fIx (pVarV 0) (pC (.int 3))) (pCB fLen (pCons (pOp fIx (pVarV 0) (pC (.int 4))) pNil))))) (pSeq (pAsg (pCB fAbs (pCons (pOp fIx (pOp fIx (pVarV 0) (pC (.int 4))) (pOp fIx (pVarV 0) (pC (.int 3)))) pNil)) 2)
 (pSeq (pSetI 0 (pC (.int 3)) (pOp fAdd (pOp fIx (pVarV 0) (pC (.int 3))) (pC (.int 1))))
 (pIf (pTst (pOp fGe (pVar 2) (pOp fPow (pC (.int 10)) (pC (.int 18))))) (pSetI 0 (pC (.int 0)) (pVar 2)) (pSetI 0 (pC (.int 1)) (pOp fMod (pCB fInt (pCons (pOp fAdd (pOp fAdd (pOp fMul (pOp fIx (pVarV 0) (pC (.int 1))) (pC (.int 48271))) (pVar 2)) (pC (.int 1))) pNil)) (pC (.int 2147483399))))))) pNext)
 (pSeq (pIf (pTst (pOp fGt (pOp fIx (pVarV 0) (pC (.int 0))) (pC (.int 0)))) (pSeq (pAsg (pOp fMod (pCB fInt (pCons (pOp fIx (pVarV 0) (pC (.int 0))) pNil)) (pVar 1)) 3)
 (pSeq (pSetI 0 (pC (.int 0)) (pOp fDiv (pOp fIx (pVarV 0) (pC (.int 0))) (pVar 1)))
 (pRet (pVar 3)))) pNext)
 (pSeq (pAsg (pOp fAdd (pOp fIx (pVarV 0) (pC (.int 2))) (pC (.int 1))) 4)
 (pSeq (pSetI 0 (pC (.int 2)) (pVar 4))
 (pSeq (pAsg (pOp fIx (pVarV 0) (pC (.int 1))) 5)
 (pSeq (pAsg (pOp fMod (pCB fInt (pCons (pOp fAdd (pOp fAdd (pOp fMul (pVar 5) (pVar 5)) (pOp fMul (pVar 4) (pC (.int 3571)))) (pC (.int 40692))) pNil)) (pC (.int 2147483399))) 5)
 (pSeq (pAsg (pOp fMod (pCB fInt (pCons (pOp fAdd (pOp fMul (pVar 5) (pVar 5)) (pOp fDiv (pVar 5) (pC (.int 97)))) pNil)) (pC (.int 2147483629))) 5)
 (pSeq (pSetI 0 (pC (.int 1)) (pVar 5))
 (pRet (pOp fMod (pCB fInt (pCons (pOp fDiv (pVar 5) (pC (.int 8))) pNil)) (pVar 1)))))))))))
def w__law_take : PSp := wpPl 6 b__law_take
def b__law_depot : PSx :=
 (pSeq (pAsg (pOp fAdd (pC (.int 1)) (pCall w__law_take (pCons (pVar 0) (pCons (pVar 2) pNil)))) 3)
 (pSeq (pAsg (pOp fAdd (pC (.int 1)) (pCall w__law_take (pCons (pVar 0) (pCons (pVar 1) pNil)))) 4)
 (pSeq (pAsg (pOp fAdd (pC (.int 1)) (pCall w__law_take (pCons (pVar 0) (pCons (pVar 4) pNil)))) 5)
 (pSeq (pIf (pTst (pOp fGt (pCall w__law_take (pCons (pVar 0) (pCons (pC (.int 3)) pNil))) (pC (.int 0)))) (pAsg (pOp fAdd (pC (.int 1)) (pCall w__law_take (pCons (pVar 0) (pCons (pCB fMin2 (pCons (pVar 4) (pCons (pC (.int 2)) pNil))) pNil)))) 5) pNext)
 (pSeq (pAsgO (pOp fRep (pLst (pCons (pC (.int 1)) pNil)) (pVar 5)) 6)
 (pSeq (pFor (pRange1 (pOp fSub (pVar 4) (pVar 5))) (pgName 7) (pIns 6 (pCall w__law_take (pCons (pVar 0) (pCons (pOp fAdd (pCB fLen (pCons (pVarV 6) pNil)) (pC (.int 1))) pNil))) (pOp fAdd (pC (.int 1)) (pCall w__law_take (pCons (pVar 0) (pCons (pVar 3) pNil))))))
 (pFreeze 6 (pRet (pLst (pCons (pVar 3) (pCons (pVar 5) (pCons (pVar 6) pNil))))))))))))
def w__law_depot : PSp := wpB 8 b__law_depot
def b__law_changed : PSx :=
 (pSeq (pAsgO (pCB fList (pCons (pVar 2) pNil)) 3)
 (pSeq (pIf (pTst (pOp fEq (pVarV 3) (pLst pNil))) (pRet (pLst (pCons (pTup (pCons (pC (.int 1)) (pCons (pTup (pCons (pCall w__law_take (pCons (pVar 0) (pCons (pC (.int 12)) pNil))) pNil)) pNil))) pNil))) pNext)
 (pSeq (pAsg (pCall w__law_take (pCons (pVar 0) (pCons (pCB fLen (pCons (pVarV 3) pNil)) pNil))) 4)
 (pSeq (pAsgO (pCB fList (pCons (pOp fIx (pOp fIx (pVarV 3) (pVar 4)) (pC (.int 1))) pNil)) 5)
 (pSeq (pAsg (pCall w__law_take (pCons (pVar 0) (pCons (pC (.int 6)) pNil))) 6)
 (pSeq (pIf (pTst (pOp fEq (pVar 6) (pC (.int 0)))) (pPopAt 5 (pCall w__law_take (pCons (pVar 0) (pCons (pCB fLen (pCons (pVarV 5) pNil)) pNil)))) pNext)
 (pSeq (pIf (pTst (pOp fEq (pVar 6) (pC (.int 1)))) (pApp 5 (pCall w__law_take (pCons (pVar 0) (pCons (pC (.int 12)) pNil)))) pNext)
 (pSeq (pIf (pOrT (pTst (pOp fEq (pVar 6) (pC (.int 2)))) (pTst (pOp fEq (pVar 6) (pC (.int 3))))) (pSetI 5 (pCall w__law_take (pCons (pVar 0) (pCons (pCB fLen (pCons (pVarV 5) pNil)) pNil))) (pCall w__law_take (pCons (pVar 0) (pCons (pCB fLen (pCons (pOp fIx (pVar 1) (pC (.int 2))) pNil)) pNil)))) pNext)
 (pSeq (pIf (pTst (pOp fEq (pVar 6) (pC (.int 4)))) (pSetI 5 (pCall w__law_take (pCons (pVar 0) (pCons (pCB fLen (pCons (pVarV 5) pNil)) pNil))) (pCall w__law_take (pCons (pVar 0) (pCons (pC (.int 12)) pNil)))) pNext)
 (pSeq (pIf (pTst (pOp fEq (pVar 6) (pC (.int 5)))) (pSeq (pAsg (pCall w__law_take (pCons (pVar 0) (pCons (pCB fLen (pCons (pVarV 3) pNil)) pNil))) 7)
 (pSeq (pAsgO (pCB fList (pCons (pOp fIx (pOp fIx (pVarV 3) (pVar 7)) (pC (.int 1))) pNil)) 5)
 (pSetI 3 (pVar 7) (pTup (pCons (pOp fIx (pOp fIx (pVarV 3) (pVar 7)) (pC (.int 0))) (pCons (pOp fIx (pOp fIx (pVarV 3) (pVar 4)) (pC (.int 1))) pNil)))))) pNext)
 (pSeq (pFreeze 5 (pSetI 3 (pVar 4) (pTup (pCons (pOp fIx (pOp fIx (pVarV 3) (pVar 4)) (pC (.int 0))) (pCons (pCB fTuple (pCons (pCB fSrtSet (pCons (pVarV 5) pNil)) pNil)) pNil)))))
 (pFreeze 3 (pRet (pVar 3))))))))))))))
def w__law_changed : PSp := wpB 8 b__law_changed
def b__law_choose : PSx :=
 (pSeq (pAsgO (pCB fList (pCons (pVar 1) pNil)) 3)
 (pSeq (pAsgO (pLst pNil) 4)
 (pSeq (pFor (pRange1 (pVar 2)) (pgName 5) (pAppM 4 (pmPop 3 (pCall w__law_take (pCons (pVar 0) (pCons (pCB fLen (pCons (pVarV 3) pNil)) pNil))))))
 (pRet (pCB fSortI (pCons (pVarV 4) pNil))))))
def w__law_choose : PSp := wpB 6 b__law_choose
def b__law_great : PSx :=
 (pSeq (pAsg (pCall w__law_take (pCons (pVar 0) (pCons (pC (.int 4)) pNil))) 2)
 (pSeq (pIf (pTst (pOp fLt (pVar 2) (pC (.int 2)))) (pRet (pCB fMin2 (pCons (pVar 1) (pCons (pCall w__law_take (pCons (pVar 0) (pCons (pC (.int 40)) pNil))) pNil)))) pNext)
 (pSeq (pIf (pTst (pOp fEq (pVar 2) (pC (.int 2)))) (pRet (pCB fMin2 (pCons (pVar 1) (pCons (pCall w__law_take (pCons (pVar 0) (pCons (pC (.int 4000)) pNil))) pNil)))) pNext)
 (pSeq (pIf (pTst (pOp fGt (pOp fIx (pVar 0) (pC (.int 0))) (pVar 1))) (pRet (pCall w__law_take (pCons (pVar 0) (pCons (pOp fAdd (pVar 1) (pC (.int 1))) pNil)))) pNext)
 (pSeq (pAsg (pC (.int 0)) 3)
 (pSeq (pFor (pRange1 (pC (.int 4))) (pgName 4) (pAsg (pOp fAdd (pOp fMul (pVar 3) (pOp fPow (pC (.int 10)) (pC (.int 8)))) (pCall w__law_take (pCons (pVar 0) (pCons (pOp fPow (pC (.int 10)) (pC (.int 8))) pNil)))) 3))
 (pRet (pOp fMod (pCB fInt (pCons (pVar 3) pNil)) (pOp fAdd (pVar 1) (pC (.int 1)))))))))))
def w__law_great : PSp := wpB 5 b__law_great
def b__law_span : PSx :=
 (pSeq (pAsg (pCall w__law_take (pCons (pVar 0) (pCons (pC (.int 8)) pNil))) 2)
 (pSeq (pIf (pAndT (pTst (pOp fEq (pVar 2) (pC (.int 0)))) (pTst (pOp fGt (pVar 1) (pC (.int 0))))) (pRet (pOp fAdd (pC (.int 1)) (pCall w__law_great (pCons (pVar 0) (pCons (pVar 1) pNil))))) pNext)
 (pSeq (pIf (pTst (pOp fEq (pVar 2) (pC (.int 1)))) (pRet (pOp fAdd (pC (.int 1)) (pCall w__law_take (pCons (pVar 0) (pCons (pC (.int 20)) pNil))))) pNext)
 (pRet (pC (.int 1))))))
def w__law_span : PSp := wpB 3 b__law_span
def b__law_gone : PSx :=
 (pSeq (pAsgO (pLst pNil) 5)
 (pSeq (pFor (pRange1 (pCB fLen (pCons (pVar 0) pNil))) (pgName 6) (pSeq (pAsg (pOp fIx (pVar 0) (pVar 6)) 7)
 (pSeq (pIf (pTst (pOp (fIn false) (pVar 6) (pVar 1))) (pAsg (pOp fAdd (pVar 3) (pVar 2)) 7) (pIf (pTst (pOp fLt (pVar 7) (pOp fAdd (pVar 3) (pVar 2)))) (pAsg (pOp fAdd (pVar 7) (pOp fMul (pVar 4) (pOp fDiv (pOp fSub (pOp fAdd (pOp fSub (pOp fAdd (pVar 3) (pVar 2)) (pVar 7)) (pVar 4)) (pC (.int 1))) (pVar 4)))) 7) pNext))
 (pApp 5 (pVar 7)))))
 (pFreeze 5 (pRet (pVar 5)))))
def w__law_gone : PSp := wpB 8 b__law_gone
def b__law_here : PSx :=
 (pRet (pLc (pRange1 (pCB fLen (pCons (pVar 0) pNil))) (pgName 2) (pTst (pOp fEq (pOp fIx (pVar 0) (pVar 2)) (pVar 1))) (pVar 2) [2]))
def w__law_here : PSp := wpB 3 b__law_here
def b__law_book : PSx :=
 (pSeq (pAsg (pCB fList (pCons (pOp fIx (pVar 1) (pC (.int 2))) pNil)) 4)
 (pSeq (pAsgO (pOp fRep (pLst (pCons (pC (.int 0)) pNil)) (pCB fLen (pCons (pVar 4) pNil))) 5)
 (pSeq (pAsgO (pLst pNil) 6)
 (pSeq (pAsg (pC (.int 1)) 7)
 (pSeq (pFor (pRange1 (pVar 2)) (pgName 8) (pSeq (pAsg (pCall w__law_choose (pCons (pVar 0) (pCons (pCall w__law_here (pCons (pVar 4) (pCons (pVar 7) pNil))) (pCons (pOp fIx (pVar 1) (pC (.int 1))) pNil)))) 9)
 (pSeq (pAsg (pCall w__law_span (pCons (pVar 0) (pCons (pVar 3) pNil))) 10)
 (pSeq (pApp 6 (pTup (pCons (pVar 10) (pCons (pCB fTuple (pCons (pVar 9) pNil)) pNil))))
 (pSeq (pFor (pItems (pVar 9)) (pgName 11) (pSetI 5 (pVar 11) (pOp fAdd (pOp fIx (pVarV 5) (pVar 11)) (pVar 10))))
 (pSeq (pAsg (pCall w__law_gone (pCons (pVar 4) (pCons (pVar 9) (pCons (pVar 10) (pCons (pVar 7) (pCons (pOp fIx (pVar 1) (pC (.int 0))) pNil)))))) 4)
 (pAsg (pOp fAdd (pVar 7) (pVar 10)) 7)))))))
 (pFreeze 6 (pFreeze 5 (pRet (pLst (pCons (pVar 6) (pCons (pVar 5) (pCons (pVar 4) (pCons (pOp fSub (pVar 7) (pC (.int 1))) pNil)))))))))))))
def w__law_book : PSp := wpB 12 b__law_book
def b__law_case : PSx :=
 (pSeq (pIf (pTst (pOp fEq (pCall w__law_take (pCons (pVar 0) (pCons (pC (.int 4)) pNil))) (pC (.int 0)))) (pAsg (pCall w__law_depot (pCons (pVar 0) (pCons (pC (.int 12)) (pCons (pC (.int 8)) pNil)))) 1) (pAsg (pCall w__law_depot (pCons (pVar 0) (pCons (pC (.int 6)) (pCons (pC (.int 5)) pNil)))) 1))
 (pSeq (pAsgO (pLst pNil) 2)
 (pSeq (pFor (pRange1 (pC (.int 2))) (pgName 3) (pSeq (pAsg (pCall w__law_take (pCons (pVar 0) (pCons (pC (.int 17)) pNil))) 4)
 (pSeq (pIf (pTst (pOp fEq (pVar 4) (pC (.int 16)))) (pAsg (pC (.int 60)) 4) pNext)
 (pApp 2 (pOp fIx (pCall w__law_book (pCons (pVar 0) (pCons (pVar 1) (pCons (pVar 4) (pCons (pOp fPow (pC (.int 10)) (pC (.int 28))) pNil))))) (pC (.int 0)))))))
 (pRet (pLst (pCons (pVar 1) (pCons (pOp fIx (pVarV 2) (pC (.int 0))) (pCons (pOp fIx (pVarV 2) (pC (.int 1))) (pCons (pCall w__law_changed (pCons (pVar 0) (pCons (pVar 1) (pCons (pOp fIx (pVarV 2) (pC (.int 0))) pNil)))) pNil)))))))))
def w__law_case : PSp := wpB 5 b__law_case
def b_check_period_and_quota : PSx :=
 (pSeq (pIf (pNotT (pTst (pChain fLe fLe (pC (.int 1)) (pVar 0) (pC (.int 8))))) (pRaise 22 (pCons (pVar 0) (pCons (pC (.str "period")) pNil))) pNext)
 (pIf (pNotT (pTst (pChain fLe fLe (pC (.int 1)) (pVar 1) (pC (.int 12))))) (pRaise 22 (pCons (pVar 1) (pCons (pC (.str "quota")) pNil))) pNext))
def w_check_period_and_quota : PSp := wpB 2 b_check_period_and_quota
def b_check_firsts : PSx :=
 (pSeq (pIf (pNotT (pTst (pChain fLe fLe (pC (.int 1)) (pCB fLen (pCons (pVar 2) pNil)) (pC (.int 12))))) (pRaise 22 (pCons (pCB fLen (pCons (pVar 2) pNil)) (pCons (pC (.str "drivers")) pNil))) pNext)
 (pSeq (pFor (pEnum 0 (pVar 2)) (pgSeq 2 (pgCons (pgName 3) (pgCons (pgName 4) pgNil))) (pIf (pNotT (pTst (pChain fLe fLe (pC (.int 1)) (pVar 4) (pVar 0)))) (pRaise 22 (pCons (pVar 3) (pCons (pC (.str "first")) pNil))) pNext))
 (pSeq (pAsg (pCount (pVar 2) (pC (.int 1))) 5)
 (pIf (pTst (pOp fLt (pVar 5) (pVar 1))) (pRaise 22 (pCons (pVar 5) (pCons (pC (.str "ones")) pNil))) pNext))))
def w_check_firsts : PSp := wpB 6 b_check_firsts
def b_DepotU_initU : PSx :=
 (pSeq (pDrop (pCall w_check_period_and_quota (pCons (pVar 1) (pCons (pVar 2) pNil))))
 (pSeq (pDrop (pCall w_check_firsts (pCons (pVar 1) (pCons (pVar 2) (pCons (pVar 3) pNil)))))
 (pSeq (pSetF 0 0 0 (pVar 1))
 (pSeq (pSetF 0 0 1 (pVar 2))
 (pSetF 0 0 2 (pCB fTuple (pCons (pVar 3) pNil)))))))
def i_DepotU_initU : PSpI := wpI 0 4 b_DepotU_initU
def w__law_pool : PSp := wpNewPool
def b_ascending : PSx :=
 (pSeq (pAsg (pC (.int 0)) 2)
 (pSeq (pFor (pItems (pVar 0)) (pgName 3) (pSeq (pIf (pNotT (pTst (pChain fLe fLt (pVar 2) (pVar 3) (pVar 1)))) (pRet (pC (.bl false))) pNext)
 (pAsg (pOp fAdd (pVar 3) (pC (.int 1))) 2)))
 (pRet (pC (.bl true)))))
def w_ascending : PSp := wpB 4 b_ascending
def b_check_stretches : PSx :=
 (pSeq (pIf (pTst (pOp fGt (pCB fLen (pCons (pVar 0) pNil)) (pC (.int 400)))) (pRaise 23 (pCons (pC (.int 400)) (pCons (pC (.str "stretches")) pNil))) pNext)
 (pSeq (pAsg (pC (.int 0)) 1)
 (pFor (pEnum 0 (pVar 0)) (pgSeq 2 (pgCons (pgName 2) (pgCons (pgSeq 2 (pgCons (pgName 3) (pgCons (pgName 4) pgNil))) pgNil))) (pSeq (pIf (pNotT (pTst (pChain fLe fLe (pC (.int 1)) (pVar 3) (pC (.int 1000000000000000000000000000000))))) (pRaise 23 (pCons (pVar 2) (pCons (pC (.str "days")) pNil))) pNext)
 (pSeq (pIf (pNotT (pTru (pCall w_ascending (pCons (pVar 4) (pCons (pC (.int 12)) pNil))))) (pRaise 23 (pCons (pVar 2) (pCons (pC (.str "runners")) pNil))) pNext)
 (pSeq (pAsg (pOp fAdd (pVar 1) (pVar 3)) 1)
 (pIf (pTst (pOp fGt (pVar 1) (pC (.int 1000000000000000000000000000000)))) (pRaise 23 (pCons (pVar 2) (pCons (pC (.str "total")) pNil))) pNext)))))))
def w_check_stretches : PSp := wpB 5 b_check_stretches
def b_join_neighbours : PSx :=
 (pSeq (pAsgO (pLst pNil) 1)
 (pSeq (pFor (pItems (pVar 0)) (pgSeq 2 (pgCons (pgName 2) (pgCons (pgName 3) pgNil))) (pIf (pAndT (pTru (pVarV 1)) (pTst (pOp fEq (pOp fIx (pOp fIx (pVarV 1) (pUn fNeg (pC (.int 1)))) (pC (.int 1))) (pVar 3)))) (pSetI 1 (pUn fNeg (pC (.int 1))) (pTup (pCons (pOp fAdd (pOp fIx (pOp fIx (pVarV 1) (pUn fNeg (pC (.int 1)))) (pC (.int 0))) (pVar 2)) (pCons (pVar 3) pNil)))) (pApp 1 (pTup (pCons (pVar 2) (pCons (pVar 3) pNil))))))
 (pFreeze 1 (pRet (pVar 1)))))
def w_join_neighbours : PSp := wpB 4 b_join_neighbours
def b_BookU_initU : PSx :=
 (pSeq (pDrop (pCall w_check_stretches (pCons (pVar 1) pNil)))
 (pSeq (pSetF 0 1 0 (pCB fTuple (pCons (pCall w_join_neighbours (pCons (pLc (pItems (pVar 1)) (pgSeq 2 (pgCons (pgName 2) (pgCons (pgName 3) pgNil))) pYes (pTup (pCons (pVar 2) (pCons (pCB fTuple (pCons (pVar 3) pNil)) pNil))) [2, 3]) pNil)) pNil)))
 (pSetF 0 1 1 (pCB fSumA (pCons (pLc (pItems (pFldS 0 1 0)) (pgSeq 2 (pgCons (pgName 2) (pgCons (pgName 4) pgNil))) pYes (pVar 2) [2, 4]) pNil)))))
def i_BookU_initU : PSpI := wpI 1 5 b_BookU_initU
def b_AfterU_initU : PSx :=
 (pSeq (pSetF 0 2 0 (pVar 2))
 (pSeq (pSetF 0 2 1 (pCB fTuple (pCons (pVar 3) pNil)))
 (pSeq (pSetF 0 2 2 (pCB fTuple (pCons (pVar 4) pNil)))
 (pSeq (pSetF 0 2 3 (pCB fTuple (pCons (pVar 5) pNil)))
 (pSetF 0 2 4 (pVar 1))))))
def i_AfterU_initU : PSpI := wpI 2 6 b_AfterU_initU
def b_Depot_size : PSx :=
 (pRet (pCB fLen (pCons (pFld [(0, 2)] (pVar 0)) pNil)))
def w_Depot_size : PSp := wpB 1 b_Depot_size
def b_check_runners : PSx :=
 (pSeq (pIf (pTru (pLc (pItems (pVar 2)) (pgName 5) (pTst (pOp fGe (pVar 5) (pProp 0 w_Depot_size (pVar 0)))) (pVar 5) [5])) (pRaise 23 (pCons (pVar 1) (pCons (pC (.str "driver")) pNil))) pNext)
 (pSeq (pIf (pTst (pOp fNe (pCB fLen (pCons (pVar 2) pNil)) (pFld [(0, 1)] (pVar 0)))) (pRaise 23 (pCons (pVar 1) (pCons (pC (.str "count")) pNil))) pNext)
 (pIf (pTru (pLc (pItems (pVar 2)) (pgName 5) (pTst (pOp fNe (pOp fIx (pVar 3) (pVar 5)) (pVar 4))) (pVar 5) [5])) (pRaise 23 (pCons (pVar 1) (pCons (pC (.str "away")) pNil))) pNext)))
def w_check_runners : PSp := wpB 6 b_check_runners
def b_long_runs : PSx :=
 (pRet (pOp fDiv (pOp fSub (pOp fAdd (pOp fSub (pVar 2) (pVar 1)) (pFld [(0, 0)] (pVar 0))) (pC (.int 1))) (pFld [(0, 0)] (pVar 0))))
def w_long_runs : PSp := wpB 3 b_long_runs
def b_walk : PSx :=
 (pSeq (pAsgO (pOp fRep (pLst (pCons (pC (.int 0)) pNil)) (pProp 0 w_Depot_size (pVar 0))) 2)
 (pSeq (pAsgO (pOp fRep (pLst (pCons (pC (.int 0)) pNil)) (pProp 0 w_Depot_size (pVar 0))) 3)
 (pSeq (pAsgO (pCB fList (pCons (pFld [(0, 2)] (pVar 0)) pNil)) 4)
 (pSeq (pAsg (pC (.int 1)) 5)
 (pSeq (pFor (pEnum 0 (pFld [(1, 0)] (pVar 1))) (pgSeq 2 (pgCons (pgName 6) (pgCons (pgSeq 2 (pgCons (pgName 7) (pgCons (pgName 8) pgNil))) pgNil))) (pSeq (pDrop (pCallW w_check_runners (pCons (pVar 0) (pCons (pVar 6) (pCons (pVar 8) (pCons (pVarV 4) (pCons (pVar 5) pNil)))))))
 (pSeq (pAsg (pOp fAdd (pVar 5) (pVar 7)) 5)
 (pFor (pRange1 (pProp 0 w_Depot_size (pVar 0))) (pgName 9) (pIf (pTst (pOp (fIn false) (pVar 9) (pVar 8))) (pSeq (pSetI 2 (pVar 9) (pOp fAdd (pOp fIx (pVarV 2) (pVar 9)) (pVar 7)))
 (pSetI 4 (pVar 9) (pVar 5))) (pSeq (pAsg (pCall w_long_runs (pCons (pVar 0) (pCons (pOp fIx (pVarV 4) (pVar 9)) (pCons (pVar 5) pNil)))) 10)
 (pSeq (pSetI 3 (pVar 9) (pOp fAdd (pOp fIx (pVarV 3) (pVar 9)) (pVar 10)))
 (pSetI 4 (pVar 9) (pOp fAdd (pOp fIx (pVarV 4) (pVar 9)) (pOp fMul (pVar 10) (pFld [(0, 0)] (pVar 0))))))))))))
 (pFreeze 2 (pFreeze 3 (pRet (pMakeW 2 i_AfterU_initU (pCons (pVar 0) (pCons (pFld [(2, 0), (1, 1)] (pVar 1)) (pCons (pVarV 2) (pCons (pVarV 3) (pCons (pVarV 4) pNil))))))))))))))
def w_walk : PSp := wpB 11 b_walk
def b_check_days : PSx :=
 (pIf (pNotT (pTst (pChain fLe fLe (pC (.int 0)) (pVar 0) (pC (.int 1000000000000000000000000000000))))) (pRaise 21 (pCons (pVar 0) (pCons (pC (.str "days")) pNil))) pNext)
def w_check_days : PSp := wpB 1 b_check_days
def b_Depot_closings : PSx :=
 (pSeq (pDrop (pCall w_check_days (pCons (pVar 1) pNil)))
 (pRet (pOp fDiv (pVar 1) (pFld [(0, 0)] (pVar 0)))))
def w_Depot_closings : PSp := wpB 2 b_Depot_closings
def b_crews_seen : PSx :=
 (pSeq (pDrop (pCall w_walk (pCons (pVar 0) (pCons (pVar 1) pNil))))
 (pSeq (pAsgO (pLst pNil) 2)
 (pSeq (pAsg (pC (.int 0)) 3)
 (pSeq (pFor (pItems (pFld [(1, 0)] (pVar 1))) (pgSeq 2 (pgCons (pgName 4) (pgCons (pgName 5) pgNil))) (pSeq (pAsg (pOp fSub (pMeth 0 w_Depot_closings (pVar 0) (pCons (pOp fAdd (pVar 3) (pVar 4)) pNil)) (pMeth 0 w_Depot_closings (pVar 0) (pCons (pVar 3) pNil))) 6)
 (pSeq (pIf (pTst (pOp fGt (pVar 6) (pC (.int 0)))) (pApp 2 (pTup (pCons (pVar 6) (pCons (pVar 5) pNil)))) pNext)
 (pAsg (pOp fAdd (pVar 3) (pVar 4)) 3))))
 (pFreeze 2 (pRet (pCall w_join_neighbours (pCons (pVar 2) pNil))))))))
def w_crews_seen : PSp := wpB 7 b_crews_seen
def b__law_ask : PSx :=
 (pTryAs 2 c_BadBook (pRet (pTup (pCons (pC (.str "told")) (pCons (pCall w_crews_seen (pCons (pVar 0) (pCons (pVar 1) pNil))) pNil)))) (fun a cls dx => (pSeq (pAsg (pAndV (pIsX a cls dx 2 f_OutagainError) (pIsX a cls dx 2 f_ValueError)) 3)
 (pSeq (pAsg (pIsX a cls dx 2 (anyF f_BadCrews (anyF f_BadDepot (anyF f_NoBook f_OutOfRange)))) 4)
 (pRet (pTup (pCons (pC (.str "refused")) (pCons (pC (.str "BadBook")) (pCons (pXm a cls dx 2 [(21, 0), (22, 0), (23, 0), (26, 0)]) (pCons (pXm a cls dx 2 [(21, 1), (22, 1), (23, 1), (26, 1)]) (pCons (pAndV (pVar 3) (pNotV (pVar 4))) pNil)))))))))))
def w__law_ask : PSp := wpB 5 b__law_ask
def b__law_number : PSx :=
 (pRet (pAndV (pIsT "int" (pVar 0)) (pNotV (pIsT "bool" (pVar 0)))))
def w__law_number : PSp := wpB 1 b__law_number
def b__law_same (W : PSp) : PSx :=
 (pSeq (pIf (pTst (pOp fIsN (pVar 1) (pC .non))) (pRet (pOp fIsN (pVar 0) (pC .non))) pNext)
 (pSeq (pIf (pTru (pIsT "bool" (pVar 1))) (pRet (pAndV (pIsT "bool" (pVar 0)) (pOp fEq (pVar 0) (pVar 1)))) pNext)
 (pSeq (pIf (pTru (pIsT "int" (pVar 1))) (pRet (pAndV (pCall w__law_number (pCons (pVar 0) pNil)) (pOp fEq (pVar 0) (pVar 1)))) pNext)
 (pSeq (pIf (pTru (pIsT "str" (pVar 1))) (pRet (pAndV (pIsT "str" (pVar 0)) (pOp fEq (pVar 0) (pVar 1)))) pNext)
 (pSeq (pIf (pAndT (pTru (pIsT "list" (pVar 1))) (pNotT (pTru (pIsT "list" (pVar 0))))) (pRet (pC (.bl false))) pNext)
 (pSeq (pIf (pAndT (pTru (pIsT "tuple" (pVar 1))) (pNotT (pTru (pIsT "tuple" (pVar 0))))) (pRet (pC (.bl false))) pNext)
 (pSeq (pIf (pTst (pOp fNe (pCB fLen (pCons (pVar 0) pNil)) (pCB fLen (pCons (pVar 1) pNil)))) (pRet (pC (.bl false))) pNext)
 (pSeq (pFor (pRange1 (pCB fLen (pCons (pVar 1) pNil))) (pgName 2) (pIf (pNotT (pTru (pCall W (pCons (pOp fIx (pVar 0) (pVar 2)) (pCons (pOp fIx (pVar 1) (pVar 2)) pNil))))) (pRet (pC (.bl false))) pNext))
 (pRet (pC (.bl true)))))))))))
def w__law_same : Nat → PSp
  | 0 => fun _ _ _ => False
  | n + 1 => wpB 3 (b__law_same (w__law_same n))
def b__law_joined : PSx :=
 (pSeq (pAsgO (pLst pNil) 1)
 (pSeq (pFor (pItems (pVar 0)) (pgName 2) (pIf (pAndT (pTst (pOp fNe (pVarV 1) (pLst pNil))) (pTst (pOp fEq (pOp fIx (pOp fIx (pVarV 1) (pUn fNeg (pC (.int 1)))) (pC (.int 1))) (pOp fIx (pVar 2) (pC (.int 1)))))) (pSetI 1 (pUn fNeg (pC (.int 1))) (pTup (pCons (pOp fAdd (pOp fIx (pOp fIx (pVarV 1) (pUn fNeg (pC (.int 1)))) (pC (.int 0))) (pOp fIx (pVar 2) (pC (.int 0)))) (pCons (pOp fIx (pVar 2) (pC (.int 1))) pNil)))) (pApp 1 (pTup (pCons (pOp fIx (pVar 2) (pC (.int 0))) (pCons (pOp fIx (pVar 2) (pC (.int 1))) pNil))))))
 (pFreeze 1 (pRet (pVar 1)))))
def w__law_joined : PSp := wpB 3 b__law_joined
def b__law_closings_in : PSx :=
 (pSeq (pAsg (pOp fMul (pVar 2) (pOp fDiv (pOp fSub (pOp fAdd (pVar 0) (pVar 2)) (pC (.int 1))) (pVar 2))) 3)
 (pSeq (pIf (pTst (pOp fGe (pVar 3) (pVar 1))) (pRet (pC (.int 0))) pNext)
 (pRet (pOp fAdd (pC (.int 1)) (pOp fDiv (pOp fSub (pOp fSub (pVar 1) (pC (.int 1))) (pVar 3)) (pVar 2))))))
def w__law_closings_in : PSp := wpB 4 b__law_closings_in
def b__law_due : PSx :=
 (pSeq (pAsg (pCB fList (pCons (pOp fIx (pVar 0) (pC (.int 2))) pNil)) 2)
 (pSeq (pAsg (pC (.int 1)) 3)
 (pSeq (pAsgO (pLst pNil) 4)
 (pSeq (pAsg (pCall w__law_joined (pCons (pVar 1) pNil)) 5)
 (pSeq (pFor (pRange1 (pCB fLen (pCons (pVar 5) pNil))) (pgName 6) (pSeq (pAsg (pOp fIx (pOp fIx (pVar 5) (pVar 6)) (pC (.int 1))) 7)
 (pSeq (pIf (pTst (pOp fNe (pLc (pItems (pVar 7)) (pgName 8) (pTst (pOp fGe (pVar 8) (pCB fLen (pCons (pVar 2) pNil)))) (pVar 8) [8]) (pLst pNil))) (pRet (pTup (pCons (pC (.str "refused")) (pCons (pC (.str "BadBook")) (pCons (pVar 6) (pCons (pC (.str "driver")) (pCons (pC (.bl true)) pNil))))))) pNext)
 (pSeq (pIf (pTst (pOp fNe (pCB fLen (pCons (pVar 7) pNil)) (pOp fIx (pVar 0) (pC (.int 1))))) (pRet (pTup (pCons (pC (.str "refused")) (pCons (pC (.str "BadBook")) (pCons (pVar 6) (pCons (pC (.str "count")) (pCons (pC (.bl true)) pNil))))))) pNext)
 (pSeq (pIf (pTst (pOp fNe (pLc (pItems (pVar 7)) (pgName 8) (pTst (pOp fNe (pOp fIx (pVar 2) (pVar 8)) (pVar 3))) (pVar 8) [8]) (pLst pNil))) (pRet (pTup (pCons (pC (.str "refused")) (pCons (pC (.str "BadBook")) (pCons (pVar 6) (pCons (pC (.str "away")) (pCons (pC (.bl true)) pNil))))))) pNext)
 (pSeq (pAsg (pCall w__law_closings_in (pCons (pVar 3) (pCons (pOp fAdd (pVar 3) (pOp fIx (pOp fIx (pVar 5) (pVar 6)) (pC (.int 0)))) (pCons (pOp fIx (pVar 0) (pC (.int 0))) pNil)))) 9)
 (pSeq (pIf (pAndT (pTst (pOp fGt (pVar 9) (pC (.int 0)))) (pAndT (pTst (pOp fNe (pVarV 4) (pLst pNil))) (pTst (pOp fEq (pOp fIx (pOp fIx (pVarV 4) (pUn fNeg (pC (.int 1)))) (pC (.int 1))) (pVar 7))))) (pSetI 4 (pUn fNeg (pC (.int 1))) (pTup (pCons (pOp fAdd (pOp fIx (pOp fIx (pVarV 4) (pUn fNeg (pC (.int 1)))) (pC (.int 0))) (pVar 9)) (pCons (pVar 7) pNil)))) (pIf (pTst (pOp fGt (pVar 9) (pC (.int 0)))) (pApp 4 (pTup (pCons (pVar 9) (pCons (pVar 7) pNil)))) pNext))
 (pSeq (pAsg (pCall w__law_gone (pCons (pVar 2) (pCons (pVar 7) (pCons (pOp fIx (pOp fIx (pVar 5) (pVar 6)) (pC (.int 0))) (pCons (pVar 3) (pCons (pOp fIx (pVar 0) (pC (.int 0))) pNil)))))) 2)
 (pAsg (pOp fAdd (pVar 3) (pOp fIx (pOp fIx (pVar 5) (pVar 6)) (pC (.int 0)))) 3)))))))))
 (pFreeze 4 (pRet (pTup (pCons (pC (.str "told")) (pCons (pVar 4) pNil))))))))))
def w__law_due : PSp := wpB 10 b__law_due
def b_law : PSx :=
 (pSeq (pAsg (pCall w__law_case (pCons (pCall w__law_pool (pCons (pVar 0) pNil)) pNil)) 1)
 (pSeq (pAsg (pOp fIx (pVar 1) (pC (.int 0))) 2)
 (pSeq (pAsg (pMake 0 i_DepotU_initU (pCons (pOp fIx (pVar 2) (pC (.int 0))) (pCons (pOp fIx (pVar 2) (pC (.int 1))) (pCons (pCB fList (pCons (pOp fIx (pVar 2) (pC (.int 2))) pNil)) pNil)))) 3)
 (pSeq (pAsg (pLc (pItems (pSl (pVar 1) (pPart (pC (.int 1))) pNo)) (pgName 6) pYes (pMake 1 i_BookU_initU (pCons (pLc (pItems (pVar 6)) (pgName 5) pYes (pTup (pCons (pOp fIx (pVar 5) (pC (.int 0))) (pCons (pCB fList (pCons (pOp fIx (pVar 5) (pC (.int 1))) pNil)) pNil))) [5]) pNil)) [6]) 4)
 (pSeq (pFor (pItems (pLst (pCons (pC (.int 0)) (pCons (pC (.int 1)) (pCons (pC (.int 2)) (pCons (pC (.int 0)) (pCons (pC (.int 2)) (pCons (pC (.int 1)) pNil)))))))) (pgName 7) (pSeq (pAsgT [false, false, false, true, true, false, false, true, false, false, false, false, false] (pCall w__law_ask (pCons (pVar 3) (pCons (pOp fIx (pVar 4) (pVar 7)) pNil))) 8)
 (pSeq (pIf (pVwT [false, true, true, false, false, false, false, true, true, false, false, false, false] (pNotT (pTru (pCall (w__law_same 6) (pCons (pVar 8) (pCons (pCall w__law_due (pCons (pVar 2) (pCons (pOp fIx (pVar 1) (pOp fAdd (pC (.int 1)) (pVar 7))) pNil))) pNil)))))) (pRet (pC (.bl false))) pNext)
 (pIf (pVwT [false, false, false, false, false, false, false, false, true, false, false, false, false] (pTst (pOp fEq (pOp fIx (pVar 8) (pC (.int 0))) (pC (.str "told"))))) (pSeq (pMvT 8 (pTrI pTrV (pC (.int 1))) 9)
 (pSeq (pApp 9 (pTup (pCons (pC (.int 0)) (pCons (pTup pNil) pNil))))
 (pMut 9 fun ds => some ds.reverse))) pNext))))
 (pSeq (pAsg (pOp fAdd (pOp fMod (pCB fInt (pCons (pOp fIx (pVar 2) (pC (.int 0))) pNil)) (pC (.int 8))) (pC (.int 1))) 10)
 (pSeq (pAsg (pLst (pCons (pVar 10) (pCons (pOp fIx (pVar 2) (pC (.int 1))) (pCons (pLc (pItems (pOp fIx (pVar 2) (pC (.int 2)))) (pgName 12) pYes (pCB fMin2 (pCons (pVar 10) (pCons (pVar 12) pNil))) [12]) pNil)))) 11)
 (pSeq (pFor (pRange1 (pC (.int 3))) (pgName 7) (pSeq (pIf (pNotT (pTru (pCall (w__law_same 6) (pCons (pCall w__law_ask (pCons (pMake 0 i_DepotU_initU (pCons (pVar 10) (pCons (pOp fIx (pVar 2) (pC (.int 1))) (pCons (pCB fList (pCons (pOp fIx (pVar 11) (pC (.int 2))) pNil)) pNil)))) (pCons (pOp fIx (pVar 4) (pVar 7)) pNil))) (pCons (pCall w__law_due (pCons (pVar 11) (pCons (pOp fIx (pVar 1) (pOp fAdd (pC (.int 1)) (pVar 7))) pNil))) pNil))))) (pRet (pC (.bl false))) pNext)
 (pIf (pNotT (pTru (pCall (w__law_same 6) (pCons (pCall w__law_ask (pCons (pVar 3) (pCons (pOp fIx (pVar 4) (pVar 7)) pNil))) (pCons (pCall w__law_due (pCons (pVar 2) (pCons (pOp fIx (pVar 1) (pOp fAdd (pC (.int 1)) (pVar 7))) pNil))) pNil))))) (pRet (pC (.bl false))) pNext)))
 (pRet (pC (.bl true)))))))))))
def w_law : PSp := wpB 13 b_law
structure Tx (K : PySem.W.Frag) (mg : Str → Option Value) (a__law_take a__law_depot a__law_changed a__law_choose a__law_great a__law_span a__law_gone a__law_here a__law_book a__law_case a_check_period_and_quota a_check_firsts a_DepotU_initU a__law_pool a_ascending a_check_stretches a_join_neighbours a_BookU_initU a_AfterU_initU a_Depot_size a_check_runners a_long_runs a_walk a_check_days a_Depot_closings a_crews_seen a__law_ask a__law_number a__law_same a__law_joined a__law_closings_in a__law_due a_law a_BadDepotU_initU a_BadBookU_initU a_OutOfRangeU_initU A_Depot A_After A_Book A_OutagainError A_OutOfRange A_BadDepot A_BadBook A_BadCrews A_NoBook p_Depot_size : Addr) (d__law_take d__law_depot d__law_changed d__law_choose d__law_great d__law_span d__law_gone d__law_here d__law_book d__law_case d_check_period_and_quota d_check_firsts d_DepotU_initU d__law_pool d_ascending d_check_stretches d_join_neighbours d_BookU_initU d_AfterU_initU d_Depot_size d_check_runners d_long_runs d_walk d_check_days d_Depot_closings d_crews_seen d__law_ask d__law_number d__law_same d__law_joined d__law_closings_in d__law_due d_law d_BadDepotU_initU d_BadBookU_initU d_OutOfRangeU_initU : FuncData) : Prop where
  F__law_take : Fun K "_law_take" "_law_take" s__law_take a__law_take d__law_take
  B__law_take : L2.Binds K d__law_take ["pool", "limit"] []
  G__law_take : mg "_law_take" = some (.ref a__law_take)
  K__law_take : PySem.W.keepIn K (.ref a__law_take) = true
  F__law_depot : Fun K "_law_depot" "_law_depot" s__law_depot a__law_depot d__law_depot
  B__law_depot : L2.Binds K d__law_depot ["pool", "drivers", "period"] []
  G__law_depot : mg "_law_depot" = some (.ref a__law_depot)
  K__law_depot : PySem.W.keepIn K (.ref a__law_depot) = true
  F__law_changed : Fun K "_law_changed" "_law_changed" s__law_changed a__law_changed d__law_changed
  B__law_changed : L2.Binds K d__law_changed ["pool", "plan", "rows"] []
  G__law_changed : mg "_law_changed" = some (.ref a__law_changed)
  K__law_changed : PySem.W.keepIn K (.ref a__law_changed) = true
  F__law_choose : Fun K "_law_choose" "_law_choose" s__law_choose a__law_choose d__law_choose
  B__law_choose : L2.Binds K d__law_choose ["pool", "here", "many"] []
  G__law_choose : mg "_law_choose" = some (.ref a__law_choose)
  K__law_choose : PySem.W.keepIn K (.ref a__law_choose) = true
  F__law_great : Fun K "_law_great" "_law_great" s__law_great a__law_great d__law_great
  B__law_great : L2.Binds K d__law_great ["pool", "most"] []
  G__law_great : mg "_law_great" = some (.ref a__law_great)
  K__law_great : PySem.W.keepIn K (.ref a__law_great) = true
  F__law_span : Fun K "_law_span" "_law_span" s__law_span a__law_span d__law_span
  B__law_span : L2.Binds K d__law_span ["pool", "great"] []
  G__law_span : mg "_law_span" = some (.ref a__law_span)
  K__law_span : PySem.W.keepIn K (.ref a__law_span) = true
  F__law_gone : Fun K "_law_gone" "_law_gone" s__law_gone a__law_gone d__law_gone
  B__law_gone : L2.Binds K d__law_gone ["nexts", "crew", "span", "start", "m"] []
  G__law_gone : mg "_law_gone" = some (.ref a__law_gone)
  K__law_gone : PySem.W.keepIn K (.ref a__law_gone) = true
  F__law_here : Fun K "_law_here" "_law_here" s__law_here a__law_here d__law_here
  B__law_here : L2.Binds K d__law_here ["nexts", "morning"] []
  G__law_here : mg "_law_here" = some (.ref a__law_here)
  K__law_here : PySem.W.keepIn K (.ref a__law_here) = true
  F__law_book : Fun K "_law_book" "_law_book" s__law_book a__law_book d__law_book
  B__law_book : L2.Binds K d__law_book ["pool", "plan", "many", "great"] []
  G__law_book : mg "_law_book" = some (.ref a__law_book)
  K__law_book : PySem.W.keepIn K (.ref a__law_book) = true
  F__law_case : Fun K "_law_case" "_law_case" s__law_case a__law_case d__law_case
  B__law_case : L2.Binds K d__law_case ["pool"] []
  G__law_case : mg "_law_case" = some (.ref a__law_case)
  K__law_case : PySem.W.keepIn K (.ref a__law_case) = true
  F_check_period_and_quota : Fun K "check_period_and_quota" "check_period_and_quota" s_check_period_and_quota a_check_period_and_quota d_check_period_and_quota
  B_check_period_and_quota : L2.Binds K d_check_period_and_quota ["period", "quota"] []
  G_check_period_and_quota : mg "check_period_and_quota" = some (.ref a_check_period_and_quota)
  K_check_period_and_quota : PySem.W.keepIn K (.ref a_check_period_and_quota) = true
  F_check_firsts : Fun K "check_firsts" "check_firsts" s_check_firsts a_check_firsts d_check_firsts
  B_check_firsts : L2.Binds K d_check_firsts ["period", "quota", "firsts"] []
  G_check_firsts : mg "check_firsts" = some (.ref a_check_firsts)
  K_check_firsts : PySem.W.keepIn K (.ref a_check_firsts) = true
  F_DepotU_initU : Fun K "__init__" "Depot.__init__" s_DepotU_initU a_DepotU_initU d_DepotU_initU
  B_DepotU_initU : L2.Binds K d_DepotU_initU ["self", "period", "quota", "firsts"] []
  mk_Depot : Mk K A_Depot a_DepotU_initU
  F__law_pool : Fun K "_law_pool" "_law_pool" s__law_pool a__law_pool d__law_pool
  B__law_pool : L2.Binds K d__law_pool ["script"] []
  G__law_pool : mg "_law_pool" = some (.ref a__law_pool)
  K__law_pool : PySem.W.keepIn K (.ref a__law_pool) = true
  F_ascending : Fun K "ascending" "ascending" s_ascending a_ascending d_ascending
  B_ascending : L2.Binds K d_ascending ["drivers", "size"] []
  G_ascending : mg "ascending" = some (.ref a_ascending)
  K_ascending : PySem.W.keepIn K (.ref a_ascending) = true
  F_check_stretches : Fun K "check_stretches" "check_stretches" s_check_stretches a_check_stretches d_check_stretches
  B_check_stretches : L2.Binds K d_check_stretches ["stretches"] []
  G_check_stretches : mg "check_stretches" = some (.ref a_check_stretches)
  K_check_stretches : PySem.W.keepIn K (.ref a_check_stretches) = true
  F_join_neighbours : Fun K "join_neighbours" "join_neighbours" s_join_neighbours a_join_neighbours d_join_neighbours
  B_join_neighbours : L2.Binds K d_join_neighbours ["pairs"] []
  G_join_neighbours : mg "join_neighbours" = some (.ref a_join_neighbours)
  K_join_neighbours : PySem.W.keepIn K (.ref a_join_neighbours) = true
  F_BookU_initU : Fun K "__init__" "Book.__init__" s_BookU_initU a_BookU_initU d_BookU_initU
  B_BookU_initU : L2.Binds K d_BookU_initU ["self", "stretches"] []
  mk_Book : Mk K A_Book a_BookU_initU
  F_AfterU_initU : Fun K "__init__" "After.__init__" s_AfterU_initU a_AfterU_initU d_AfterU_initU
  B_AfterU_initU : L2.Binds K d_AfterU_initU ["self", "depot", "days", "passes", "longs", "nexts"] []
  mk_After : Mk K A_After a_AfterU_initU
  F_Depot_size : Fun K "size" "Depot.size" s_Depot_size a_Depot_size d_Depot_size
  B_Depot_size : L2.Binds K d_Depot_size ["self"] []
  pr_Depot_size : PrpT K mg 0 A_Depot "size" p_Depot_size a_Depot_size
  F_check_runners : Fun K "check_runners" "check_runners" s_check_runners a_check_runners d_check_runners
  B_check_runners : L2.Binds K d_check_runners ["depot", "at", "runners", "nexts", "morning"] []
  G_check_runners : mg "check_runners" = some (.ref a_check_runners)
  K_check_runners : PySem.W.keepIn K (.ref a_check_runners) = true
  F_long_runs : Fun K "long_runs" "long_runs" s_long_runs a_long_runs d_long_runs
  B_long_runs : L2.Binds K d_long_runs ["depot", "morning", "behind"] []
  G_long_runs : mg "long_runs" = some (.ref a_long_runs)
  K_long_runs : PySem.W.keepIn K (.ref a_long_runs) = true
  F_walk : Fun K "walk" "walk" s_walk a_walk d_walk
  B_walk : L2.Binds K d_walk ["depot", "book"] []
  G_walk : mg "walk" = some (.ref a_walk)
  K_walk : PySem.W.keepIn K (.ref a_walk) = true
  F_check_days : Fun K "check_days" "check_days" s_check_days a_check_days d_check_days
  B_check_days : L2.Binds K d_check_days ["days"] []
  G_check_days : mg "check_days" = some (.ref a_check_days)
  K_check_days : PySem.W.keepIn K (.ref a_check_days) = true
  F_Depot_closings : Fun K "closings" "Depot.closings" s_Depot_closings a_Depot_closings d_Depot_closings
  B_Depot_closings : L2.Binds K d_Depot_closings ["self", "days"] []
  me_Depot_closings : MetT K mg 0 A_Depot "closings" a_Depot_closings
  F_crews_seen : Fun K "crews_seen" "crews_seen" s_crews_seen a_crews_seen d_crews_seen
  B_crews_seen : L2.Binds K d_crews_seen ["depot", "book"] []
  G_crews_seen : mg "crews_seen" = some (.ref a_crews_seen)
  K_crews_seen : PySem.W.keepIn K (.ref a_crews_seen) = true
  F__law_ask : Fun K "_law_ask" "_law_ask" s__law_ask a__law_ask d__law_ask
  B__law_ask : L2.Binds K d__law_ask ["depot", "book"] []
  G__law_ask : mg "_law_ask" = some (.ref a__law_ask)
  K__law_ask : PySem.W.keepIn K (.ref a__law_ask) = true
  F__law_number : Fun K "_law_number" "_law_number" s__law_number a__law_number d__law_number
  B__law_number : L2.Binds K d__law_number ["got"] []
  G__law_number : mg "_law_number" = some (.ref a__law_number)
  K__law_number : PySem.W.keepIn K (.ref a__law_number) = true
  F__law_same : Fun K "_law_same" "_law_same" s__law_same a__law_same d__law_same
  B__law_same : L2.Binds K d__law_same ["got", "due"] []
  G__law_same : mg "_law_same" = some (.ref a__law_same)
  K__law_same : PySem.W.keepIn K (.ref a__law_same) = true
  F__law_joined : Fun K "_law_joined" "_law_joined" s__law_joined a__law_joined d__law_joined
  B__law_joined : L2.Binds K d__law_joined ["rows"] []
  G__law_joined : mg "_law_joined" = some (.ref a__law_joined)
  K__law_joined : PySem.W.keepIn K (.ref a__law_joined) = true
  F__law_closings_in : Fun K "_law_closings_in" "_law_closings_in" s__law_closings_in a__law_closings_in d__law_closings_in
  B__law_closings_in : L2.Binds K d__law_closings_in ["start", "end", "m"] []
  G__law_closings_in : mg "_law_closings_in" = some (.ref a__law_closings_in)
  K__law_closings_in : PySem.W.keepIn K (.ref a__law_closings_in) = true
  F__law_due : Fun K "_law_due" "_law_due" s__law_due a__law_due d__law_due
  B__law_due : L2.Binds K d__law_due ["plan", "rows"] []
  G__law_due : mg "_law_due" = some (.ref a__law_due)
  K__law_due : PySem.W.keepIn K (.ref a__law_due) = true
  F_law : Fun K "law" "law" s_law a_law d_law
  B_law : L2.Binds K d_law ["script"] []
  G_law : mg "law" = some (.ref a_law)
  K_law : PySem.W.keepIn K (.ref a_law) = true
  F_BadDepotU_initU : Fun K "__init__" "BadDepot.__init__" s_BadDepotU_initU a_BadDepotU_initU d_BadDepotU_initU
  B_BadDepotU_initU : L2.Binds K d_BadDepotU_initU ["self", "at", "code"] []
  F_BadBookU_initU : Fun K "__init__" "BadBook.__init__" s_BadBookU_initU a_BadBookU_initU d_BadBookU_initU
  B_BadBookU_initU : L2.Binds K d_BadBookU_initU ["self", "at", "code"] []
  F_OutOfRangeU_initU : Fun K "__init__" "OutOfRange.__init__" s_OutOfRangeU_initU a_OutOfRangeU_initU d_OutOfRangeU_initU
  B_OutOfRangeU_initU : L2.Binds K d_OutOfRangeU_initU ["self", "at", "code"] []
  m_Depot : mg "Depot" = some (.ref A_Depot)
  fa_Depot_period : ∀ A, mg (cname 0) = some (.ref A) → Cls K A ∧ NoAttr K A "period"
  fa_Depot_quota : ∀ A, mg (cname 0) = some (.ref A) → Cls K A ∧ NoAttr K A "quota"
  fa_Depot_firsts : ∀ A, mg (cname 0) = some (.ref A) → Cls K A ∧ NoAttr K A "firsts"
  is_Depot : IsC K mg 0 A_Depot [0, 2, 1]
  m_After : mg "After" = some (.ref A_After)
  fa_After_days : ∀ A, mg (cname 2) = some (.ref A) → Cls K A ∧ NoAttr K A "days"
  fa_After_passes : ∀ A, mg (cname 2) = some (.ref A) → Cls K A ∧ NoAttr K A "passes"
  fa_After_longs : ∀ A, mg (cname 2) = some (.ref A) → Cls K A ∧ NoAttr K A "longs"
  fa_After_nexts : ∀ A, mg (cname 2) = some (.ref A) → Cls K A ∧ NoAttr K A "nexts"
  fa_After__depot : ∀ A, mg (cname 2) = some (.ref A) → Cls K A ∧ NoAttr K A "_depot"
  is_After : IsC K mg 2 A_After [0, 2, 1]
  m_Book : mg "Book" = some (.ref A_Book)
  fa_Book_stretches : ∀ A, mg (cname 1) = some (.ref A) → Cls K A ∧ NoAttr K A "stretches"
  fa_Book_days : ∀ A, mg (cname 1) = some (.ref A) → Cls K A ∧ NoAttr K A "days"
  is_Book : IsC K mg 1 A_Book [0, 2, 1]
  m_OutagainError : mg "OutagainError" = some (.ref A_OutagainError)
  m_OutOfRange : mg "OutOfRange" = some (.ref A_OutOfRange)
  m_BadDepot : mg "BadDepot" = some (.ref A_BadDepot)
  m_BadBook : mg "BadBook" = some (.ref A_BadBook)
  m_BadCrews : mg "BadCrews" = some (.ref A_BadCrews)
  m_NoBook : mg "NoBook" = some (.ref A_NoBook)
  ex_BadDepot : ExT K mg 22 A_BadDepot a_BadDepotU_initU
  ex_BadBook : ExT K mg 23 A_BadBook a_BadBookU_initU
  ex_OutOfRange : ExT K mg 21 A_OutOfRange a_OutOfRangeU_initU
  fld_firsts : FldT K mg "firsts" [(0, 2)]
  fld_quota : FldT K mg "quota" [(0, 1)]
  fld_period : FldT K mg "period" [(0, 0)]
  fld_stretches : FldT K mg "stretches" [(1, 0)]
  fld_days : FldT K mg "days" [(2, 0), (1, 1)]
  cv_Depot_MOST_PERIOD : CvT K mg 0 A_Depot "MOST_PERIOD" 8
  cv_Depot_MOST_DRIVERS : CvT K mg 0 A_Depot "MOST_DRIVERS" 12
  g_MOST_QUOTA : ∃ t, mg "MOST_QUOTA" = some (.int 12 t)
  g_MOST_STRETCHES : ∃ t, mg "MOST_STRETCHES" = some (.int 400 t)
  g_MOST_DAYS : ∃ t, mg "MOST_DAYS" = some (.int 1000000000000000000000000000000 t)
  n_ValueError : mg "ValueError" = none
  n_abs : mg "abs" = none
  n_bool : mg "bool" = none
  n_enumerate : mg "enumerate" = none
  n_int : mg "int" = none
  n_isinstance : mg "isinstance" = none
  n_len : mg "len" = none
  n_list : mg "list" = none
  n_min : mg "min" = none
  n_range : mg "range" = none
  n_set : mg "set" = none
  n_sorted : mg "sorted" = none
  n_str : mg "str" = none
  n_sum : mg "sum" = none
  n_tuple : mg "tuple" = none
  ca_BadBook : CatT K mg (.ref A_BadBook) c_BadBook
  ix_BadCrews : IsXT K mg (.ref A_BadCrews) f_BadCrews
  ix_BadDepot : IsXT K mg (.ref A_BadDepot) f_BadDepot
  ix_NoBook : IsXT K mg (.ref A_NoBook) f_NoBook
  ix_OutOfRange : IsXT K mg (.ref A_OutOfRange) f_OutOfRange
  ix_OutagainError : IsXT K mg (.ref A_OutagainError) f_OutagainError
  ix_ValueError : IsXT K mg (.type "ValueError") f_ValueError
  xf_code : XfT K mg "code" [(21, 1), (22, 1), (23, 1), (26, 1)]
  xf_at : XfT K mg "at" [(21, 0), (22, 0), (23, 0), (26, 0)]
section
variable {P : Program} {w : World} {K : PySem.W.Frag} {mg : Str → Option Value} {base : Heap}
variable {a__law_take a__law_depot a__law_changed a__law_choose a__law_great a__law_span a__law_gone a__law_here a__law_book a__law_case a_check_period_and_quota a_check_firsts a_DepotU_initU a__law_pool a_ascending a_check_stretches a_join_neighbours a_BookU_initU a_AfterU_initU a_Depot_size a_check_runners a_long_runs a_walk a_check_days a_Depot_closings a_crews_seen a__law_ask a__law_number a__law_same a__law_joined a__law_closings_in a__law_due a_law a_BadDepotU_initU a_BadBookU_initU a_OutOfRangeU_initU A_Depot A_After A_Book A_OutagainError A_OutOfRange A_BadDepot A_BadBook A_BadCrews A_NoBook p_Depot_size : Addr} {d__law_take d__law_depot d__law_changed d__law_choose d__law_great d__law_span d__law_gone d__law_here d__law_book d__law_case d_check_period_and_quota d_check_firsts d_DepotU_initU d__law_pool d_ascending d_check_stretches d_join_neighbours d_BookU_initU d_AfterU_initU d_Depot_size d_check_runners d_long_runs d_walk d_check_days d_Depot_closings d_crews_seen d__law_ask d__law_number d__law_same d__law_joined d__law_closings_in d__law_due d_law d_BadDepotU_initU d_BadBookU_initU d_OutOfRangeU_initU : FuncData}
theorem okx_BadDepot (T : Tx K mg a__law_take a__law_depot a__law_changed a__law_choose a__law_great a__law_span a__law_gone a__law_here a__law_book a__law_case a_check_period_and_quota a_check_firsts a_DepotU_initU a__law_pool a_ascending a_check_stretches a_join_neighbours a_BookU_initU a_AfterU_initU a_Depot_size a_check_runners a_long_runs a_walk a_check_days a_Depot_closings a_crews_seen a__law_ask a__law_number a__law_same a__law_joined a__law_closings_in a__law_due a_law a_BadDepotU_initU a_BadBookU_initU a_OutOfRangeU_initU A_Depot A_After A_Book A_OutagainError A_OutOfRange A_BadDepot A_BadBook A_BadCrews A_NoBook p_Depot_size d__law_take d__law_depot d__law_changed d__law_choose d__law_great d__law_span d__law_gone d__law_here d__law_book d__law_case d_check_period_and_quota d_check_firsts d_DepotU_initU d__law_pool d_ascending d_check_stretches d_join_neighbours d_BookU_initU d_AfterU_initU d_Depot_size d_check_runners d_long_runs d_walk d_check_days d_Depot_closings d_crews_seen d__law_ask d__law_number d__law_same d__law_joined d__law_closings_in d__law_due d_law d_BadDepotU_initU d_BadBookU_initU d_OutOfRangeU_initU) : FnOk P w K mg base (L2.CX P w) 1 a_BadDepotU_initU d_BadDepotU_initU ["self", "at", "code"] (spX ⟨K, mg⟩ 22 3) :=
  xinit2 (N := ["self", "at", "code"]) T.F_BadDepotU_initU sc_BadDepotU_initU rfl T.ex_BadDepot rfl rfl (fun cdv A outer s H E => pss_cons (ps_ost (pv 0) (pv 1)) (pss_one (ps_ost (pv 0) (pv 2))))
theorem okx_BadBook (T : Tx K mg a__law_take a__law_depot a__law_changed a__law_choose a__law_great a__law_span a__law_gone a__law_here a__law_book a__law_case a_check_period_and_quota a_check_firsts a_DepotU_initU a__law_pool a_ascending a_check_stretches a_join_neighbours a_BookU_initU a_AfterU_initU a_Depot_size a_check_runners a_long_runs a_walk a_check_days a_Depot_closings a_crews_seen a__law_ask a__law_number a__law_same a__law_joined a__law_closings_in a__law_due a_law a_BadDepotU_initU a_BadBookU_initU a_OutOfRangeU_initU A_Depot A_After A_Book A_OutagainError A_OutOfRange A_BadDepot A_BadBook A_BadCrews A_NoBook p_Depot_size d__law_take d__law_depot d__law_changed d__law_choose d__law_great d__law_span d__law_gone d__law_here d__law_book d__law_case d_check_period_and_quota d_check_firsts d_DepotU_initU d__law_pool d_ascending d_check_stretches d_join_neighbours d_BookU_initU d_AfterU_initU d_Depot_size d_check_runners d_long_runs d_walk d_check_days d_Depot_closings d_crews_seen d__law_ask d__law_number d__law_same d__law_joined d__law_closings_in d__law_due d_law d_BadDepotU_initU d_BadBookU_initU d_OutOfRangeU_initU) : FnOk P w K mg base (L2.CX P w) 1 a_BadBookU_initU d_BadBookU_initU ["self", "at", "code"] (spX ⟨K, mg⟩ 23 3) :=
  xinit2 (N := ["self", "at", "code"]) T.F_BadBookU_initU sc_BadBookU_initU rfl T.ex_BadBook rfl rfl (fun cdv A outer s H E => pss_cons (ps_ost (pv 0) (pv 1)) (pss_one (ps_ost (pv 0) (pv 2))))
theorem okx_OutOfRange (T : Tx K mg a__law_take a__law_depot a__law_changed a__law_choose a__law_great a__law_span a__law_gone a__law_here a__law_book a__law_case a_check_period_and_quota a_check_firsts a_DepotU_initU a__law_pool a_ascending a_check_stretches a_join_neighbours a_BookU_initU a_AfterU_initU a_Depot_size a_check_runners a_long_runs a_walk a_check_days a_Depot_closings a_crews_seen a__law_ask a__law_number a__law_same a__law_joined a__law_closings_in a__law_due a_law a_BadDepotU_initU a_BadBookU_initU a_OutOfRangeU_initU A_Depot A_After A_Book A_OutagainError A_OutOfRange A_BadDepot A_BadBook A_BadCrews A_NoBook p_Depot_size d__law_take d__law_depot d__law_changed d__law_choose d__law_great d__law_span d__law_gone d__law_here d__law_book d__law_case d_check_period_and_quota d_check_firsts d_DepotU_initU d__law_pool d_ascending d_check_stretches d_join_neighbours d_BookU_initU d_AfterU_initU d_Depot_size d_check_runners d_long_runs d_walk d_check_days d_Depot_closings d_crews_seen d__law_ask d__law_number d__law_same d__law_joined d__law_closings_in d__law_due d_law d_BadDepotU_initU d_BadBookU_initU d_OutOfRangeU_initU) : FnOk P w K mg base (L2.CX P w) 1 a_OutOfRangeU_initU d_OutOfRangeU_initU ["self", "at", "code"] (spX ⟨K, mg⟩ 21 3) :=
  xinit2 (N := ["self", "at", "code"]) T.F_OutOfRangeU_initU sc_OutOfRangeU_initU rfl T.ex_OutOfRange rfl rfl (fun cdv A outer s H E => pss_cons (ps_ost (pv 0) (pv 1)) (pss_one (ps_ost (pv 0) (pv 2))))
theorem ok__law_take (T : Tx K mg a__law_take a__law_depot a__law_changed a__law_choose a__law_great a__law_span a__law_gone a__law_here a__law_book a__law_case a_check_period_and_quota a_check_firsts a_DepotU_initU a__law_pool a_ascending a_check_stretches a_join_neighbours a_BookU_initU a_AfterU_initU a_Depot_size a_check_runners a_long_runs a_walk a_check_days a_Depot_closings a_crews_seen a__law_ask a__law_number a__law_same a__law_joined a__law_closings_in a__law_due a_law a_BadDepotU_initU a_BadBookU_initU a_OutOfRangeU_initU A_Depot A_After A_Book A_OutagainError A_OutOfRange A_BadDepot A_BadBook A_BadCrews A_NoBook p_Depot_size d__law_take d__law_depot d__law_changed d__law_choose d__law_great d__law_span d__law_gone d__law_here d__law_book d__law_case d_check_period_and_quota d_check_firsts d_DepotU_initU d__law_pool d_ascending d_check_stretches d_join_neighbours d_BookU_initU d_AfterU_initU d_Depot_size d_check_runners d_long_runs d_walk d_check_days d_Depot_closings d_crews_seen d__law_ask d__law_number d__law_same d__law_joined d__law_closings_in d__law_due d_law d_BadDepotU_initU d_BadBookU_initU d_OutOfRangeU_initU) : FnOk P w K mg base (L2.CX P w) 1 a__law_take d__law_take ["pool", "limit"] (liftSp ⟨K, mg⟩ w__law_take 2) :=
  fn_mkPl (N := ["pool", "limit", "cell", "got", "k", "mixed"]) (ps := ["pool", "limit"]) (k := 0) (pb := b__law_take) T.F__law_take sc__law_take (by decide) fun cdv A outer s H E hr => ⟨_, (lss_cons (ls_if (LWt.t (lw_and (lt_cmp (op_eqD hr.units) ol_eq (LX.v (lx_ix (lv_var 0) (LX.v lx_int) (fun _ _ => rfl))) (LX.v lx_int) (nomark _)) (lw_and1 (lt_cmp L2.op_lt ol_lt (LX.v (lx_ix (lv_var 0) (LX.v lx_int) (fun _ _ => rfl))) (LX.v (lx_callB call_len cl_len rfl T.n_len bb_len (lw_cons (LX.v (lx_ix (lv_var 0) (LX.v lx_int) (fun _ _ => rfl))) lw_nil))) (nomark _))))) (lss_cons (ls_set 2 sc__law_take.nd (lx_callB call_abs cl_abs rfl T.n_abs bb_abs (lw_cons (LX.v (lx_ix (LX.v (lx_ix (lv_var 0) (LX.v lx_int) (fun _ _ => rfl))) (LX.v (lx_ix (lv_var 0) (LX.v lx_int) (fun _ _ => rfl))) (fun _ _ => rfl))) lw_nil)))
 (lss_cons (ls_setI 0 (lx_bin op_addAll ol_add (LX.v (lx_ix (lv_var 0) (LX.v lx_int) (fun _ _ => rfl))) (LX.v lx_int)) lx_int)
 (lss_one (ls_if (lt_cmp L2.op_ge ol_ge (LX.v (lx_var 2)) (LX.v (lx_bin op_pow ol_pow (LX.v lx_int) (LX.v lx_int))) (nomark _)) (lss_one (ls_setI 0 (lx_var 2) lx_int)) (lss_one (ls_setI 0 (lx_bin op_mod ol_mod (LX.v (lx_callT call_int1 cl_int rfl T.n_int bb_int (lw_cons (LX.v (lx_bin op_addAll ol_add (LX.v (lx_bin op_addAll ol_add (LX.v (lx_bin op_mulAll ol_mul (LX.v (lx_ix (lv_var 0) (LX.v lx_int) (fun _ _ => rfl))) (LX.v lx_int))) (LX.v (lx_var 2)))) (LX.v lx_int))) lw_nil))) (LX.v lx_int)) lx_int)))))) lss_nil)
 (lss_cons (ls_if (lt_cmp L2.op_gt ol_gt (LX.v (lx_ix (lv_var 0) (LX.v lx_int) (fun _ _ => rfl))) (LX.v lx_int) (nomark _)) (lss_cons (ls_set 3 sc__law_take.nd (lx_bin op_mod ol_mod (LX.v (lx_callT call_int1 cl_int rfl T.n_int bb_int (lw_cons (LX.v (lx_ix (lv_var 0) (LX.v lx_int) (fun _ _ => rfl))) lw_nil))) (LX.v (lx_var 1))))
 (lss_cons (ls_setI 0 (lx_bin op_fdivW ol_div (LX.v (lx_ix (lv_var 0) (LX.v lx_int) (fun _ _ => rfl))) (LX.v (lx_var 1))) lx_int)
 (lss_one (ls_ret (lx_var 3))))) lss_nil)
 (lss_cons (ls_set 4 sc__law_take.nd (lx_bin op_addAll ol_add (LX.v (lx_ix (lv_var 0) (LX.v lx_int) (fun _ _ => rfl))) (LX.v lx_int)))
 (lss_cons (ls_setI 0 (lx_var 4) lx_int)
 (lss_cons (ls_set 5 sc__law_take.nd (lx_ix (lv_var 0) (LX.v lx_int) (fun _ _ => rfl)))
 (lss_cons (ls_set 5 sc__law_take.nd (lx_bin op_mod ol_mod (LX.v (lx_callT call_int1 cl_int rfl T.n_int bb_int (lw_cons (LX.v (lx_bin op_addAll ol_add (LX.v (lx_bin op_addAll ol_add (LX.v (lx_bin op_mulAll ol_mul (LX.v (lx_var 5)) (LX.v (lx_var 5)))) (LX.v (lx_bin op_mulAll ol_mul (LX.v (lx_var 4)) (LX.v lx_int))))) (LX.v lx_int))) lw_nil))) (LX.v lx_int)))
 (lss_cons (ls_set 5 sc__law_take.nd (lx_bin op_mod ol_mod (LX.v (lx_callT call_int1 cl_int rfl T.n_int bb_int (lw_cons (LX.v (lx_bin op_addAll ol_add (LX.v (lx_bin op_mulAll ol_mul (LX.v (lx_var 5)) (LX.v (lx_var 5)))) (LX.v (lx_bin op_fdivW ol_div (LX.v (lx_var 5)) (LX.v lx_int))))) lw_nil))) (LX.v lx_int)))
 (lss_cons (ls_setI 0 (lx_var 5) lx_int)
 (lss_one (ls_ret (lx_bin op_mod ol_mod (LX.v (lx_callT call_int1 cl_int rfl T.n_int bb_int (lw_cons (LX.v (lx_bin op_fdivW ol_div (LX.v (lx_var 5)) (LX.v lx_int))) lw_nil))) (LX.v (lx_var 1)))))))))))))⟩
theorem ok__law_depot (T : Tx K mg a__law_take a__law_depot a__law_changed a__law_choose a__law_great a__law_span a__law_gone a__law_here a__law_book a__law_case a_check_period_and_quota a_check_firsts a_DepotU_initU a__law_pool a_ascending a_check_stretches a_join_neighbours a_BookU_initU a_AfterU_initU a_Depot_size a_check_runners a_long_runs a_walk a_check_days a_Depot_closings a_crews_seen a__law_ask a__law_number a__law_same a__law_joined a__law_closings_in a__law_due a_law a_BadDepotU_initU a_BadBookU_initU a_OutOfRangeU_initU A_Depot A_After A_Book A_OutagainError A_OutOfRange A_BadDepot A_BadBook A_BadCrews A_NoBook p_Depot_size d__law_take d__law_depot d__law_changed d__law_choose d__law_great d__law_span d__law_gone d__law_here d__law_book d__law_case d_check_period_and_quota d_check_firsts d_DepotU_initU d__law_pool d_ascending d_check_stretches d_join_neighbours d_BookU_initU d_AfterU_initU d_Depot_size d_check_runners d_long_runs d_walk d_check_days d_Depot_closings d_crews_seen d__law_ask d__law_number d__law_same d__law_joined d__law_closings_in d__law_due d_law d_BadDepotU_initU d_BadBookU_initU d_OutOfRangeU_initU) : FnOk P w K mg base (L2.CX P w) 2 a__law_depot d__law_depot ["pool", "drivers", "period"] (liftSp ⟨K, mg⟩ w__law_depot 3) :=
  fn_mk (N := ["pool", "drivers", "period", "m", "n", "q", "firsts", "k"]) (ps := ["pool", "drivers", "period"]) (k := 1) (pb := b__law_depot) T.F__law_depot sc__law_depot fun cdv A outer s H E hr => ⟨_, (lss_cons (ls_set 3 sc__law_depot.nd (lx_bin op_addAll ol_add (LX.v lx_int) (LX.v (lx_call (takes_of rfl rfl rfl rfl) (ok__law_take T) (hr.mono (by first | decide | omega)) rfl T.G__law_take T.K__law_take T.B__law_take (lan_cons (lx_var 0) (lan_cons (lx_var 2) lan_nil))))))
 (lss_cons (ls_set 4 sc__law_depot.nd (lx_bin op_addAll ol_add (LX.v lx_int) (LX.v (lx_call (takes_of rfl rfl rfl rfl) (ok__law_take T) (hr.mono (by first | decide | omega)) rfl T.G__law_take T.K__law_take T.B__law_take (lan_cons (lx_var 0) (lan_cons (lx_var 1) lan_nil))))))
 (lss_cons (ls_set 5 sc__law_depot.nd (lx_bin op_addAll ol_add (LX.v lx_int) (LX.v (lx_call (takes_of rfl rfl rfl rfl) (ok__law_take T) (hr.mono (by first | decide | omega)) rfl T.G__law_take T.K__law_take T.B__law_take (lan_cons (lx_var 0) (lan_cons (lx_var 4) lan_nil))))))
 (lss_cons (ls_if (lt_cmp L2.op_gt ol_gt (LX.v (lx_call (takes_of rfl rfl rfl rfl) (ok__law_take T) (hr.mono (by first | decide | omega)) rfl T.G__law_take T.K__law_take T.B__law_take (lan_cons (lx_var 0) (lan_cons lx_int lan_nil)))) (LX.v lx_int) (nomark _)) (lss_one (ls_set 5 sc__law_depot.nd (lx_bin op_addAll ol_add (LX.v lx_int) (LX.v (lx_call (takes_of rfl rfl rfl rfl) (ok__law_take T) (hr.mono (by first | decide | omega)) rfl T.G__law_take T.K__law_take T.B__law_take (lan_cons (lx_var 0) (lan_cons (lx_callB (call_min2 rfl) cl_min2 rfl T.n_min bb_min (lw_cons (LX.v (lx_var 4)) (lw_cons (LX.v lx_int) lw_nil))) lan_nil))))))) lss_nil)
 (lss_cons (ls_setO 6 sc__law_depot.nd (lo_bin op_rep olo_rep (LO.v (lo_lst (la_cons lx_int la_nil))) (LX.v (lx_var 5))))
 (lss_cons (ls_for (passes_of rfl) rfl (li_range1 rfl T.n_range (lx_bin op_sub ol_sub (LX.v (lx_var 4)) (LX.v (lx_var 5)))) (lg_name 7 sc__law_depot.nd) (lss_one (ls_ins 6 (lx_call (takes_of rfl rfl rfl rfl) (ok__law_take T) (hr.mono (by first | decide | omega)) rfl T.G__law_take T.K__law_take T.B__law_take (lan_cons (lx_var 0) (lan_cons (lx_bin op_addAll ol_add (LX.v (lx_callB call_len cl_len rfl T.n_len bb_len (lw_cons (lv_var 6) lw_nil))) (LX.v lx_int)) lan_nil))) (lx_bin op_addAll ol_add (LX.v lx_int) (LX.v (lx_call (takes_of rfl rfl rfl rfl) (ok__law_take T) (hr.mono (by first | decide | omega)) rfl T.G__law_take T.K__law_take T.B__law_take (lan_cons (lx_var 0) (lan_cons (lx_var 3) lan_nil))))))))
 (lss_one (ls_freeze 6 (ls_ret (LO.x (lo_lst (la_cons (lx_var 3) (la_cons (lx_var 5) (la_cons (lx_var 6) la_nil))))))))))))))⟩
theorem ok__law_changed (T : Tx K mg a__law_take a__law_depot a__law_changed a__law_choose a__law_great a__law_span a__law_gone a__law_here a__law_book a__law_case a_check_period_and_quota a_check_firsts a_DepotU_initU a__law_pool a_ascending a_check_stretches a_join_neighbours a_BookU_initU a_AfterU_initU a_Depot_size a_check_runners a_long_runs a_walk a_check_days a_Depot_closings a_crews_seen a__law_ask a__law_number a__law_same a__law_joined a__law_closings_in a__law_due a_law a_BadDepotU_initU a_BadBookU_initU a_OutOfRangeU_initU A_Depot A_After A_Book A_OutagainError A_OutOfRange A_BadDepot A_BadBook A_BadCrews A_NoBook p_Depot_size d__law_take d__law_depot d__law_changed d__law_choose d__law_great d__law_span d__law_gone d__law_here d__law_book d__law_case d_check_period_and_quota d_check_firsts d_DepotU_initU d__law_pool d_ascending d_check_stretches d_join_neighbours d_BookU_initU d_AfterU_initU d_Depot_size d_check_runners d_long_runs d_walk d_check_days d_Depot_closings d_crews_seen d__law_ask d__law_number d__law_same d__law_joined d__law_closings_in d__law_due d_law d_BadDepotU_initU d_BadBookU_initU d_OutOfRangeU_initU) : FnOk P w K mg base (L2.CX P w) 2 a__law_changed d__law_changed ["pool", "plan", "rows"] (liftSp ⟨K, mg⟩ w__law_changed 3) :=
  fn_mk (N := ["pool", "plan", "rows", "got", "k", "crew", "way", "at"]) (ps := ["pool", "plan", "rows"]) (k := 1) (pb := b__law_changed) T.F__law_changed sc__law_changed fun cdv A outer s H E hr => ⟨_, (lss_cons (ls_setO 3 sc__law_changed.nd (lo_callT call_list_of cl_list rfl T.n_list bb_list (lw_cons (LX.v (lx_var 2)) lw_nil)))
 (lss_cons (ls_if (lt_cmp (op_eqD hr.units) ol_eq (lv_var 3) (LO.v (lo_lst la_nil)) (nomark _)) (lss_one (ls_ret (LO.x (lo_lst (la_cons (lx_tup (la_cons lx_int (la_cons (lx_tup (la_cons (lx_call (takes_of rfl rfl rfl rfl) (ok__law_take T) (hr.mono (by first | decide | omega)) rfl T.G__law_take T.K__law_take T.B__law_take (lan_cons (lx_var 0) (lan_cons lx_int lan_nil))) la_nil)) la_nil))) la_nil))))) lss_nil)
 (lss_cons (ls_set 4 sc__law_changed.nd (lx_call (takes_of rfl rfl rfl rfl) (ok__law_take T) (hr.mono (by first | decide | omega)) rfl T.G__law_take T.K__law_take T.B__law_take (lan_cons (lx_var 0) (lan_cons (lx_callB call_len cl_len rfl T.n_len bb_len (lw_cons (lv_var 3) lw_nil)) lan_nil))))
 (lss_cons (ls_setO 5 sc__law_changed.nd (lo_callT call_list_of cl_list rfl T.n_list bb_list (lw_cons (LX.v (lx_ix (LX.v (lx_ix (lv_var 3) (LX.v (lx_var 4)) (fun _ _ => rfl))) (LX.v lx_int) (fun _ _ => rfl))) lw_nil)))
 (lss_cons (ls_set 6 sc__law_changed.nd (lx_call (takes_of rfl rfl rfl rfl) (ok__law_take T) (hr.mono (by first | decide | omega)) rfl T.G__law_take T.K__law_take T.B__law_take (lan_cons (lx_var 0) (lan_cons lx_int lan_nil))))
 (lss_cons (ls_if (lt_cmp (op_eqD hr.units) ol_eq (LX.v (lx_var 6)) (LX.v lx_int) (nomark _)) (lss_one (ls_popAt 5 (lx_call (takes_of rfl rfl rfl rfl) (ok__law_take T) (hr.mono (by first | decide | omega)) rfl T.G__law_take T.K__law_take T.B__law_take (lan_cons (lx_var 0) (lan_cons (lx_callB call_len cl_len rfl T.n_len bb_len (lw_cons (lv_var 5) lw_nil)) lan_nil))))) lss_nil)
 (lss_cons (ls_if (lt_cmp (op_eqD hr.units) ol_eq (LX.v (lx_var 6)) (LX.v lx_int) (nomark _)) (lss_one (ls_app 5 (lx_call (takes_of rfl rfl rfl rfl) (ok__law_take T) (hr.mono (by first | decide | omega)) rfl T.G__law_take T.K__law_take T.B__law_take (lan_cons (lx_var 0) (lan_cons lx_int lan_nil))))) lss_nil)
 (lss_cons (ls_if (LWt.t (lw_or (lt_cmp (op_eqD hr.units) ol_eq (LX.v (lx_var 6)) (LX.v lx_int) (nomark _)) (lw_or1 (lt_cmp (op_eqD hr.units) ol_eq (LX.v (lx_var 6)) (LX.v lx_int) (nomark _))))) (lss_one (ls_setI 5 (lx_call (takes_of rfl rfl rfl rfl) (ok__law_take T) (hr.mono (by first | decide | omega)) rfl T.G__law_take T.K__law_take T.B__law_take (lan_cons (lx_var 0) (lan_cons (lx_callB call_len cl_len rfl T.n_len bb_len (lw_cons (LX.v (lx_ix (LX.v (lx_var 1)) (LX.v lx_int) (fun _ _ => rfl))) lw_nil)) lan_nil))) (lx_call (takes_of rfl rfl rfl rfl) (ok__law_take T) (hr.mono (by first | decide | omega)) rfl T.G__law_take T.K__law_take T.B__law_take (lan_cons (lx_var 0) (lan_cons (lx_callB call_len cl_len rfl T.n_len bb_len (lw_cons (lv_var 5) lw_nil)) lan_nil))))) lss_nil)
 (lss_cons (ls_if (lt_cmp (op_eqD hr.units) ol_eq (LX.v (lx_var 6)) (LX.v lx_int) (nomark _)) (lss_one (ls_setI 5 (lx_call (takes_of rfl rfl rfl rfl) (ok__law_take T) (hr.mono (by first | decide | omega)) rfl T.G__law_take T.K__law_take T.B__law_take (lan_cons (lx_var 0) (lan_cons lx_int lan_nil))) (lx_call (takes_of rfl rfl rfl rfl) (ok__law_take T) (hr.mono (by first | decide | omega)) rfl T.G__law_take T.K__law_take T.B__law_take (lan_cons (lx_var 0) (lan_cons (lx_callB call_len cl_len rfl T.n_len bb_len (lw_cons (lv_var 5) lw_nil)) lan_nil))))) lss_nil)
 (lss_cons (ls_if (lt_cmp (op_eqD hr.units) ol_eq (LX.v (lx_var 6)) (LX.v lx_int) (nomark _)) (lss_cons (ls_set 7 sc__law_changed.nd (lx_call (takes_of rfl rfl rfl rfl) (ok__law_take T) (hr.mono (by first | decide | omega)) rfl T.G__law_take T.K__law_take T.B__law_take (lan_cons (lx_var 0) (lan_cons (lx_callB call_len cl_len rfl T.n_len bb_len (lw_cons (lv_var 3) lw_nil)) lan_nil))))
 (lss_cons (ls_setO 5 sc__law_changed.nd (lo_callT call_list_of cl_list rfl T.n_list bb_list (lw_cons (LX.v (lx_ix (LX.v (lx_ix (lv_var 3) (LX.v (lx_var 7)) (fun _ _ => rfl))) (LX.v lx_int) (fun _ _ => rfl))) lw_nil)))
 (lss_one (ls_setI 3 (lx_tup (la_cons (lx_ix (LX.v (lx_ix (lv_var 3) (LX.v (lx_var 7)) (fun _ _ => rfl))) (LX.v lx_int) (fun _ _ => rfl)) (la_cons (lx_ix (LX.v (lx_ix (lv_var 3) (LX.v (lx_var 4)) (fun _ _ => rfl))) (LX.v lx_int) (fun _ _ => rfl)) la_nil))) (lx_var 7))))) lss_nil)
 (lss_cons (ls_freeze 5 (ls_setI 3 (lx_tup (la_cons (lx_ix (LX.v (lx_ix (lv_var 3) (LX.v (lx_var 4)) (fun _ _ => rfl))) (LX.v lx_int) (fun _ _ => rfl)) (la_cons (lx_callT call_tupN cl_tuple rfl T.n_tuple bb_tuple (lw_cons (LO.v (lo_srtSet rfl rfl T.n_sorted bb_sorted rfl T.n_set bb_set (lw_cons (lv_var 5) lw_nil))) lw_nil)) la_nil))) (lx_var 4)))
 (lss_one (ls_freeze 3 (ls_ret (lx_var 3)))))))))))))))⟩
theorem ok__law_choose (T : Tx K mg a__law_take a__law_depot a__law_changed a__law_choose a__law_great a__law_span a__law_gone a__law_here a__law_book a__law_case a_check_period_and_quota a_check_firsts a_DepotU_initU a__law_pool a_ascending a_check_stretches a_join_neighbours a_BookU_initU a_AfterU_initU a_Depot_size a_check_runners a_long_runs a_walk a_check_days a_Depot_closings a_crews_seen a__law_ask a__law_number a__law_same a__law_joined a__law_closings_in a__law_due a_law a_BadDepotU_initU a_BadBookU_initU a_OutOfRangeU_initU A_Depot A_After A_Book A_OutagainError A_OutOfRange A_BadDepot A_BadBook A_BadCrews A_NoBook p_Depot_size d__law_take d__law_depot d__law_changed d__law_choose d__law_great d__law_span d__law_gone d__law_here d__law_book d__law_case d_check_period_and_quota d_check_firsts d_DepotU_initU d__law_pool d_ascending d_check_stretches d_join_neighbours d_BookU_initU d_AfterU_initU d_Depot_size d_check_runners d_long_runs d_walk d_check_days d_Depot_closings d_crews_seen d__law_ask d__law_number d__law_same d__law_joined d__law_closings_in d__law_due d_law d_BadDepotU_initU d_BadBookU_initU d_OutOfRangeU_initU) : FnOk P w K mg base (L2.CX P w) 2 a__law_choose d__law_choose ["pool", "here", "many"] (liftSp ⟨K, mg⟩ w__law_choose 3) :=
  fn_mk (N := ["pool", "here", "many", "rest", "got", "k"]) (ps := ["pool", "here", "many"]) (k := 1) (pb := b__law_choose) T.F__law_choose sc__law_choose fun cdv A outer s H E hr => ⟨_, (lss_cons (ls_setO 3 sc__law_choose.nd (lo_callT call_list_of cl_list rfl T.n_list bb_list (lw_cons (LX.v (lx_var 1)) lw_nil)))
 (lss_cons (ls_setO 4 sc__law_choose.nd (lo_lst la_nil))
 (lss_cons (ls_for (passes_of rfl) rfl (li_range1 rfl T.n_range (lx_var 2)) (lg_name 5 sc__law_choose.nd) (lss_one (ls_appM 4 (lxm_popAt 3 (lx_call (takes_of rfl rfl rfl rfl) (ok__law_take T) (hr.mono (by first | decide | omega)) rfl T.G__law_take T.K__law_take T.B__law_take (lan_cons (lx_var 0) (lan_cons (lx_callB call_len cl_len rfl T.n_len bb_len (lw_cons (lv_var 3) lw_nil)) lan_nil)))))))
 (lss_one (ls_ret (LO.x (lo_callB cr_sortedI cl_sortI rfl T.n_sorted bb_sorted (lw_cons (lv_var 4) lw_nil))))))))⟩
theorem ok__law_great (T : Tx K mg a__law_take a__law_depot a__law_changed a__law_choose a__law_great a__law_span a__law_gone a__law_here a__law_book a__law_case a_check_period_and_quota a_check_firsts a_DepotU_initU a__law_pool a_ascending a_check_stretches a_join_neighbours a_BookU_initU a_AfterU_initU a_Depot_size a_check_runners a_long_runs a_walk a_check_days a_Depot_closings a_crews_seen a__law_ask a__law_number a__law_same a__law_joined a__law_closings_in a__law_due a_law a_BadDepotU_initU a_BadBookU_initU a_OutOfRangeU_initU A_Depot A_After A_Book A_OutagainError A_OutOfRange A_BadDepot A_BadBook A_BadCrews A_NoBook p_Depot_size d__law_take d__law_depot d__law_changed d__law_choose d__law_great d__law_span d__law_gone d__law_here d__law_book d__law_case d_check_period_and_quota d_check_firsts d_DepotU_initU d__law_pool d_ascending d_check_stretches d_join_neighbours d_BookU_initU d_AfterU_initU d_Depot_size d_check_runners d_long_runs d_walk d_check_days d_Depot_closings d_crews_seen d__law_ask d__law_number d__law_same d__law_joined d__law_closings_in d__law_due d_law d_BadDepotU_initU d_BadBookU_initU d_OutOfRangeU_initU) : FnOk P w K mg base (L2.CX P w) 2 a__law_great d__law_great ["pool", "most"] (liftSp ⟨K, mg⟩ w__law_great 2) :=
  fn_mk (N := ["pool", "most", "way", "got", "k"]) (ps := ["pool", "most"]) (k := 1) (pb := b__law_great) T.F__law_great sc__law_great fun cdv A outer s H E hr => ⟨_, (lss_cons (ls_set 2 sc__law_great.nd (lx_call (takes_of rfl rfl rfl rfl) (ok__law_take T) (hr.mono (by first | decide | omega)) rfl T.G__law_take T.K__law_take T.B__law_take (lan_cons (lx_var 0) (lan_cons lx_int lan_nil))))
 (lss_cons (ls_if (lt_cmp L2.op_lt ol_lt (LX.v (lx_var 2)) (LX.v lx_int) (nomark _)) (lss_one (ls_ret (lx_callB (call_min2 rfl) cl_min2 rfl T.n_min bb_min (lw_cons (LX.v (lx_var 1)) (lw_cons (LX.v (lx_call (takes_of rfl rfl rfl rfl) (ok__law_take T) (hr.mono (by first | decide | omega)) rfl T.G__law_take T.K__law_take T.B__law_take (lan_cons (lx_var 0) (lan_cons lx_int lan_nil)))) lw_nil))))) lss_nil)
 (lss_cons (ls_if (lt_cmp (op_eqD hr.units) ol_eq (LX.v (lx_var 2)) (LX.v lx_int) (nomark _)) (lss_one (ls_ret (lx_callB (call_min2 rfl) cl_min2 rfl T.n_min bb_min (lw_cons (LX.v (lx_var 1)) (lw_cons (LX.v (lx_call (takes_of rfl rfl rfl rfl) (ok__law_take T) (hr.mono (by first | decide | omega)) rfl T.G__law_take T.K__law_take T.B__law_take (lan_cons (lx_var 0) (lan_cons lx_int lan_nil)))) lw_nil))))) lss_nil)
 (lss_cons (ls_if (lt_cmp L2.op_gt ol_gt (LX.v (lx_ix (LX.v (lx_var 0)) (LX.v lx_int) (fun _ _ => rfl))) (LX.v (lx_var 1)) (nomark _)) (lss_one (ls_ret (lx_call (takes_of rfl rfl rfl rfl) (ok__law_take T) (hr.mono (by first | decide | omega)) rfl T.G__law_take T.K__law_take T.B__law_take (lan_cons (lx_var 0) (lan_cons (lx_bin op_addAll ol_add (LX.v (lx_var 1)) (LX.v lx_int)) lan_nil))))) lss_nil)
 (lss_cons (ls_set 3 sc__law_great.nd lx_int)
 (lss_cons (ls_for (passes_of rfl) rfl (li_range1 rfl T.n_range lx_int) (lg_name 4 sc__law_great.nd) (lss_one (ls_set 3 sc__law_great.nd (lx_bin op_addAll ol_add (LX.v (lx_bin op_mulAll ol_mul (LX.v (lx_var 3)) (LX.v (lx_bin op_pow ol_pow (LX.v lx_int) (LX.v lx_int))))) (LX.v (lx_call (takes_of rfl rfl rfl rfl) (ok__law_take T) (hr.mono (by first | decide | omega)) rfl T.G__law_take T.K__law_take T.B__law_take (lan_cons (lx_var 0) (lan_cons (lx_bin op_pow ol_pow (LX.v lx_int) (LX.v lx_int)) lan_nil))))))))
 (lss_one (ls_ret (lx_bin op_mod ol_mod (LX.v (lx_callT call_int1 cl_int rfl T.n_int bb_int (lw_cons (LX.v (lx_var 3)) lw_nil))) (LX.v (lx_bin op_addAll ol_add (LX.v (lx_var 1)) (LX.v lx_int))))))))))))⟩
theorem ok__law_span (T : Tx K mg a__law_take a__law_depot a__law_changed a__law_choose a__law_great a__law_span a__law_gone a__law_here a__law_book a__law_case a_check_period_and_quota a_check_firsts a_DepotU_initU a__law_pool a_ascending a_check_stretches a_join_neighbours a_BookU_initU a_AfterU_initU a_Depot_size a_check_runners a_long_runs a_walk a_check_days a_Depot_closings a_crews_seen a__law_ask a__law_number a__law_same a__law_joined a__law_closings_in a__law_due a_law a_BadDepotU_initU a_BadBookU_initU a_OutOfRangeU_initU A_Depot A_After A_Book A_OutagainError A_OutOfRange A_BadDepot A_BadBook A_BadCrews A_NoBook p_Depot_size d__law_take d__law_depot d__law_changed d__law_choose d__law_great d__law_span d__law_gone d__law_here d__law_book d__law_case d_check_period_and_quota d_check_firsts d_DepotU_initU d__law_pool d_ascending d_check_stretches d_join_neighbours d_BookU_initU d_AfterU_initU d_Depot_size d_check_runners d_long_runs d_walk d_check_days d_Depot_closings d_crews_seen d__law_ask d__law_number d__law_same d__law_joined d__law_closings_in d__law_due d_law d_BadDepotU_initU d_BadBookU_initU d_OutOfRangeU_initU) : FnOk P w K mg base (L2.CX P w) 3 a__law_span d__law_span ["pool", "great"] (liftSp ⟨K, mg⟩ w__law_span 2) :=
  fn_mk (N := ["pool", "great", "way"]) (ps := ["pool", "great"]) (k := 2) (pb := b__law_span) T.F__law_span sc__law_span fun cdv A outer s H E hr => ⟨_, (lss_cons (ls_set 2 sc__law_span.nd (lx_call (takes_of rfl rfl rfl rfl) (ok__law_take T) (hr.mono (by first | decide | omega)) rfl T.G__law_take T.K__law_take T.B__law_take (lan_cons (lx_var 0) (lan_cons lx_int lan_nil))))
 (lss_cons (ls_if (LWt.t (lw_and (lt_cmp (op_eqD hr.units) ol_eq (LX.v (lx_var 2)) (LX.v lx_int) (nomark _)) (lw_and1 (lt_cmp L2.op_gt ol_gt (LX.v (lx_var 1)) (LX.v lx_int) (nomark _))))) (lss_one (ls_ret (lx_bin op_addAll ol_add (LX.v lx_int) (LX.v (lx_call (takes_of rfl rfl rfl rfl) (ok__law_great T) (hr.mono (by first | decide | omega)) rfl T.G__law_great T.K__law_great T.B__law_great (lan_cons (lx_var 0) (lan_cons (lx_var 1) lan_nil))))))) lss_nil)
 (lss_cons (ls_if (lt_cmp (op_eqD hr.units) ol_eq (LX.v (lx_var 2)) (LX.v lx_int) (nomark _)) (lss_one (ls_ret (lx_bin op_addAll ol_add (LX.v lx_int) (LX.v (lx_call (takes_of rfl rfl rfl rfl) (ok__law_take T) (hr.mono (by first | decide | omega)) rfl T.G__law_take T.K__law_take T.B__law_take (lan_cons (lx_var 0) (lan_cons lx_int lan_nil))))))) lss_nil)
 (lss_one (ls_ret lx_int)))))⟩
theorem ok__law_gone (T : Tx K mg a__law_take a__law_depot a__law_changed a__law_choose a__law_great a__law_span a__law_gone a__law_here a__law_book a__law_case a_check_period_and_quota a_check_firsts a_DepotU_initU a__law_pool a_ascending a_check_stretches a_join_neighbours a_BookU_initU a_AfterU_initU a_Depot_size a_check_runners a_long_runs a_walk a_check_days a_Depot_closings a_crews_seen a__law_ask a__law_number a__law_same a__law_joined a__law_closings_in a__law_due a_law a_BadDepotU_initU a_BadBookU_initU a_OutOfRangeU_initU A_Depot A_After A_Book A_OutagainError A_OutOfRange A_BadDepot A_BadBook A_BadCrews A_NoBook p_Depot_size d__law_take d__law_depot d__law_changed d__law_choose d__law_great d__law_span d__law_gone d__law_here d__law_book d__law_case d_check_period_and_quota d_check_firsts d_DepotU_initU d__law_pool d_ascending d_check_stretches d_join_neighbours d_BookU_initU d_AfterU_initU d_Depot_size d_check_runners d_long_runs d_walk d_check_days d_Depot_closings d_crews_seen d__law_ask d__law_number d__law_same d__law_joined d__law_closings_in d__law_due d_law d_BadDepotU_initU d_BadBookU_initU d_OutOfRangeU_initU) : FnOk P w K mg base (L2.CX P w) 1 a__law_gone d__law_gone ["nexts", "crew", "span", "start", "m"] (liftSp ⟨K, mg⟩ w__law_gone 5) :=
  fn_mk (N := ["nexts", "crew", "span", "start", "m", "row", "i", "u"]) (ps := ["nexts", "crew", "span", "start", "m"]) (k := 0) (pb := b__law_gone) T.F__law_gone sc__law_gone fun cdv A outer s H E hr => ⟨_, (lss_cons (ls_setO 5 sc__law_gone.nd (lo_lst la_nil))
 (lss_cons (ls_for (passes_of rfl) rfl (li_range1 rfl T.n_range (lx_callB call_len cl_len rfl T.n_len bb_len (lw_cons (LX.v (lx_var 0)) lw_nil))) (lg_name 6 sc__law_gone.nd) (lss_cons (ls_set 7 sc__law_gone.nd (lx_ix (LX.v (lx_var 0)) (LX.v (lx_var 6)) (fun _ _ => rfl)))
 (lss_cons (ls_if (lt_cmp op_in_seq ol_in (LX.v (lx_var 6)) (LX.v (lx_var 1)) rfl) (lss_one (ls_set 7 sc__law_gone.nd (lx_bin op_addAll ol_add (LX.v (lx_var 3)) (LX.v (lx_var 2))))) (lss_one (ls_if (lt_cmp L2.op_lt ol_lt (LX.v (lx_var 7)) (LX.v (lx_bin op_addAll ol_add (LX.v (lx_var 3)) (LX.v (lx_var 2)))) (nomark _)) (lss_one (ls_set 7 sc__law_gone.nd (lx_bin op_addAll ol_add (LX.v (lx_var 7)) (LX.v (lx_bin op_mulAll ol_mul (LX.v (lx_var 4)) (LX.v (lx_bin op_fdivW ol_div (LX.v (lx_bin op_sub ol_sub (LX.v (lx_bin op_addAll ol_add (LX.v (lx_bin op_sub ol_sub (LX.v (lx_bin op_addAll ol_add (LX.v (lx_var 3)) (LX.v (lx_var 2)))) (LX.v (lx_var 7)))) (LX.v (lx_var 4)))) (LX.v lx_int))) (LX.v (lx_var 4))))))))) lss_nil)))
 (lss_one (ls_app 5 (lx_var 7))))))
 (lss_one (ls_freeze 5 (ls_ret (lx_var 5))))))⟩
theorem ok__law_here (T : Tx K mg a__law_take a__law_depot a__law_changed a__law_choose a__law_great a__law_span a__law_gone a__law_here a__law_book a__law_case a_check_period_and_quota a_check_firsts a_DepotU_initU a__law_pool a_ascending a_check_stretches a_join_neighbours a_BookU_initU a_AfterU_initU a_Depot_size a_check_runners a_long_runs a_walk a_check_days a_Depot_closings a_crews_seen a__law_ask a__law_number a__law_same a__law_joined a__law_closings_in a__law_due a_law a_BadDepotU_initU a_BadBookU_initU a_OutOfRangeU_initU A_Depot A_After A_Book A_OutagainError A_OutOfRange A_BadDepot A_BadBook A_BadCrews A_NoBook p_Depot_size d__law_take d__law_depot d__law_changed d__law_choose d__law_great d__law_span d__law_gone d__law_here d__law_book d__law_case d_check_period_and_quota d_check_firsts d_DepotU_initU d__law_pool d_ascending d_check_stretches d_join_neighbours d_BookU_initU d_AfterU_initU d_Depot_size d_check_runners d_long_runs d_walk d_check_days d_Depot_closings d_crews_seen d__law_ask d__law_number d__law_same d__law_joined d__law_closings_in d__law_due d_law d_BadDepotU_initU d_BadBookU_initU d_OutOfRangeU_initU) : FnOk P w K mg base (L2.CX P w) 1 a__law_here d__law_here ["nexts", "morning"] (liftSp ⟨K, mg⟩ w__law_here 2) :=
  fn_mk (N := ["nexts", "morning", "i"]) (ps := ["nexts", "morning"]) (k := 0) (pb := b__law_here) T.F__law_here sc__law_here fun cdv A outer s H E hr => ⟨_, (lss_one (ls_ret (LO.x (lo_lc (own := [("i", 2)]) rfl sc__law_here.nd (li_range1 rfl T.n_range (lx_callB call_len cl_len rfl T.n_len bb_len (lw_cons (LX.v (lx_var 0)) lw_nil))) (blkOk_by (N := ["nexts", "morning", "i"]) (sc := defScope s__law_here) (by decide +kernel)) (fun _ _ _ _ _ => ⟨_, (lg_name 2 sc__law_here.nd)⟩) (fun _ _ _ _ _ => ⟨_, (lts_one (lt_cmp (op_eqD hr.units) ol_eq (LX.v (lx_ix (LX.v (lx_var 0)) (LX.v (lx_var 2)) (fun _ _ => rfl))) (LX.v (lx_var 1)) (nomark _)))⟩) (fun _ _ _ _ _ => ⟨_, (lx_var 2)⟩) (by decide)))))⟩
theorem ok__law_book (T : Tx K mg a__law_take a__law_depot a__law_changed a__law_choose a__law_great a__law_span a__law_gone a__law_here a__law_book a__law_case a_check_period_and_quota a_check_firsts a_DepotU_initU a__law_pool a_ascending a_check_stretches a_join_neighbours a_BookU_initU a_AfterU_initU a_Depot_size a_check_runners a_long_runs a_walk a_check_days a_Depot_closings a_crews_seen a__law_ask a__law_number a__law_same a__law_joined a__law_closings_in a__law_due a_law a_BadDepotU_initU a_BadBookU_initU a_OutOfRangeU_initU A_Depot A_After A_Book A_OutagainError A_OutOfRange A_BadDepot A_BadBook A_BadCrews A_NoBook p_Depot_size d__law_take d__law_depot d__law_changed d__law_choose d__law_great d__law_span d__law_gone d__law_here d__law_book d__law_case d_check_period_and_quota d_check_firsts d_DepotU_initU d__law_pool d_ascending d_check_stretches d_join_neighbours d_BookU_initU d_AfterU_initU d_Depot_size d_check_runners d_long_runs d_walk d_check_days d_Depot_closings d_crews_seen d__law_ask d__law_number d__law_same d__law_joined d__law_closings_in d__law_due d_law d_BadDepotU_initU d_BadBookU_initU d_OutOfRangeU_initU) : FnOk P w K mg base (L2.CX P w) 4 a__law_book d__law_book ["pool", "plan", "many", "great"] (liftSp ⟨K, mg⟩ w__law_book 4) :=
  fn_mk (N := ["pool", "plan", "many", "great", "nexts", "counts", "rows", "start", "k", "crew", "span", "i"]) (ps := ["pool", "plan", "many", "great"]) (k := 3) (pb := b__law_book) T.F__law_book sc__law_book fun cdv A outer s H E hr => ⟨_, (lss_cons (ls_set 4 sc__law_book.nd (LO.x (lo_callT call_list_of cl_list rfl T.n_list bb_list (lw_cons (LX.v (lx_ix (LX.v (lx_var 1)) (LX.v lx_int) (fun _ _ => rfl))) lw_nil))))
 (lss_cons (ls_setO 5 sc__law_book.nd (lo_bin op_rep olo_rep (LO.v (lo_lst (la_cons lx_int la_nil))) (LX.v (lx_callB call_len cl_len rfl T.n_len bb_len (lw_cons (LX.v (lx_var 4)) lw_nil)))))
 (lss_cons (ls_setO 6 sc__law_book.nd (lo_lst la_nil))
 (lss_cons (ls_set 7 sc__law_book.nd lx_int)
 (lss_cons (ls_for (passes_of rfl) rfl (li_range1 rfl T.n_range (lx_var 2)) (lg_name 8 sc__law_book.nd) (lss_cons (ls_set 9 sc__law_book.nd (lx_call (takes_of rfl rfl rfl rfl) (ok__law_choose T) (hr.mono (by first | decide | omega)) rfl T.G__law_choose T.K__law_choose T.B__law_choose (lan_cons (lx_var 0) (lan_cons (lx_call (takes_of rfl rfl rfl rfl) (ok__law_here T) (hr.mono (by first | decide | omega)) rfl T.G__law_here T.K__law_here T.B__law_here (lan_cons (lx_var 4) (lan_cons (lx_var 7) lan_nil))) (lan_cons (lx_ix (LX.v (lx_var 1)) (LX.v lx_int) (fun _ _ => rfl)) lan_nil)))))
 (lss_cons (ls_set 10 sc__law_book.nd (lx_call (takes_of rfl rfl rfl rfl) (ok__law_span T) (hr.mono (by first | decide | omega)) rfl T.G__law_span T.K__law_span T.B__law_span (lan_cons (lx_var 0) (lan_cons (lx_var 3) lan_nil))))
 (lss_cons (ls_app 6 (lx_tup (la_cons (lx_var 10) (la_cons (lx_callT call_tupN cl_tuple rfl T.n_tuple bb_tuple (lw_cons (LX.v (lx_var 9)) lw_nil)) la_nil))))
 (lss_cons (ls_for (passes_of rfl) rfl (li_seq (lx_var 9)) (lg_name 11 sc__law_book.nd) (lss_one (ls_setI 5 (lx_bin op_addAll ol_add (LX.v (lx_ix (lv_var 5) (LX.v (lx_var 11)) (fun _ _ => rfl))) (LX.v (lx_var 10))) (lx_var 11))))
 (lss_cons (ls_set 4 sc__law_book.nd (lx_call (takes_of rfl rfl rfl rfl) (ok__law_gone T) (hr.mono (by first | decide | omega)) rfl T.G__law_gone T.K__law_gone T.B__law_gone (lan_cons (lx_var 4) (lan_cons (lx_var 9) (lan_cons (lx_var 10) (lan_cons (lx_var 7) (lan_cons (lx_ix (LX.v (lx_var 1)) (LX.v lx_int) (fun _ _ => rfl)) lan_nil)))))))
 (lss_one (ls_set 7 sc__law_book.nd (lx_bin op_addAll ol_add (LX.v (lx_var 7)) (LX.v (lx_var 10)))))))))))
 (lss_one (ls_freeze 6 (ls_freeze 5 (ls_ret (LO.x (lo_lst (la_cons (lx_var 6) (la_cons (lx_var 5) (la_cons (lx_var 4) (la_cons (lx_bin op_sub ol_sub (LX.v (lx_var 7)) (LX.v lx_int)) la_nil)))))))))))))))⟩
theorem ok__law_case (T : Tx K mg a__law_take a__law_depot a__law_changed a__law_choose a__law_great a__law_span a__law_gone a__law_here a__law_book a__law_case a_check_period_and_quota a_check_firsts a_DepotU_initU a__law_pool a_ascending a_check_stretches a_join_neighbours a_BookU_initU a_AfterU_initU a_Depot_size a_check_runners a_long_runs a_walk a_check_days a_Depot_closings a_crews_seen a__law_ask a__law_number a__law_same a__law_joined a__law_closings_in a__law_due a_law a_BadDepotU_initU a_BadBookU_initU a_OutOfRangeU_initU A_Depot A_After A_Book A_OutagainError A_OutOfRange A_BadDepot A_BadBook A_BadCrews A_NoBook p_Depot_size d__law_take d__law_depot d__law_changed d__law_choose d__law_great d__law_span d__law_gone d__law_here d__law_book d__law_case d_check_period_and_quota d_check_firsts d_DepotU_initU d__law_pool d_ascending d_check_stretches d_join_neighbours d_BookU_initU d_AfterU_initU d_Depot_size d_check_runners d_long_runs d_walk d_check_days d_Depot_closings d_crews_seen d__law_ask d__law_number d__law_same d__law_joined d__law_closings_in d__law_due d_law d_BadDepotU_initU d_BadBookU_initU d_OutOfRangeU_initU) : FnOk P w K mg base (L2.CX P w) 5 a__law_case d__law_case ["pool"] (liftSp ⟨K, mg⟩ w__law_case 1) :=
  fn_mk (N := ["pool", "plan", "books", "k", "many"]) (ps := ["pool"]) (k := 4) (pb := b__law_case) T.F__law_case sc__law_case fun cdv A outer s H E hr => ⟨_, (lss_cons (ls_if (lt_cmp (op_eqD hr.units) ol_eq (LX.v (lx_call (takes_of rfl rfl rfl rfl) (ok__law_take T) (hr.mono (by first | decide | omega)) rfl T.G__law_take T.K__law_take T.B__law_take (lan_cons (lx_var 0) (lan_cons lx_int lan_nil)))) (LX.v lx_int) (nomark _)) (lss_one (ls_set 1 sc__law_case.nd (lx_call (takes_of rfl rfl rfl rfl) (ok__law_depot T) (hr.mono (by first | decide | omega)) rfl T.G__law_depot T.K__law_depot T.B__law_depot (lan_cons (lx_var 0) (lan_cons lx_int (lan_cons lx_int lan_nil)))))) (lss_one (ls_set 1 sc__law_case.nd (lx_call (takes_of rfl rfl rfl rfl) (ok__law_depot T) (hr.mono (by first | decide | omega)) rfl T.G__law_depot T.K__law_depot T.B__law_depot (lan_cons (lx_var 0) (lan_cons lx_int (lan_cons lx_int lan_nil)))))))
 (lss_cons (ls_setO 2 sc__law_case.nd (lo_lst la_nil))
 (lss_cons (ls_for (passes_of rfl) rfl (li_range1 rfl T.n_range lx_int) (lg_name 3 sc__law_case.nd) (lss_cons (ls_set 4 sc__law_case.nd (lx_call (takes_of rfl rfl rfl rfl) (ok__law_take T) (hr.mono (by first | decide | omega)) rfl T.G__law_take T.K__law_take T.B__law_take (lan_cons (lx_var 0) (lan_cons lx_int lan_nil))))
 (lss_cons (ls_if (lt_cmp (op_eqD hr.units) ol_eq (LX.v (lx_var 4)) (LX.v lx_int) (nomark _)) (lss_one (ls_set 4 sc__law_case.nd lx_int)) lss_nil)
 (lss_one (ls_app 2 (lx_ix (LX.v (lx_call (takes_of rfl rfl rfl rfl) (ok__law_book T) (hr.mono (by first | decide | omega)) rfl T.G__law_book T.K__law_book T.B__law_book (lan_cons (lx_var 0) (lan_cons (lx_var 1) (lan_cons (lx_var 4) (lan_cons (lx_bin op_pow ol_pow (LX.v lx_int) (LX.v lx_int)) lan_nil)))))) (LX.v lx_int) (fun _ _ => rfl)))))))
 (lss_one (ls_ret (LO.x (lo_lst (la_cons (lx_var 1) (la_cons (lx_ix (lv_var 2) (LX.v lx_int) (fun _ _ => rfl)) (la_cons (lx_ix (lv_var 2) (LX.v lx_int) (fun _ _ => rfl)) (la_cons (lx_call (takes_of rfl rfl rfl rfl) (ok__law_changed T) (hr.mono (by first | decide | omega)) rfl T.G__law_changed T.K__law_changed T.B__law_changed (lan_cons (lx_var 0) (lan_cons (lx_var 1) (lan_cons (lx_ix (lv_var 2) (LX.v lx_int) (fun _ _ => rfl)) lan_nil)))) la_nil)))))))))))⟩
theorem ok_check_period_and_quota (T : Tx K mg a__law_take a__law_depot a__law_changed a__law_choose a__law_great a__law_span a__law_gone a__law_here a__law_book a__law_case a_check_period_and_quota a_check_firsts a_DepotU_initU a__law_pool a_ascending a_check_stretches a_join_neighbours a_BookU_initU a_AfterU_initU a_Depot_size a_check_runners a_long_runs a_walk a_check_days a_Depot_closings a_crews_seen a__law_ask a__law_number a__law_same a__law_joined a__law_closings_in a__law_due a_law a_BadDepotU_initU a_BadBookU_initU a_OutOfRangeU_initU A_Depot A_After A_Book A_OutagainError A_OutOfRange A_BadDepot A_BadBook A_BadCrews A_NoBook p_Depot_size d__law_take d__law_depot d__law_changed d__law_choose d__law_great d__law_span d__law_gone d__law_here d__law_book d__law_case d_check_period_and_quota d_check_firsts d_DepotU_initU d__law_pool d_ascending d_check_stretches d_join_neighbours d_BookU_initU d_AfterU_initU d_Depot_size d_check_runners d_long_runs d_walk d_check_days d_Depot_closings d_crews_seen d__law_ask d__law_number d__law_same d__law_joined d__law_closings_in d__law_due d_law d_BadDepotU_initU d_BadBookU_initU d_OutOfRangeU_initU) : FnOk P w K mg base (L2.CX P w) 3 a_check_period_and_quota d_check_period_and_quota ["period", "quota"] (liftSp ⟨K, mg⟩ w_check_period_and_quota 2) :=
  fn_mk (N := ["period", "quota"]) (ps := ["period", "quota"]) (k := 2) (pb := b_check_period_and_quota) T.F_check_period_and_quota sc_check_period_and_quota fun cdv A outer s H E hr => ⟨_, (lss_cons (ls_if (lt_not (lt_chain L2.op_le L2.op_le ol_le ol_le (LX.v lx_int) (LX.v (lx_var 0)) (LX.v (lx_cval (c := 0) T.cv_Depot_MOST_PERIOD rfl)))) (lss_one (ls_raise (c := 22) rfl (takes_of rfl rfl rfl rfl) T.ex_BadDepot (okx_BadDepot T) (hr.mono (by decide)) T.B_BadDepotU_initU rfl (lan_cons (lx_var 0) (lan_cons lx_str lan_nil)))) lss_nil)
 (lss_one (ls_if (lt_not (lt_chain L2.op_le L2.op_le ol_le ol_le (LX.v lx_int) (LX.v (lx_var 1)) (LX.v (lx_gint rfl T.g_MOST_QUOTA)))) (lss_one (ls_raise (c := 22) rfl (takes_of rfl rfl rfl rfl) T.ex_BadDepot (okx_BadDepot T) (hr.mono (by decide)) T.B_BadDepotU_initU rfl (lan_cons (lx_var 1) (lan_cons lx_str lan_nil)))) lss_nil)))⟩
theorem ok_check_firsts (T : Tx K mg a__law_take a__law_depot a__law_changed a__law_choose a__law_great a__law_span a__law_gone a__law_here a__law_book a__law_case a_check_period_and_quota a_check_firsts a_DepotU_initU a__law_pool a_ascending a_check_stretches a_join_neighbours a_BookU_initU a_AfterU_initU a_Depot_size a_check_runners a_long_runs a_walk a_check_days a_Depot_closings a_crews_seen a__law_ask a__law_number a__law_same a__law_joined a__law_closings_in a__law_due a_law a_BadDepotU_initU a_BadBookU_initU a_OutOfRangeU_initU A_Depot A_After A_Book A_OutagainError A_OutOfRange A_BadDepot A_BadBook A_BadCrews A_NoBook p_Depot_size d__law_take d__law_depot d__law_changed d__law_choose d__law_great d__law_span d__law_gone d__law_here d__law_book d__law_case d_check_period_and_quota d_check_firsts d_DepotU_initU d__law_pool d_ascending d_check_stretches d_join_neighbours d_BookU_initU d_AfterU_initU d_Depot_size d_check_runners d_long_runs d_walk d_check_days d_Depot_closings d_crews_seen d__law_ask d__law_number d__law_same d__law_joined d__law_closings_in d__law_due d_law d_BadDepotU_initU d_BadBookU_initU d_OutOfRangeU_initU) : FnOk P w K mg base (L2.CX P w) 3 a_check_firsts d_check_firsts ["period", "quota", "firsts"] (liftSp ⟨K, mg⟩ w_check_firsts 3) :=
  fn_mk (N := ["period", "quota", "firsts", "driver", "first", "ones"]) (ps := ["period", "quota", "firsts"]) (k := 2) (pb := b_check_firsts) T.F_check_firsts sc_check_firsts fun cdv A outer s H E hr => ⟨_, (lss_cons (ls_if (lt_not (lt_chain L2.op_le L2.op_le ol_le ol_le (LX.v lx_int) (LX.v (lx_callB call_len cl_len rfl T.n_len bb_len (lw_cons (LX.v (lx_var 2)) lw_nil))) (LX.v (lx_cval (c := 0) T.cv_Depot_MOST_DRIVERS rfl)))) (lss_one (ls_raise (c := 22) rfl (takes_of rfl rfl rfl rfl) T.ex_BadDepot (okx_BadDepot T) (hr.mono (by decide)) T.B_BadDepotU_initU rfl (lan_cons (lx_callB call_len cl_len rfl T.n_len bb_len (lw_cons (LX.v (lx_var 2)) lw_nil)) (lan_cons lx_str lan_nil)))) lss_nil)
 (lss_cons (ls_for (passes_of rfl) rfl (li_enum1 rfl T.n_enumerate (lx_var 2)) (lg_seq rfl (lgs_cons (lg_name 3 sc_check_firsts.nd) (lgs_cons (lg_name 4 sc_check_firsts.nd) lgs_nil))) (lss_one (ls_if (lt_not (lt_chain L2.op_le L2.op_le ol_le ol_le (LX.v lx_int) (LX.v (lx_var 4)) (LX.v (lx_var 0)))) (lss_one (ls_raise (c := 22) rfl (takes_of rfl rfl rfl rfl) T.ex_BadDepot (okx_BadDepot T) (hr.mono (by decide)) T.B_BadDepotU_initU rfl (lan_cons (lx_var 3) (lan_cons lx_str lan_nil)))) lss_nil)))
 (lss_cons (ls_set 5 sc_check_firsts.nd (lx_count (LX.v (lx_var 2)) lx_int))
 (lss_one (ls_if (lt_cmp L2.op_lt ol_lt (LX.v (lx_var 5)) (LX.v (lx_var 1)) (nomark _)) (lss_one (ls_raise (c := 22) rfl (takes_of rfl rfl rfl rfl) T.ex_BadDepot (okx_BadDepot T) (hr.mono (by decide)) T.B_BadDepotU_initU rfl (lan_cons (lx_var 5) (lan_cons lx_str lan_nil)))) lss_nil)))))⟩
theorem ok_DepotU_initU (T : Tx K mg a__law_take a__law_depot a__law_changed a__law_choose a__law_great a__law_span a__law_gone a__law_here a__law_book a__law_case a_check_period_and_quota a_check_firsts a_DepotU_initU a__law_pool a_ascending a_check_stretches a_join_neighbours a_BookU_initU a_AfterU_initU a_Depot_size a_check_runners a_long_runs a_walk a_check_days a_Depot_closings a_crews_seen a__law_ask a__law_number a__law_same a__law_joined a__law_closings_in a__law_due a_law a_BadDepotU_initU a_BadBookU_initU a_OutOfRangeU_initU A_Depot A_After A_Book A_OutagainError A_OutOfRange A_BadDepot A_BadBook A_BadCrews A_NoBook p_Depot_size d__law_take d__law_depot d__law_changed d__law_choose d__law_great d__law_span d__law_gone d__law_here d__law_book d__law_case d_check_period_and_quota d_check_firsts d_DepotU_initU d__law_pool d_ascending d_check_stretches d_join_neighbours d_BookU_initU d_AfterU_initU d_Depot_size d_check_runners d_long_runs d_walk d_check_days d_Depot_closings d_crews_seen d__law_ask d__law_number d__law_same d__law_joined d__law_closings_in d__law_due d_law d_BadDepotU_initU d_BadBookU_initU d_OutOfRangeU_initU) : FnOk P w K mg base (L2.CX P w) 4 a_DepotU_initU d_DepotU_initU ["self", "period", "quota", "firsts"] (liftInit ⟨K, mg⟩ 0 i_DepotU_initU 4) :=
  init_mk (N := ["self", "period", "quota", "firsts"]) (ps := ["self", "period", "quota", "firsts"]) (k := 3) (c := 0) (pb := b_DepotU_initU) T.F_DepotU_initU sc_DepotU_initU (by decide) fun cdv A outer s H E hr => ⟨_, (lss_cons (ls_expr (LX.v (lx_call (takes_of rfl rfl rfl rfl) (ok_check_period_and_quota T) (hr.mono (by first | decide | omega)) rfl T.G_check_period_and_quota T.K_check_period_and_quota T.B_check_period_and_quota (lan_cons (lx_var 1) (lan_cons (lx_var 2) lan_nil)))))
 (lss_cons (ls_expr (LX.v (lx_call (takes_of rfl rfl rfl rfl) (ok_check_firsts T) (hr.mono (by first | decide | omega)) rfl T.G_check_firsts T.K_check_firsts T.B_check_firsts (lan_cons (lx_var 1) (lan_cons (lx_var 2) (lan_cons (lx_var 3) lan_nil))))))
 (lss_cons (ls_setF 0 0 0 (lx_var 1) T.fa_Depot_period rfl (by decide) (by decide))
 (lss_cons (ls_setF 0 0 1 (lx_var 2) T.fa_Depot_quota rfl (by decide) (by decide))
 (lss_one (ls_setF 0 0 2 (lx_callT call_tupN cl_tuple rfl T.n_tuple bb_tuple (lw_cons (LX.v (lx_var 3)) lw_nil)) T.fa_Depot_firsts rfl (by decide) (by decide)))))))⟩
theorem ok__law_pool (T : Tx K mg a__law_take a__law_depot a__law_changed a__law_choose a__law_great a__law_span a__law_gone a__law_here a__law_book a__law_case a_check_period_and_quota a_check_firsts a_DepotU_initU a__law_pool a_ascending a_check_stretches a_join_neighbours a_BookU_initU a_AfterU_initU a_Depot_size a_check_runners a_long_runs a_walk a_check_days a_Depot_closings a_crews_seen a__law_ask a__law_number a__law_same a__law_joined a__law_closings_in a__law_due a_law a_BadDepotU_initU a_BadBookU_initU a_OutOfRangeU_initU A_Depot A_After A_Book A_OutagainError A_OutOfRange A_BadDepot A_BadBook A_BadCrews A_NoBook p_Depot_size d__law_take d__law_depot d__law_changed d__law_choose d__law_great d__law_span d__law_gone d__law_here d__law_book d__law_case d_check_period_and_quota d_check_firsts d_DepotU_initU d__law_pool d_ascending d_check_stretches d_join_neighbours d_BookU_initU d_AfterU_initU d_Depot_size d_check_runners d_long_runs d_walk d_check_days d_Depot_closings d_crews_seen d__law_ask d__law_number d__law_same d__law_joined d__law_closings_in d__law_due d_law d_BadDepotU_initU d_BadBookU_initU d_OutOfRangeU_initU) : FnOk P w K mg base (L2.CX P w) 1 a__law_pool d__law_pool ["script"] (liftSp ⟨K, mg⟩ w__law_pool 1) :=
  fn_newPool (N := ["script"]) (ps := ["script"]) (k := 0) (pe := (pLst (pCons (pC (.int 0)) (pCons (pC (.int 1)) (pCons (pC (.int 0)) (pCons (pC (.int 0)) (pCons (pCB fList (pCons (pVar 0) pNil)) pNil))))))) T.F__law_pool sc__law_pool rfl rfl (fun cdv A outer s H E hr => ⟨_, lo_lst (la_cons lx_int (la_cons lx_int (la_cons lx_int (la_cons lx_int (la_cons (LO.x (lo_callT call_list_of cl_list rfl T.n_list bb_list (lw_cons (LX.v (lx_var 0)) lw_nil))) la_nil)))))⟩) (fun ns P h => by simpa [pLst, pCons, pNil, pC, pCB, fList, pVarV, pVar, startD, szl] using h)
theorem ok_ascending (T : Tx K mg a__law_take a__law_depot a__law_changed a__law_choose a__law_great a__law_span a__law_gone a__law_here a__law_book a__law_case a_check_period_and_quota a_check_firsts a_DepotU_initU a__law_pool a_ascending a_check_stretches a_join_neighbours a_BookU_initU a_AfterU_initU a_Depot_size a_check_runners a_long_runs a_walk a_check_days a_Depot_closings a_crews_seen a__law_ask a__law_number a__law_same a__law_joined a__law_closings_in a__law_due a_law a_BadDepotU_initU a_BadBookU_initU a_OutOfRangeU_initU A_Depot A_After A_Book A_OutagainError A_OutOfRange A_BadDepot A_BadBook A_BadCrews A_NoBook p_Depot_size d__law_take d__law_depot d__law_changed d__law_choose d__law_great d__law_span d__law_gone d__law_here d__law_book d__law_case d_check_period_and_quota d_check_firsts d_DepotU_initU d__law_pool d_ascending d_check_stretches d_join_neighbours d_BookU_initU d_AfterU_initU d_Depot_size d_check_runners d_long_runs d_walk d_check_days d_Depot_closings d_crews_seen d__law_ask d__law_number d__law_same d__law_joined d__law_closings_in d__law_due d_law d_BadDepotU_initU d_BadBookU_initU d_OutOfRangeU_initU) : FnOk P w K mg base (L2.CX P w) 1 a_ascending d_ascending ["drivers", "size"] (liftSp ⟨K, mg⟩ w_ascending 2) :=
  fn_mk (N := ["drivers", "size", "least", "driver"]) (ps := ["drivers", "size"]) (k := 0) (pb := b_ascending) T.F_ascending sc_ascending fun cdv A outer s H E hr => ⟨_, (lss_cons (ls_set 2 sc_ascending.nd lx_int)
 (lss_cons (ls_for (passes_of rfl) rfl (li_seq (lx_var 0)) (lg_name 3 sc_ascending.nd) (lss_cons (ls_if (lt_not (lt_chain L2.op_le L2.op_lt ol_le ol_lt (LX.v (lx_var 2)) (LX.v (lx_var 3)) (LX.v (lx_var 1)))) (lss_one (ls_ret lx_bl)) lss_nil)
 (lss_one (ls_set 2 sc_ascending.nd (lx_bin op_addAll ol_add (LX.v (lx_var 3)) (LX.v lx_int))))))
 (lss_one (ls_ret lx_bl))))⟩
theorem ok_check_stretches (T : Tx K mg a__law_take a__law_depot a__law_changed a__law_choose a__law_great a__law_span a__law_gone a__law_here a__law_book a__law_case a_check_period_and_quota a_check_firsts a_DepotU_initU a__law_pool a_ascending a_check_stretches a_join_neighbours a_BookU_initU a_AfterU_initU a_Depot_size a_check_runners a_long_runs a_walk a_check_days a_Depot_closings a_crews_seen a__law_ask a__law_number a__law_same a__law_joined a__law_closings_in a__law_due a_law a_BadDepotU_initU a_BadBookU_initU a_OutOfRangeU_initU A_Depot A_After A_Book A_OutagainError A_OutOfRange A_BadDepot A_BadBook A_BadCrews A_NoBook p_Depot_size d__law_take d__law_depot d__law_changed d__law_choose d__law_great d__law_span d__law_gone d__law_here d__law_book d__law_case d_check_period_and_quota d_check_firsts d_DepotU_initU d__law_pool d_ascending d_check_stretches d_join_neighbours d_BookU_initU d_AfterU_initU d_Depot_size d_check_runners d_long_runs d_walk d_check_days d_Depot_closings d_crews_seen d__law_ask d__law_number d__law_same d__law_joined d__law_closings_in d__law_due d_law d_BadDepotU_initU d_BadBookU_initU d_OutOfRangeU_initU) : FnOk P w K mg base (L2.CX P w) 3 a_check_stretches d_check_stretches ["stretches"] (liftSp ⟨K, mg⟩ w_check_stretches 1) :=
  fn_mk (N := ["stretches", "total", "at", "days", "runners"]) (ps := ["stretches"]) (k := 2) (pb := b_check_stretches) T.F_check_stretches sc_check_stretches fun cdv A outer s H E hr => ⟨_, (lss_cons (ls_if (lt_cmp L2.op_gt ol_gt (LX.v (lx_callB call_len cl_len rfl T.n_len bb_len (lw_cons (LX.v (lx_var 0)) lw_nil))) (LX.v (lx_gint rfl T.g_MOST_STRETCHES)) (nomark _)) (lss_one (ls_raise (c := 23) rfl (takes_of rfl rfl rfl rfl) T.ex_BadBook (okx_BadBook T) (hr.mono (by decide)) T.B_BadBookU_initU rfl (lan_cons (lx_gint rfl T.g_MOST_STRETCHES) (lan_cons lx_str lan_nil)))) lss_nil)
 (lss_cons (ls_set 1 sc_check_stretches.nd lx_int)
 (lss_one (ls_for (passes_of rfl) rfl (li_enum1 rfl T.n_enumerate (lx_var 0)) (lg_seq rfl (lgs_cons (lg_name 2 sc_check_stretches.nd) (lgs_cons (lg_seq rfl (lgs_cons (lg_name 3 sc_check_stretches.nd) (lgs_cons (lg_name 4 sc_check_stretches.nd) lgs_nil))) lgs_nil))) (lss_cons (ls_if (lt_not (lt_chain L2.op_le L2.op_le ol_le ol_le (LX.v lx_int) (LX.v (lx_var 3)) (LX.v (lx_gint rfl T.g_MOST_DAYS)))) (lss_one (ls_raise (c := 23) rfl (takes_of rfl rfl rfl rfl) T.ex_BadBook (okx_BadBook T) (hr.mono (by decide)) T.B_BadBookU_initU rfl (lan_cons (lx_var 2) (lan_cons lx_str lan_nil)))) lss_nil)
 (lss_cons (ls_if (lt_not (lt_truth (LX.v (lx_call (takes_of rfl rfl rfl rfl) (ok_ascending T) (hr.mono (by first | decide | omega)) rfl T.G_ascending T.K_ascending T.B_ascending (lan_cons (lx_var 4) (lan_cons (lx_cval (c := 0) T.cv_Depot_MOST_DRIVERS rfl) lan_nil)))))) (lss_one (ls_raise (c := 23) rfl (takes_of rfl rfl rfl rfl) T.ex_BadBook (okx_BadBook T) (hr.mono (by decide)) T.B_BadBookU_initU rfl (lan_cons (lx_var 2) (lan_cons lx_str lan_nil)))) lss_nil)
 (lss_cons (ls_set 1 sc_check_stretches.nd (lx_bin op_addAll ol_add (LX.v (lx_var 1)) (LX.v (lx_var 3))))
 (lss_one (ls_if (lt_cmp L2.op_gt ol_gt (LX.v (lx_var 1)) (LX.v (lx_gint rfl T.g_MOST_DAYS)) (nomark _)) (lss_one (ls_raise (c := 23) rfl (takes_of rfl rfl rfl rfl) T.ex_BadBook (okx_BadBook T) (hr.mono (by decide)) T.B_BadBookU_initU rfl (lan_cons (lx_var 2) (lan_cons lx_str lan_nil)))) lss_nil)))))))))⟩
theorem ok_join_neighbours (T : Tx K mg a__law_take a__law_depot a__law_changed a__law_choose a__law_great a__law_span a__law_gone a__law_here a__law_book a__law_case a_check_period_and_quota a_check_firsts a_DepotU_initU a__law_pool a_ascending a_check_stretches a_join_neighbours a_BookU_initU a_AfterU_initU a_Depot_size a_check_runners a_long_runs a_walk a_check_days a_Depot_closings a_crews_seen a__law_ask a__law_number a__law_same a__law_joined a__law_closings_in a__law_due a_law a_BadDepotU_initU a_BadBookU_initU a_OutOfRangeU_initU A_Depot A_After A_Book A_OutagainError A_OutOfRange A_BadDepot A_BadBook A_BadCrews A_NoBook p_Depot_size d__law_take d__law_depot d__law_changed d__law_choose d__law_great d__law_span d__law_gone d__law_here d__law_book d__law_case d_check_period_and_quota d_check_firsts d_DepotU_initU d__law_pool d_ascending d_check_stretches d_join_neighbours d_BookU_initU d_AfterU_initU d_Depot_size d_check_runners d_long_runs d_walk d_check_days d_Depot_closings d_crews_seen d__law_ask d__law_number d__law_same d__law_joined d__law_closings_in d__law_due d_law d_BadDepotU_initU d_BadBookU_initU d_OutOfRangeU_initU) : FnOk P w K mg base (L2.CX P w) 1 a_join_neighbours d_join_neighbours ["pairs"] (liftSp ⟨K, mg⟩ w_join_neighbours 1) :=
  fn_mk (N := ["pairs", "rows", "many", "what"]) (ps := ["pairs"]) (k := 0) (pb := b_join_neighbours) T.F_join_neighbours sc_join_neighbours fun cdv A outer s H E hr => ⟨_, (lss_cons (ls_setO 1 sc_join_neighbours.nd (lo_lst la_nil))
 (lss_cons (ls_for (passes_of rfl) rfl (li_seq (lx_var 0)) (lg_seq rfl (lgs_cons (lg_name 2 sc_join_neighbours.nd) (lgs_cons (lg_name 3 sc_join_neighbours.nd) lgs_nil))) (lss_one (ls_if (LWt.t (lw_and (lt_truth (lv_var 1)) (lw_and1 (lt_cmp (op_eqD hr.units) ol_eq (LX.v (lx_ix (LX.v (lx_ix (lv_var 1) (LX.v (lx_un un_neg ul_neg (LX.v lx_int))) (fun _ _ => rfl))) (LX.v lx_int) (fun _ _ => rfl))) (LX.v (lx_var 3)) (nomark _))))) (lss_one (ls_setI 1 (lx_tup (la_cons (lx_bin op_addAll ol_add (LX.v (lx_ix (LX.v (lx_ix (lv_var 1) (LX.v (lx_un un_neg ul_neg (LX.v lx_int))) (fun _ _ => rfl))) (LX.v lx_int) (fun _ _ => rfl))) (LX.v (lx_var 2))) (la_cons (lx_var 3) la_nil))) (lx_un un_neg ul_neg (LX.v lx_int)))) (lss_one (ls_app 1 (lx_tup (la_cons (lx_var 2) (la_cons (lx_var 3) la_nil))))))))
 (lss_one (ls_freeze 1 (ls_ret (lx_var 1))))))⟩
theorem ok_BookU_initU (T : Tx K mg a__law_take a__law_depot a__law_changed a__law_choose a__law_great a__law_span a__law_gone a__law_here a__law_book a__law_case a_check_period_and_quota a_check_firsts a_DepotU_initU a__law_pool a_ascending a_check_stretches a_join_neighbours a_BookU_initU a_AfterU_initU a_Depot_size a_check_runners a_long_runs a_walk a_check_days a_Depot_closings a_crews_seen a__law_ask a__law_number a__law_same a__law_joined a__law_closings_in a__law_due a_law a_BadDepotU_initU a_BadBookU_initU a_OutOfRangeU_initU A_Depot A_After A_Book A_OutagainError A_OutOfRange A_BadDepot A_BadBook A_BadCrews A_NoBook p_Depot_size d__law_take d__law_depot d__law_changed d__law_choose d__law_great d__law_span d__law_gone d__law_here d__law_book d__law_case d_check_period_and_quota d_check_firsts d_DepotU_initU d__law_pool d_ascending d_check_stretches d_join_neighbours d_BookU_initU d_AfterU_initU d_Depot_size d_check_runners d_long_runs d_walk d_check_days d_Depot_closings d_crews_seen d__law_ask d__law_number d__law_same d__law_joined d__law_closings_in d__law_due d_law d_BadDepotU_initU d_BadBookU_initU d_OutOfRangeU_initU) : FnOk P w K mg base (L2.CX P w) 4 a_BookU_initU d_BookU_initU ["self", "stretches"] (liftInit ⟨K, mg⟩ 1 i_BookU_initU 2) :=
  init_mk (N := ["self", "stretches", "days", "runners", "_"]) (ps := ["self", "stretches"]) (k := 3) (c := 1) (pb := b_BookU_initU) T.F_BookU_initU sc_BookU_initU (by decide) fun cdv A outer s H E hr => ⟨_, (lss_cons (ls_expr (LX.v (lx_call (takes_of rfl rfl rfl rfl) (ok_check_stretches T) (hr.mono (by first | decide | omega)) rfl T.G_check_stretches T.K_check_stretches T.B_check_stretches (lan_cons (lx_var 1) lan_nil))))
 (lss_cons (ls_setF 0 1 0 (lx_callT call_tupN cl_tuple rfl T.n_tuple bb_tuple (lw_cons (LX.v (lx_call (takes_of rfl rfl rfl rfl) (ok_join_neighbours T) (hr.mono (by first | decide | omega)) rfl T.G_join_neighbours T.K_join_neighbours T.B_join_neighbours (lan_cons (LO.x (lo_lc (own := [("days", 2), ("runners", 3)]) rfl sc_BookU_initU.nd (li_seq (lx_var 1)) (blkOk_by (N := ["self", "stretches", "days", "runners", "_"]) (sc := defScope s_BookU_initU) (by decide +kernel)) (fun _ _ _ _ _ => ⟨_, (lg_seq rfl (lgs_cons (lg_name 2 sc_BookU_initU.nd) (lgs_cons (lg_name 3 sc_BookU_initU.nd) lgs_nil)))⟩) (fun _ _ _ _ _ => ⟨_, lts_nil⟩) (fun _ _ _ _ _ => ⟨_, (lx_tup (la_cons (lx_var 2) (la_cons (lx_callT call_tupN cl_tuple rfl T.n_tuple bb_tuple (lw_cons (LX.v (lx_var 3)) lw_nil)) la_nil)))⟩) (by decide))) lan_nil))) lw_nil)) T.fa_Book_stretches rfl (by decide) (by decide))
 (lss_one (ls_setF 0 1 1 (lx_callB (cr_sumA rfl) cl_sumA rfl T.n_sum bb_sum (lw_cons (LO.v (lo_lc (own := [("days", 2), ("_", 4)]) rfl sc_BookU_initU.nd (li_seq (lx_fldS 0 1 0 (T.fa_Book_stretches) rfl (by decide))) (blkOk_by (N := ["self", "stretches", "days", "runners", "_"]) (sc := defScope s_BookU_initU) (by decide +kernel)) (fun _ _ _ _ _ => ⟨_, (lg_seq rfl (lgs_cons (lg_name 2 sc_BookU_initU.nd) (lgs_cons (lg_name 4 sc_BookU_initU.nd) lgs_nil)))⟩) (fun _ _ _ _ _ => ⟨_, lts_nil⟩) (fun _ _ _ _ _ => ⟨_, (lx_var 2)⟩) (by decide))) lw_nil)) T.fa_Book_days rfl (by decide) (by decide)))))⟩
theorem ok_AfterU_initU (T : Tx K mg a__law_take a__law_depot a__law_changed a__law_choose a__law_great a__law_span a__law_gone a__law_here a__law_book a__law_case a_check_period_and_quota a_check_firsts a_DepotU_initU a__law_pool a_ascending a_check_stretches a_join_neighbours a_BookU_initU a_AfterU_initU a_Depot_size a_check_runners a_long_runs a_walk a_check_days a_Depot_closings a_crews_seen a__law_ask a__law_number a__law_same a__law_joined a__law_closings_in a__law_due a_law a_BadDepotU_initU a_BadBookU_initU a_OutOfRangeU_initU A_Depot A_After A_Book A_OutagainError A_OutOfRange A_BadDepot A_BadBook A_BadCrews A_NoBook p_Depot_size d__law_take d__law_depot d__law_changed d__law_choose d__law_great d__law_span d__law_gone d__law_here d__law_book d__law_case d_check_period_and_quota d_check_firsts d_DepotU_initU d__law_pool d_ascending d_check_stretches d_join_neighbours d_BookU_initU d_AfterU_initU d_Depot_size d_check_runners d_long_runs d_walk d_check_days d_Depot_closings d_crews_seen d__law_ask d__law_number d__law_same d__law_joined d__law_closings_in d__law_due d_law d_BadDepotU_initU d_BadBookU_initU d_OutOfRangeU_initU) : FnOk P w K mg base (L2.CX P w) 1 a_AfterU_initU d_AfterU_initU ["self", "depot", "days", "passes", "longs", "nexts"] (liftInit ⟨K, mg⟩ 2 i_AfterU_initU 6) :=
  init_mk (N := ["self", "depot", "days", "passes", "longs", "nexts"]) (ps := ["self", "depot", "days", "passes", "longs", "nexts"]) (k := 0) (c := 2) (pb := b_AfterU_initU) T.F_AfterU_initU sc_AfterU_initU (by decide) fun cdv A outer s H E hr => ⟨_, (lss_cons (ls_setF 0 2 0 (lx_var 2) T.fa_After_days rfl (by decide) (by decide))
 (lss_cons (ls_setF 0 2 1 (lx_callT call_tupN cl_tuple rfl T.n_tuple bb_tuple (lw_cons (LX.v (lx_var 3)) lw_nil)) T.fa_After_passes rfl (by decide) (by decide))
 (lss_cons (ls_setF 0 2 2 (lx_callT call_tupN cl_tuple rfl T.n_tuple bb_tuple (lw_cons (LX.v (lx_var 4)) lw_nil)) T.fa_After_longs rfl (by decide) (by decide))
 (lss_cons (ls_setF 0 2 3 (lx_callT call_tupN cl_tuple rfl T.n_tuple bb_tuple (lw_cons (LX.v (lx_var 5)) lw_nil)) T.fa_After_nexts rfl (by decide) (by decide))
 (lss_one (ls_setF 0 2 4 (lx_var 1) T.fa_After__depot rfl (by decide) (by decide)))))))⟩
theorem ok_Depot_size (T : Tx K mg a__law_take a__law_depot a__law_changed a__law_choose a__law_great a__law_span a__law_gone a__law_here a__law_book a__law_case a_check_period_and_quota a_check_firsts a_DepotU_initU a__law_pool a_ascending a_check_stretches a_join_neighbours a_BookU_initU a_AfterU_initU a_Depot_size a_check_runners a_long_runs a_walk a_check_days a_Depot_closings a_crews_seen a__law_ask a__law_number a__law_same a__law_joined a__law_closings_in a__law_due a_law a_BadDepotU_initU a_BadBookU_initU a_OutOfRangeU_initU A_Depot A_After A_Book A_OutagainError A_OutOfRange A_BadDepot A_BadBook A_BadCrews A_NoBook p_Depot_size d__law_take d__law_depot d__law_changed d__law_choose d__law_great d__law_span d__law_gone d__law_here d__law_book d__law_case d_check_period_and_quota d_check_firsts d_DepotU_initU d__law_pool d_ascending d_check_stretches d_join_neighbours d_BookU_initU d_AfterU_initU d_Depot_size d_check_runners d_long_runs d_walk d_check_days d_Depot_closings d_crews_seen d__law_ask d__law_number d__law_same d__law_joined d__law_closings_in d__law_due d_law d_BadDepotU_initU d_BadBookU_initU d_OutOfRangeU_initU) : FnOk P w K mg base (L2.CX P w) 1 a_Depot_size d_Depot_size ["self"] (liftSp ⟨K, mg⟩ w_Depot_size 1) :=
  fn_mk (N := ["self"]) (ps := ["self"]) (k := 0) (pb := b_Depot_size) T.F_Depot_size sc_Depot_size fun cdv A outer s H E hr => ⟨_, (lss_one (ls_ret (lx_callB call_len cl_len rfl T.n_len bb_len (lw_cons (LX.v (lx_fld T.fld_firsts (lx_var 0))) lw_nil))))⟩
theorem ok_check_runners (T : Tx K mg a__law_take a__law_depot a__law_changed a__law_choose a__law_great a__law_span a__law_gone a__law_here a__law_book a__law_case a_check_period_and_quota a_check_firsts a_DepotU_initU a__law_pool a_ascending a_check_stretches a_join_neighbours a_BookU_initU a_AfterU_initU a_Depot_size a_check_runners a_long_runs a_walk a_check_days a_Depot_closings a_crews_seen a__law_ask a__law_number a__law_same a__law_joined a__law_closings_in a__law_due a_law a_BadDepotU_initU a_BadBookU_initU a_OutOfRangeU_initU A_Depot A_After A_Book A_OutagainError A_OutOfRange A_BadDepot A_BadBook A_BadCrews A_NoBook p_Depot_size d__law_take d__law_depot d__law_changed d__law_choose d__law_great d__law_span d__law_gone d__law_here d__law_book d__law_case d_check_period_and_quota d_check_firsts d_DepotU_initU d__law_pool d_ascending d_check_stretches d_join_neighbours d_BookU_initU d_AfterU_initU d_Depot_size d_check_runners d_long_runs d_walk d_check_days d_Depot_closings d_crews_seen d__law_ask d__law_number d__law_same d__law_joined d__law_closings_in d__law_due d_law d_BadDepotU_initU d_BadBookU_initU d_OutOfRangeU_initU) : FnOk P w K mg base (L2.CX P w) 3 a_check_runners d_check_runners ["depot", "at", "runners", "nexts", "morning"] (liftSp ⟨K, mg⟩ w_check_runners 5) :=
  fn_mk (N := ["depot", "at", "runners", "nexts", "morning", "driver"]) (ps := ["depot", "at", "runners", "nexts", "morning"]) (k := 2) (pb := b_check_runners) T.F_check_runners sc_check_runners fun cdv A outer s H E hr => ⟨_, (lss_cons (ls_if (lt_truth (LO.v (lo_lc (own := [("driver", 5)]) rfl sc_check_runners.nd (li_seq (lx_var 2)) (blkOk_by (N := ["depot", "at", "runners", "nexts", "morning", "driver"]) (sc := defScope s_check_runners) (by decide +kernel)) (fun _ _ _ _ _ => ⟨_, (lg_name 5 sc_check_runners.nd)⟩) (fun _ _ _ _ _ => ⟨_, (lts_one (lt_cmp L2.op_ge ol_ge (LX.v (lx_var 5)) (LX.v (lx_prop T.pr_Depot_size (ok_Depot_size T) (hr.mono (by decide)) T.B_Depot_size (lx_var 0))) (nomark _)))⟩) (fun _ _ _ _ _ => ⟨_, (lx_var 5)⟩) (by decide)))) (lss_one (ls_raise (c := 23) rfl (takes_of rfl rfl rfl rfl) T.ex_BadBook (okx_BadBook T) (hr.mono (by decide)) T.B_BadBookU_initU rfl (lan_cons (lx_var 1) (lan_cons lx_str lan_nil)))) lss_nil)
 (lss_cons (ls_if (lt_cmp (op_neD hr.units) ol_ne (LX.v (lx_callB call_len cl_len rfl T.n_len bb_len (lw_cons (LX.v (lx_var 2)) lw_nil))) (LX.v (lx_fld T.fld_quota (lx_var 0))) (nomark _)) (lss_one (ls_raise (c := 23) rfl (takes_of rfl rfl rfl rfl) T.ex_BadBook (okx_BadBook T) (hr.mono (by decide)) T.B_BadBookU_initU rfl (lan_cons (lx_var 1) (lan_cons lx_str lan_nil)))) lss_nil)
 (lss_one (ls_if (lt_truth (LO.v (lo_lc (own := [("driver", 5)]) rfl sc_check_runners.nd (li_seq (lx_var 2)) (blkOk_by (N := ["depot", "at", "runners", "nexts", "morning", "driver"]) (sc := defScope s_check_runners) (by decide +kernel)) (fun _ _ _ _ _ => ⟨_, (lg_name 5 sc_check_runners.nd)⟩) (fun _ _ _ _ _ => ⟨_, (lts_one (lt_cmp (op_neD hr.units) ol_ne (LX.v (lx_ix (LX.v (lx_var 3)) (LX.v (lx_var 5)) (fun _ _ => rfl))) (LX.v (lx_var 4)) (nomark _)))⟩) (fun _ _ _ _ _ => ⟨_, (lx_var 5)⟩) (by decide)))) (lss_one (ls_raise (c := 23) rfl (takes_of rfl rfl rfl rfl) T.ex_BadBook (okx_BadBook T) (hr.mono (by decide)) T.B_BadBookU_initU rfl (lan_cons (lx_var 1) (lan_cons lx_str lan_nil)))) lss_nil))))⟩
theorem ok_long_runs (T : Tx K mg a__law_take a__law_depot a__law_changed a__law_choose a__law_great a__law_span a__law_gone a__law_here a__law_book a__law_case a_check_period_and_quota a_check_firsts a_DepotU_initU a__law_pool a_ascending a_check_stretches a_join_neighbours a_BookU_initU a_AfterU_initU a_Depot_size a_check_runners a_long_runs a_walk a_check_days a_Depot_closings a_crews_seen a__law_ask a__law_number a__law_same a__law_joined a__law_closings_in a__law_due a_law a_BadDepotU_initU a_BadBookU_initU a_OutOfRangeU_initU A_Depot A_After A_Book A_OutagainError A_OutOfRange A_BadDepot A_BadBook A_BadCrews A_NoBook p_Depot_size d__law_take d__law_depot d__law_changed d__law_choose d__law_great d__law_span d__law_gone d__law_here d__law_book d__law_case d_check_period_and_quota d_check_firsts d_DepotU_initU d__law_pool d_ascending d_check_stretches d_join_neighbours d_BookU_initU d_AfterU_initU d_Depot_size d_check_runners d_long_runs d_walk d_check_days d_Depot_closings d_crews_seen d__law_ask d__law_number d__law_same d__law_joined d__law_closings_in d__law_due d_law d_BadDepotU_initU d_BadBookU_initU d_OutOfRangeU_initU) : FnOk P w K mg base (L2.CX P w) 1 a_long_runs d_long_runs ["depot", "morning", "behind"] (liftSp ⟨K, mg⟩ w_long_runs 3) :=
  fn_mk (N := ["depot", "morning", "behind"]) (ps := ["depot", "morning", "behind"]) (k := 0) (pb := b_long_runs) T.F_long_runs sc_long_runs fun cdv A outer s H E hr => ⟨_, (lss_one (ls_ret (lx_bin op_fdivW ol_div (LX.v (lx_bin op_sub ol_sub (LX.v (lx_bin op_addAll ol_add (LX.v (lx_bin op_sub ol_sub (LX.v (lx_var 2)) (LX.v (lx_var 1)))) (LX.v (lx_fld T.fld_period (lx_var 0))))) (LX.v lx_int))) (LX.v (lx_fld T.fld_period (lx_var 0))))))⟩
theorem ok_walk (T : Tx K mg a__law_take a__law_depot a__law_changed a__law_choose a__law_great a__law_span a__law_gone a__law_here a__law_book a__law_case a_check_period_and_quota a_check_firsts a_DepotU_initU a__law_pool a_ascending a_check_stretches a_join_neighbours a_BookU_initU a_AfterU_initU a_Depot_size a_check_runners a_long_runs a_walk a_check_days a_Depot_closings a_crews_seen a__law_ask a__law_number a__law_same a__law_joined a__law_closings_in a__law_due a_law a_BadDepotU_initU a_BadBookU_initU a_OutOfRangeU_initU A_Depot A_After A_Book A_OutagainError A_OutOfRange A_BadDepot A_BadBook A_BadCrews A_NoBook p_Depot_size d__law_take d__law_depot d__law_changed d__law_choose d__law_great d__law_span d__law_gone d__law_here d__law_book d__law_case d_check_period_and_quota d_check_firsts d_DepotU_initU d__law_pool d_ascending d_check_stretches d_join_neighbours d_BookU_initU d_AfterU_initU d_Depot_size d_check_runners d_long_runs d_walk d_check_days d_Depot_closings d_crews_seen d__law_ask d__law_number d__law_same d__law_joined d__law_closings_in d__law_due d_law d_BadDepotU_initU d_BadBookU_initU d_OutOfRangeU_initU) : FnOk P w K mg base (L2.CX P w) 4 a_walk d_walk ["depot", "book"] (liftSp ⟨K, mg⟩ w_walk 2) :=
  fn_mk (N := ["depot", "book", "passes", "longs", "nexts", "behind", "at", "days", "runners", "driver", "runs"]) (ps := ["depot", "book"]) (k := 3) (pb := b_walk) T.F_walk sc_walk fun cdv A outer s H E hr => ⟨_, (lss_cons (ls_setO 2 sc_walk.nd (lo_bin op_rep olo_rep (LO.v (lo_lst (la_cons lx_int la_nil))) (LX.v (lx_prop T.pr_Depot_size (ok_Depot_size T) (hr.mono (by decide)) T.B_Depot_size (lx_var 0)))))
 (lss_cons (ls_setO 3 sc_walk.nd (lo_bin op_rep olo_rep (LO.v (lo_lst (la_cons lx_int la_nil))) (LX.v (lx_prop T.pr_Depot_size (ok_Depot_size T) (hr.mono (by decide)) T.B_Depot_size (lx_var 0)))))
 (lss_cons (ls_setO 4 sc_walk.nd (lo_callT call_list_of cl_list rfl T.n_list bb_list (lw_cons (LX.v (lx_fld T.fld_firsts (lx_var 0))) lw_nil)))
 (lss_cons (ls_set 5 sc_walk.nd lx_int)
 (lss_cons (ls_for (passes_of rfl) rfl (li_enum1 rfl T.n_enumerate (lx_fld T.fld_stretches (lx_var 1))) (lg_seq rfl (lgs_cons (lg_name 6 sc_walk.nd) (lgs_cons (lg_seq rfl (lgs_cons (lg_name 7 sc_walk.nd) (lgs_cons (lg_name 8 sc_walk.nd) lgs_nil))) lgs_nil))) (lss_cons (ls_expr (LX.v (lx_callW (takes_of rfl rfl rfl rfl) (ok_check_runners T) (hr.mono (by first | decide | omega)) rfl T.G_check_runners T.K_check_runners T.B_check_runners (lwn_cons (LX.v (lx_var 0)) (lwn_cons (LX.v (lx_var 6)) (lwn_cons (LX.v (lx_var 8)) (lwn_cons (lv_var 4) (lwn_cons (LX.v (lx_var 5)) lwn_nil))))))))
 (lss_cons (ls_set 5 sc_walk.nd (lx_bin op_addAll ol_add (LX.v (lx_var 5)) (LX.v (lx_var 7))))
 (lss_one (ls_for (passes_of rfl) rfl (li_range1 rfl T.n_range (lx_prop T.pr_Depot_size (ok_Depot_size T) (hr.mono (by decide)) T.B_Depot_size (lx_var 0))) (lg_name 9 sc_walk.nd) (lss_one (ls_if (lt_cmp op_in_seq ol_in (LX.v (lx_var 9)) (LX.v (lx_var 8)) rfl) (lss_cons (ls_setI 2 (lx_bin op_addAll ol_add (LX.v (lx_ix (lv_var 2) (LX.v (lx_var 9)) (fun _ _ => rfl))) (LX.v (lx_var 7))) (lx_var 9))
 (lss_one (ls_setI 4 (lx_var 5) (lx_var 9)))) (lss_cons (ls_set 10 sc_walk.nd (lx_call (takes_of rfl rfl rfl rfl) (ok_long_runs T) (hr.mono (by first | decide | omega)) rfl T.G_long_runs T.K_long_runs T.B_long_runs (lan_cons (lx_var 0) (lan_cons (lx_ix (lv_var 4) (LX.v (lx_var 9)) (fun _ _ => rfl)) (lan_cons (lx_var 5) lan_nil)))))
 (lss_cons (ls_setI 3 (lx_bin op_addAll ol_add (LX.v (lx_ix (lv_var 3) (LX.v (lx_var 9)) (fun _ _ => rfl))) (LX.v (lx_var 10))) (lx_var 9))
 (lss_one (ls_setI 4 (lx_bin op_addAll ol_add (LX.v (lx_ix (lv_var 4) (LX.v (lx_var 9)) (fun _ _ => rfl))) (LX.v (lx_bin op_mulAll ol_mul (LX.v (lx_var 10)) (LX.v (lx_fld T.fld_period (lx_var 0)))))) (lx_var 9))))))))))))
 (lss_one (ls_freeze 2 (ls_freeze 3 (ls_ret (lx_makeW (c := 2) (takes_of rfl rfl rfl rfl) T.mk_After T.m_After (ok_AfterU_initU T) (hr.mono (by decide)) rfl T.B_AfterU_initU (lwn_cons (LX.v (lx_var 0)) (lwn_cons (LX.v (lx_fld T.fld_days (lx_var 1))) (lwn_cons (lv_var 2) (lwn_cons (lv_var 3) (lwn_cons (lv_var 4) lwn_nil)))))))))))))))⟩
theorem ok_check_days (T : Tx K mg a__law_take a__law_depot a__law_changed a__law_choose a__law_great a__law_span a__law_gone a__law_here a__law_book a__law_case a_check_period_and_quota a_check_firsts a_DepotU_initU a__law_pool a_ascending a_check_stretches a_join_neighbours a_BookU_initU a_AfterU_initU a_Depot_size a_check_runners a_long_runs a_walk a_check_days a_Depot_closings a_crews_seen a__law_ask a__law_number a__law_same a__law_joined a__law_closings_in a__law_due a_law a_BadDepotU_initU a_BadBookU_initU a_OutOfRangeU_initU A_Depot A_After A_Book A_OutagainError A_OutOfRange A_BadDepot A_BadBook A_BadCrews A_NoBook p_Depot_size d__law_take d__law_depot d__law_changed d__law_choose d__law_great d__law_span d__law_gone d__law_here d__law_book d__law_case d_check_period_and_quota d_check_firsts d_DepotU_initU d__law_pool d_ascending d_check_stretches d_join_neighbours d_BookU_initU d_AfterU_initU d_Depot_size d_check_runners d_long_runs d_walk d_check_days d_Depot_closings d_crews_seen d__law_ask d__law_number d__law_same d__law_joined d__law_closings_in d__law_due d_law d_BadDepotU_initU d_BadBookU_initU d_OutOfRangeU_initU) : FnOk P w K mg base (L2.CX P w) 3 a_check_days d_check_days ["days"] (liftSp ⟨K, mg⟩ w_check_days 1) :=
  fn_mk (N := ["days"]) (ps := ["days"]) (k := 2) (pb := b_check_days) T.F_check_days sc_check_days fun cdv A outer s H E hr => ⟨_, (lss_one (ls_if (lt_not (lt_chain L2.op_le L2.op_le ol_le ol_le (LX.v lx_int) (LX.v (lx_var 0)) (LX.v (lx_gint rfl T.g_MOST_DAYS)))) (lss_one (ls_raise (c := 21) rfl (takes_of rfl rfl rfl rfl) T.ex_OutOfRange (okx_OutOfRange T) (hr.mono (by decide)) T.B_OutOfRangeU_initU rfl (lan_cons (lx_var 0) (lan_cons lx_str lan_nil)))) lss_nil))⟩
theorem ok_Depot_closings (T : Tx K mg a__law_take a__law_depot a__law_changed a__law_choose a__law_great a__law_span a__law_gone a__law_here a__law_book a__law_case a_check_period_and_quota a_check_firsts a_DepotU_initU a__law_pool a_ascending a_check_stretches a_join_neighbours a_BookU_initU a_AfterU_initU a_Depot_size a_check_runners a_long_runs a_walk a_check_days a_Depot_closings a_crews_seen a__law_ask a__law_number a__law_same a__law_joined a__law_closings_in a__law_due a_law a_BadDepotU_initU a_BadBookU_initU a_OutOfRangeU_initU A_Depot A_After A_Book A_OutagainError A_OutOfRange A_BadDepot A_BadBook A_BadCrews A_NoBook p_Depot_size d__law_take d__law_depot d__law_changed d__law_choose d__law_great d__law_span d__law_gone d__law_here d__law_book d__law_case d_check_period_and_quota d_check_firsts d_DepotU_initU d__law_pool d_ascending d_check_stretches d_join_neighbours d_BookU_initU d_AfterU_initU d_Depot_size d_check_runners d_long_runs d_walk d_check_days d_Depot_closings d_crews_seen d__law_ask d__law_number d__law_same d__law_joined d__law_closings_in d__law_due d_law d_BadDepotU_initU d_BadBookU_initU d_OutOfRangeU_initU) : FnOk P w K mg base (L2.CX P w) 4 a_Depot_closings d_Depot_closings ["self", "days"] (liftSp ⟨K, mg⟩ w_Depot_closings 2) :=
  fn_mk (N := ["self", "days"]) (ps := ["self", "days"]) (k := 3) (pb := b_Depot_closings) T.F_Depot_closings sc_Depot_closings fun cdv A outer s H E hr => ⟨_, (lss_cons (ls_expr (LX.v (lx_call (takes_of rfl rfl rfl rfl) (ok_check_days T) (hr.mono (by first | decide | omega)) rfl T.G_check_days T.K_check_days T.B_check_days (lan_cons (lx_var 1) lan_nil))))
 (lss_one (ls_ret (lx_bin op_fdivW ol_div (LX.v (lx_var 1)) (LX.v (lx_fld T.fld_period (lx_var 0)))))))⟩
theorem ok_crews_seen (T : Tx K mg a__law_take a__law_depot a__law_changed a__law_choose a__law_great a__law_span a__law_gone a__law_here a__law_book a__law_case a_check_period_and_quota a_check_firsts a_DepotU_initU a__law_pool a_ascending a_check_stretches a_join_neighbours a_BookU_initU a_AfterU_initU a_Depot_size a_check_runners a_long_runs a_walk a_check_days a_Depot_closings a_crews_seen a__law_ask a__law_number a__law_same a__law_joined a__law_closings_in a__law_due a_law a_BadDepotU_initU a_BadBookU_initU a_OutOfRangeU_initU A_Depot A_After A_Book A_OutagainError A_OutOfRange A_BadDepot A_BadBook A_BadCrews A_NoBook p_Depot_size d__law_take d__law_depot d__law_changed d__law_choose d__law_great d__law_span d__law_gone d__law_here d__law_book d__law_case d_check_period_and_quota d_check_firsts d_DepotU_initU d__law_pool d_ascending d_check_stretches d_join_neighbours d_BookU_initU d_AfterU_initU d_Depot_size d_check_runners d_long_runs d_walk d_check_days d_Depot_closings d_crews_seen d__law_ask d__law_number d__law_same d__law_joined d__law_closings_in d__law_due d_law d_BadDepotU_initU d_BadBookU_initU d_OutOfRangeU_initU) : FnOk P w K mg base (L2.CX P w) 5 a_crews_seen d_crews_seen ["depot", "book"] (liftSp ⟨K, mg⟩ w_crews_seen 2) :=
  fn_mk (N := ["depot", "book", "rows", "days", "many", "runners", "times"]) (ps := ["depot", "book"]) (k := 4) (pb := b_crews_seen) T.F_crews_seen sc_crews_seen fun cdv A outer s H E hr => ⟨_, (lss_cons (ls_expr (LX.v (lx_call (takes_of rfl rfl rfl rfl) (ok_walk T) (hr.mono (by first | decide | omega)) rfl T.G_walk T.K_walk T.B_walk (lan_cons (lx_var 0) (lan_cons (lx_var 1) lan_nil)))))
 (lss_cons (ls_setO 2 sc_crews_seen.nd (lo_lst la_nil))
 (lss_cons (ls_set 3 sc_crews_seen.nd lx_int)
 (lss_cons (ls_for (passes_of rfl) rfl (li_seq (lx_fld T.fld_stretches (lx_var 1))) (lg_seq rfl (lgs_cons (lg_name 4 sc_crews_seen.nd) (lgs_cons (lg_name 5 sc_crews_seen.nd) lgs_nil))) (lss_cons (ls_set 6 sc_crews_seen.nd (lx_bin op_sub ol_sub (LX.v (lx_meth (takes_of rfl rfl rfl rfl) T.me_Depot_closings (ok_Depot_closings T) (hr.mono (by decide)) T.B_Depot_closings (lx_var 0) (lan_cons (lx_bin op_addAll ol_add (LX.v (lx_var 3)) (LX.v (lx_var 4))) lan_nil))) (LX.v (lx_meth (takes_of rfl rfl rfl rfl) T.me_Depot_closings (ok_Depot_closings T) (hr.mono (by decide)) T.B_Depot_closings (lx_var 0) (lan_cons (lx_var 3) lan_nil)))))
 (lss_cons (ls_if (lt_cmp L2.op_gt ol_gt (LX.v (lx_var 6)) (LX.v lx_int) (nomark _)) (lss_one (ls_app 2 (lx_tup (la_cons (lx_var 6) (la_cons (lx_var 5) la_nil))))) lss_nil)
 (lss_one (ls_set 3 sc_crews_seen.nd (lx_bin op_addAll ol_add (LX.v (lx_var 3)) (LX.v (lx_var 4))))))))
 (lss_one (ls_freeze 2 (ls_ret (lx_call (takes_of rfl rfl rfl rfl) (ok_join_neighbours T) (hr.mono (by first | decide | omega)) rfl T.G_join_neighbours T.K_join_neighbours T.B_join_neighbours (lan_cons (lx_var 2) lan_nil)))))))))⟩
theorem ok__law_ask (T : Tx K mg a__law_take a__law_depot a__law_changed a__law_choose a__law_great a__law_span a__law_gone a__law_here a__law_book a__law_case a_check_period_and_quota a_check_firsts a_DepotU_initU a__law_pool a_ascending a_check_stretches a_join_neighbours a_BookU_initU a_AfterU_initU a_Depot_size a_check_runners a_long_runs a_walk a_check_days a_Depot_closings a_crews_seen a__law_ask a__law_number a__law_same a__law_joined a__law_closings_in a__law_due a_law a_BadDepotU_initU a_BadBookU_initU a_OutOfRangeU_initU A_Depot A_After A_Book A_OutagainError A_OutOfRange A_BadDepot A_BadBook A_BadCrews A_NoBook p_Depot_size d__law_take d__law_depot d__law_changed d__law_choose d__law_great d__law_span d__law_gone d__law_here d__law_book d__law_case d_check_period_and_quota d_check_firsts d_DepotU_initU d__law_pool d_ascending d_check_stretches d_join_neighbours d_BookU_initU d_AfterU_initU d_Depot_size d_check_runners d_long_runs d_walk d_check_days d_Depot_closings d_crews_seen d__law_ask d__law_number d__law_same d__law_joined d__law_closings_in d__law_due d_law d_BadDepotU_initU d_BadBookU_initU d_OutOfRangeU_initU) : FnOk P w K mg base (L2.CX P w) 6 a__law_ask d__law_ask ["depot", "book"] (liftSp ⟨K, mg⟩ w__law_ask 2) :=
  fn_mk (N := ["depot", "book", "e", "kin", "strange"]) (ps := ["depot", "book"]) (k := 5) (pb := b__law_ask) T.F__law_ask sc__law_ask fun cdv A outer s H E hr => ⟨_, (lss_one (ls_tryAs 2 c_BadBook rfl rfl sc__law_ask.nd rfl rfl ⟨rfl, by decide, .inl T.m_BadBook⟩ (takes_of rfl rfl rfl rfl) T.ca_BadBook
 (fun W pn xe tk po => ⟨_, (lss_one (ls_ret (lx_tup (la_cons lx_str (la_cons (lx_call tk (ok_crews_seen T) (hr.mono (by first | decide | omega)) rfl T.G_crews_seen T.K_crews_seen T.B_crews_seen (lan_cons (lx_var 0) (lan_cons (lx_var 1) lan_nil))) la_nil)))))⟩)
 (fun a oe cls dx pn hz hf => ⟨_, (lss_cons (ls_set 3 sc__law_ask.nd (lx_and (lx_isXC (X := (cxOf (L2.CX P w) P w K mg base ["depot", "book", "e", "kin", "strange"] "_law_ask" (defScope s__law_ask) a__law_ask cdv A outer s H E)) 2 f_OutagainError T.ix_OutagainError hz hf rfl T.n_isinstance bb_isinstance rfl T.m_OutagainError) (lx_one (lx_isXT (X := (cxOf (L2.CX P w) P w K mg base ["depot", "book", "e", "kin", "strange"] "_law_ask" (defScope s__law_ask) a__law_ask cdv A outer s H E)) 2 f_ValueError T.ix_ValueError hz hf rfl T.n_isinstance bb_isinstance rfl T.n_ValueError bb_ValueError))))
 (lss_cons (ls_set 4 sc__law_ask.nd (lx_isXM (X := (cxOf (L2.CX P w) P w K mg base ["depot", "book", "e", "kin", "strange"] "_law_ask" (defScope s__law_ask) a__law_ask cdv A outer s H E)) 2 (anyF f_BadCrews (anyF f_BadDepot (anyF f_NoBook f_OutOfRange))) (pa_cons (pe_glob (v := .ref _) rfl T.m_BadCrews rfl (by decide)) (pa_cons (pe_glob (v := .ref _) rfl T.m_BadDepot rfl (by decide)) (pa_cons (pe_glob (v := .ref _) rfl T.m_NoBook rfl (by decide)) (pa_cons (pe_glob (v := .ref _) rfl T.m_OutOfRange rfl (by decide)) pa_nil)))) (fun _ _ _ => rfl) (.cons (.own _) (.cons (.own _) (.cons (.own _) (.cons (.own _) .nil)))) (isxs_cons T.ix_BadCrews (isxs_cons T.ix_BadDepot (isxs_cons T.ix_NoBook (isxs_one T.ix_OutOfRange)))) hz hf rfl T.n_isinstance bb_isinstance))
 (lss_one (ls_ret (lx_tup (la_cons lx_str (la_cons lx_str (la_cons (lx_xm (X := (cxOf (L2.CX P w) P w K mg base ["depot", "book", "e", "kin", "strange"] "_law_ask" (defScope s__law_ask) a__law_ask cdv A outer s H E)) 2 [(21, 0), (22, 0), (23, 0), (26, 0)] T.xf_at hz hf) (la_cons (lx_xm (X := (cxOf (L2.CX P w) P w K mg base ["depot", "book", "e", "kin", "strange"] "_law_ask" (defScope s__law_ask) a__law_ask cdv A outer s H E)) 2 [(21, 1), (22, 1), (23, 1), (26, 1)] T.xf_code hz hf) (la_cons (lx_and (lx_var 3) (lx_one (lx_not (LX.v (lx_var 4))))) la_nil))))))))))⟩)))⟩
theorem ok__law_number (T : Tx K mg a__law_take a__law_depot a__law_changed a__law_choose a__law_great a__law_span a__law_gone a__law_here a__law_book a__law_case a_check_period_and_quota a_check_firsts a_DepotU_initU a__law_pool a_ascending a_check_stretches a_join_neighbours a_BookU_initU a_AfterU_initU a_Depot_size a_check_runners a_long_runs a_walk a_check_days a_Depot_closings a_crews_seen a__law_ask a__law_number a__law_same a__law_joined a__law_closings_in a__law_due a_law a_BadDepotU_initU a_BadBookU_initU a_OutOfRangeU_initU A_Depot A_After A_Book A_OutagainError A_OutOfRange A_BadDepot A_BadBook A_BadCrews A_NoBook p_Depot_size d__law_take d__law_depot d__law_changed d__law_choose d__law_great d__law_span d__law_gone d__law_here d__law_book d__law_case d_check_period_and_quota d_check_firsts d_DepotU_initU d__law_pool d_ascending d_check_stretches d_join_neighbours d_BookU_initU d_AfterU_initU d_Depot_size d_check_runners d_long_runs d_walk d_check_days d_Depot_closings d_crews_seen d__law_ask d__law_number d__law_same d__law_joined d__law_closings_in d__law_due d_law d_BadDepotU_initU d_BadBookU_initU d_OutOfRangeU_initU) : FnOk P w K mg base (L2.CX P w) 1 a__law_number d__law_number ["got"] (liftSp ⟨K, mg⟩ w__law_number 1) :=
  fn_mk (N := ["got"]) (ps := ["got"]) (k := 0) (pb := b__law_number) T.F__law_number sc__law_number fun cdv A outer s H E hr => ⟨_, (lss_one (ls_ret (lx_and (lx_isT "int" isTy_int (LX.v (lx_var 0)) rfl T.n_isinstance rfl T.n_int bb_int bb_isinstance) (lx_one (lx_not (LX.v (lx_isT "bool" isTy_bool (LX.v (lx_var 0)) rfl T.n_isinstance rfl T.n_bool bb_bool bb_isinstance)))))))⟩
theorem ok__law_same (T : Tx K mg a__law_take a__law_depot a__law_changed a__law_choose a__law_great a__law_span a__law_gone a__law_here a__law_book a__law_case a_check_period_and_quota a_check_firsts a_DepotU_initU a__law_pool a_ascending a_check_stretches a_join_neighbours a_BookU_initU a_AfterU_initU a_Depot_size a_check_runners a_long_runs a_walk a_check_days a_Depot_closings a_crews_seen a__law_ask a__law_number a__law_same a__law_joined a__law_closings_in a__law_due a_law a_BadDepotU_initU a_BadBookU_initU a_OutOfRangeU_initU A_Depot A_After A_Book A_OutagainError A_OutOfRange A_BadDepot A_BadBook A_BadCrews A_NoBook p_Depot_size d__law_take d__law_depot d__law_changed d__law_choose d__law_great d__law_span d__law_gone d__law_here d__law_book d__law_case d_check_period_and_quota d_check_firsts d_DepotU_initU d__law_pool d_ascending d_check_stretches d_join_neighbours d_BookU_initU d_AfterU_initU d_Depot_size d_check_runners d_long_runs d_walk d_check_days d_Depot_closings d_crews_seen d__law_ask d__law_number d__law_same d__law_joined d__law_closings_in d__law_due d_law d_BadDepotU_initU d_BadBookU_initU d_OutOfRangeU_initU) : ∀ n : Nat, FnOk P w K mg base (L2.CX P w) (2 + n) a__law_same d__law_same ["got", "due"] (liftSp ⟨K, mg⟩ (w__law_same n) 2)
  | 0 => fn_never
  | n + 1 => by
    have IH := ok__law_same T n
    exact fn_mk (N := ["got", "due", "k"]) (ps := ["got", "due"]) (k := 2 + n) (pb := b__law_same (w__law_same n)) T.F__law_same sc__law_same fun cdv A outer s H E hr => ⟨_, (lss_cons (ls_if (lt_cmp op_isN ol_isN (LX.v (lx_var 1)) (LX.v lx_non) (nomark _)) (lss_one (ls_ret (lx_cmp op_isN ol_isN (LX.v (lx_var 0)) (LX.v lx_non) (nomark _)))) lss_nil)
 (lss_cons (ls_if (lt_truth (LX.v (lx_isT "bool" isTy_bool (LX.v (lx_var 1)) rfl T.n_isinstance rfl T.n_bool bb_bool bb_isinstance))) (lss_one (ls_ret (lx_and (lx_isT "bool" isTy_bool (LX.v (lx_var 0)) rfl T.n_isinstance rfl T.n_bool bb_bool bb_isinstance) (lx_one (lx_cmp (op_eqD hr.units) ol_eq (LX.v (lx_var 0)) (LX.v (lx_var 1)) (nomark _)))))) lss_nil)
 (lss_cons (ls_if (lt_truth (LX.v (lx_isT "int" isTy_int (LX.v (lx_var 1)) rfl T.n_isinstance rfl T.n_int bb_int bb_isinstance))) (lss_one (ls_ret (lx_and (lx_call (takes_of rfl rfl rfl rfl) (ok__law_number T) (hr.mono (by first | decide | omega)) rfl T.G__law_number T.K__law_number T.B__law_number (lan_cons (lx_var 0) lan_nil)) (lx_one (lx_cmp (op_eqD hr.units) ol_eq (LX.v (lx_var 0)) (LX.v (lx_var 1)) (nomark _)))))) lss_nil)
 (lss_cons (ls_if (lt_truth (LX.v (lx_isT "str" isTy_str (LX.v (lx_var 1)) rfl T.n_isinstance rfl T.n_str bb_str bb_isinstance))) (lss_one (ls_ret (lx_and (lx_isT "str" isTy_str (LX.v (lx_var 0)) rfl T.n_isinstance rfl T.n_str bb_str bb_isinstance) (lx_one (lx_cmp (op_eqD hr.units) ol_eq (LX.v (lx_var 0)) (LX.v (lx_var 1)) (nomark _)))))) lss_nil)
 (lss_cons (ls_if (LWt.t (lw_and (lt_truth (LX.v (lx_isT "list" isTy_list (LX.v (lx_var 1)) rfl T.n_isinstance rfl T.n_list bb_list bb_isinstance))) (lw_and1 (lt_not (lt_truth (LX.v (lx_isT "list" isTy_list (LX.v (lx_var 0)) rfl T.n_isinstance rfl T.n_list bb_list bb_isinstance))))))) (lss_one (ls_ret lx_bl)) lss_nil)
 (lss_cons (ls_if (LWt.t (lw_and (lt_truth (LX.v (lx_isT "tuple" isTy_tuple (LX.v (lx_var 1)) rfl T.n_isinstance rfl T.n_tuple bb_tuple bb_isinstance))) (lw_and1 (lt_not (lt_truth (LX.v (lx_isT "tuple" isTy_tuple (LX.v (lx_var 0)) rfl T.n_isinstance rfl T.n_tuple bb_tuple bb_isinstance))))))) (lss_one (ls_ret lx_bl)) lss_nil)
 (lss_cons (ls_if (lt_cmp (op_neD hr.units) ol_ne (LX.v (lx_callB call_len cl_len rfl T.n_len bb_len (lw_cons (LX.v (lx_var 0)) lw_nil))) (LX.v (lx_callB call_len cl_len rfl T.n_len bb_len (lw_cons (LX.v (lx_var 1)) lw_nil))) (nomark _)) (lss_one (ls_ret lx_bl)) lss_nil)
 (lss_cons (ls_for (passes_of rfl) rfl (li_range1 rfl T.n_range (lx_callB call_len cl_len rfl T.n_len bb_len (lw_cons (LX.v (lx_var 1)) lw_nil))) (lg_name 2 sc__law_same.nd) (lss_one (ls_if (lt_not (lt_truth (LX.v (lx_call (takes_of rfl rfl rfl rfl) IH (hr.mono (by first | decide | omega)) rfl T.G__law_same T.K__law_same T.B__law_same (lan_cons (lx_ix (LX.v (lx_var 0)) (LX.v (lx_var 2)) (fun _ _ => rfl)) (lan_cons (lx_ix (LX.v (lx_var 1)) (LX.v (lx_var 2)) (fun _ _ => rfl)) lan_nil)))))) (lss_one (ls_ret lx_bl)) lss_nil)))
 (lss_one (ls_ret lx_bl))))))))))⟩
theorem ok__law_joined (T : Tx K mg a__law_take a__law_depot a__law_changed a__law_choose a__law_great a__law_span a__law_gone a__law_here a__law_book a__law_case a_check_period_and_quota a_check_firsts a_DepotU_initU a__law_pool a_ascending a_check_stretches a_join_neighbours a_BookU_initU a_AfterU_initU a_Depot_size a_check_runners a_long_runs a_walk a_check_days a_Depot_closings a_crews_seen a__law_ask a__law_number a__law_same a__law_joined a__law_closings_in a__law_due a_law a_BadDepotU_initU a_BadBookU_initU a_OutOfRangeU_initU A_Depot A_After A_Book A_OutagainError A_OutOfRange A_BadDepot A_BadBook A_BadCrews A_NoBook p_Depot_size d__law_take d__law_depot d__law_changed d__law_choose d__law_great d__law_span d__law_gone d__law_here d__law_book d__law_case d_check_period_and_quota d_check_firsts d_DepotU_initU d__law_pool d_ascending d_check_stretches d_join_neighbours d_BookU_initU d_AfterU_initU d_Depot_size d_check_runners d_long_runs d_walk d_check_days d_Depot_closings d_crews_seen d__law_ask d__law_number d__law_same d__law_joined d__law_closings_in d__law_due d_law d_BadDepotU_initU d_BadBookU_initU d_OutOfRangeU_initU) : FnOk P w K mg base (L2.CX P w) 1 a__law_joined d__law_joined ["rows"] (liftSp ⟨K, mg⟩ w__law_joined 1) :=
  fn_mk (N := ["rows", "got", "row"]) (ps := ["rows"]) (k := 0) (pb := b__law_joined) T.F__law_joined sc__law_joined fun cdv A outer s H E hr => ⟨_, (lss_cons (ls_setO 1 sc__law_joined.nd (lo_lst la_nil))
 (lss_cons (ls_for (passes_of rfl) rfl (li_seq (lx_var 0)) (lg_name 2 sc__law_joined.nd) (lss_one (ls_if (LWt.t (lw_and (lt_cmp (op_neD hr.units) ol_ne (lv_var 1) (LO.v (lo_lst la_nil)) (nomark _)) (lw_and1 (lt_cmp (op_eqD hr.units) ol_eq (LX.v (lx_ix (LX.v (lx_ix (lv_var 1) (LX.v (lx_un un_neg ul_neg (LX.v lx_int))) (fun _ _ => rfl))) (LX.v lx_int) (fun _ _ => rfl))) (LX.v (lx_ix (LX.v (lx_var 2)) (LX.v lx_int) (fun _ _ => rfl))) (nomark _))))) (lss_one (ls_setI 1 (lx_tup (la_cons (lx_bin op_addAll ol_add (LX.v (lx_ix (LX.v (lx_ix (lv_var 1) (LX.v (lx_un un_neg ul_neg (LX.v lx_int))) (fun _ _ => rfl))) (LX.v lx_int) (fun _ _ => rfl))) (LX.v (lx_ix (LX.v (lx_var 2)) (LX.v lx_int) (fun _ _ => rfl)))) (la_cons (lx_ix (LX.v (lx_var 2)) (LX.v lx_int) (fun _ _ => rfl)) la_nil))) (lx_un un_neg ul_neg (LX.v lx_int)))) (lss_one (ls_app 1 (lx_tup (la_cons (lx_ix (LX.v (lx_var 2)) (LX.v lx_int) (fun _ _ => rfl)) (la_cons (lx_ix (LX.v (lx_var 2)) (LX.v lx_int) (fun _ _ => rfl)) la_nil))))))))
 (lss_one (ls_freeze 1 (ls_ret (lx_var 1))))))⟩
theorem ok__law_closings_in (T : Tx K mg a__law_take a__law_depot a__law_changed a__law_choose a__law_great a__law_span a__law_gone a__law_here a__law_book a__law_case a_check_period_and_quota a_check_firsts a_DepotU_initU a__law_pool a_ascending a_check_stretches a_join_neighbours a_BookU_initU a_AfterU_initU a_Depot_size a_check_runners a_long_runs a_walk a_check_days a_Depot_closings a_crews_seen a__law_ask a__law_number a__law_same a__law_joined a__law_closings_in a__law_due a_law a_BadDepotU_initU a_BadBookU_initU a_OutOfRangeU_initU A_Depot A_After A_Book A_OutagainError A_OutOfRange A_BadDepot A_BadBook A_BadCrews A_NoBook p_Depot_size d__law_take d__law_depot d__law_changed d__law_choose d__law_great d__law_span d__law_gone d__law_here d__law_book d__law_case d_check_period_and_quota d_check_firsts d_DepotU_initU d__law_pool d_ascending d_check_stretches d_join_neighbours d_BookU_initU d_AfterU_initU d_Depot_size d_check_runners d_long_runs d_walk d_check_days d_Depot_closings d_crews_seen d__law_ask d__law_number d__law_same d__law_joined d__law_closings_in d__law_due d_law d_BadDepotU_initU d_BadBookU_initU d_OutOfRangeU_initU) : FnOk P w K mg base (L2.CX P w) 1 a__law_closings_in d__law_closings_in ["start", "end", "m"] (liftSp ⟨K, mg⟩ w__law_closings_in 3) :=
  fn_mk (N := ["start", "end", "m", "first"]) (ps := ["start", "end", "m"]) (k := 0) (pb := b__law_closings_in) T.F__law_closings_in sc__law_closings_in fun cdv A outer s H E hr => ⟨_, (lss_cons (ls_set 3 sc__law_closings_in.nd (lx_bin op_mulAll ol_mul (LX.v (lx_var 2)) (LX.v (lx_bin op_fdivW ol_div (LX.v (lx_bin op_sub ol_sub (LX.v (lx_bin op_addAll ol_add (LX.v (lx_var 0)) (LX.v (lx_var 2)))) (LX.v lx_int))) (LX.v (lx_var 2))))))
 (lss_cons (ls_if (lt_cmp L2.op_ge ol_ge (LX.v (lx_var 3)) (LX.v (lx_var 1)) (nomark _)) (lss_one (ls_ret lx_int)) lss_nil)
 (lss_one (ls_ret (lx_bin op_addAll ol_add (LX.v lx_int) (LX.v (lx_bin op_fdivW ol_div (LX.v (lx_bin op_sub ol_sub (LX.v (lx_bin op_sub ol_sub (LX.v (lx_var 1)) (LX.v lx_int))) (LX.v (lx_var 3)))) (LX.v (lx_var 2)))))))))⟩
theorem ok__law_due (T : Tx K mg a__law_take a__law_depot a__law_changed a__law_choose a__law_great a__law_span a__law_gone a__law_here a__law_book a__law_case a_check_period_and_quota a_check_firsts a_DepotU_initU a__law_pool a_ascending a_check_stretches a_join_neighbours a_BookU_initU a_AfterU_initU a_Depot_size a_check_runners a_long_runs a_walk a_check_days a_Depot_closings a_crews_seen a__law_ask a__law_number a__law_same a__law_joined a__law_closings_in a__law_due a_law a_BadDepotU_initU a_BadBookU_initU a_OutOfRangeU_initU A_Depot A_After A_Book A_OutagainError A_OutOfRange A_BadDepot A_BadBook A_BadCrews A_NoBook p_Depot_size d__law_take d__law_depot d__law_changed d__law_choose d__law_great d__law_span d__law_gone d__law_here d__law_book d__law_case d_check_period_and_quota d_check_firsts d_DepotU_initU d__law_pool d_ascending d_check_stretches d_join_neighbours d_BookU_initU d_AfterU_initU d_Depot_size d_check_runners d_long_runs d_walk d_check_days d_Depot_closings d_crews_seen d__law_ask d__law_number d__law_same d__law_joined d__law_closings_in d__law_due d_law d_BadDepotU_initU d_BadBookU_initU d_OutOfRangeU_initU) : FnOk P w K mg base (L2.CX P w) 2 a__law_due d__law_due ["plan", "rows"] (liftSp ⟨K, mg⟩ w__law_due 2) :=
  fn_mk (N := ["plan", "rows", "nexts", "start", "got", "joined", "k", "crew", "i", "times"]) (ps := ["plan", "rows"]) (k := 1) (pb := b__law_due) T.F__law_due sc__law_due fun cdv A outer s H E hr => ⟨_, (lss_cons (ls_set 2 sc__law_due.nd (LO.x (lo_callT call_list_of cl_list rfl T.n_list bb_list (lw_cons (LX.v (lx_ix (LX.v (lx_var 0)) (LX.v lx_int) (fun _ _ => rfl))) lw_nil))))
 (lss_cons (ls_set 3 sc__law_due.nd lx_int)
 (lss_cons (ls_setO 4 sc__law_due.nd (lo_lst la_nil))
 (lss_cons (ls_set 5 sc__law_due.nd (lx_call (takes_of rfl rfl rfl rfl) (ok__law_joined T) (hr.mono (by first | decide | omega)) rfl T.G__law_joined T.K__law_joined T.B__law_joined (lan_cons (lx_var 1) lan_nil)))
 (lss_cons (ls_for (passes_of rfl) rfl (li_range1 rfl T.n_range (lx_callB call_len cl_len rfl T.n_len bb_len (lw_cons (LX.v (lx_var 5)) lw_nil))) (lg_name 6 sc__law_due.nd) (lss_cons (ls_set 7 sc__law_due.nd (lx_ix (LX.v (lx_ix (LX.v (lx_var 5)) (LX.v (lx_var 6)) (fun _ _ => rfl))) (LX.v lx_int) (fun _ _ => rfl)))
 (lss_cons (ls_if (lt_cmp (op_neD hr.units) ol_ne (LO.v (lo_lc (own := [("i", 8)]) rfl sc__law_due.nd (li_seq (lx_var 7)) (blkOk_by (N := ["plan", "rows", "nexts", "start", "got", "joined", "k", "crew", "i", "times"]) (sc := defScope s__law_due) (by decide +kernel)) (fun _ _ _ _ _ => ⟨_, (lg_name 8 sc__law_due.nd)⟩) (fun _ _ _ _ _ => ⟨_, (lts_one (lt_cmp L2.op_ge ol_ge (LX.v (lx_var 8)) (LX.v (lx_callB call_len cl_len rfl T.n_len bb_len (lw_cons (LX.v (lx_var 2)) lw_nil))) (nomark _)))⟩) (fun _ _ _ _ _ => ⟨_, (lx_var 8)⟩) (by decide))) (LO.v (lo_lst la_nil)) (nomark _)) (lss_one (ls_ret (lx_tup (la_cons lx_str (la_cons lx_str (la_cons (lx_var 6) (la_cons lx_str (la_cons lx_bl la_nil)))))))) lss_nil)
 (lss_cons (ls_if (lt_cmp (op_neD hr.units) ol_ne (LX.v (lx_callB call_len cl_len rfl T.n_len bb_len (lw_cons (LX.v (lx_var 7)) lw_nil))) (LX.v (lx_ix (LX.v (lx_var 0)) (LX.v lx_int) (fun _ _ => rfl))) (nomark _)) (lss_one (ls_ret (lx_tup (la_cons lx_str (la_cons lx_str (la_cons (lx_var 6) (la_cons lx_str (la_cons lx_bl la_nil)))))))) lss_nil)
 (lss_cons (ls_if (lt_cmp (op_neD hr.units) ol_ne (LO.v (lo_lc (own := [("i", 8)]) rfl sc__law_due.nd (li_seq (lx_var 7)) (blkOk_by (N := ["plan", "rows", "nexts", "start", "got", "joined", "k", "crew", "i", "times"]) (sc := defScope s__law_due) (by decide +kernel)) (fun _ _ _ _ _ => ⟨_, (lg_name 8 sc__law_due.nd)⟩) (fun _ _ _ _ _ => ⟨_, (lts_one (lt_cmp (op_neD hr.units) ol_ne (LX.v (lx_ix (LX.v (lx_var 2)) (LX.v (lx_var 8)) (fun _ _ => rfl))) (LX.v (lx_var 3)) (nomark _)))⟩) (fun _ _ _ _ _ => ⟨_, (lx_var 8)⟩) (by decide))) (LO.v (lo_lst la_nil)) (nomark _)) (lss_one (ls_ret (lx_tup (la_cons lx_str (la_cons lx_str (la_cons (lx_var 6) (la_cons lx_str (la_cons lx_bl la_nil)))))))) lss_nil)
 (lss_cons (ls_set 9 sc__law_due.nd (lx_call (takes_of rfl rfl rfl rfl) (ok__law_closings_in T) (hr.mono (by first | decide | omega)) rfl T.G__law_closings_in T.K__law_closings_in T.B__law_closings_in (lan_cons (lx_var 3) (lan_cons (lx_bin op_addAll ol_add (LX.v (lx_var 3)) (LX.v (lx_ix (LX.v (lx_ix (LX.v (lx_var 5)) (LX.v (lx_var 6)) (fun _ _ => rfl))) (LX.v lx_int) (fun _ _ => rfl)))) (lan_cons (lx_ix (LX.v (lx_var 0)) (LX.v lx_int) (fun _ _ => rfl)) lan_nil)))))
 (lss_cons (ls_if (LWt.t (lw_and (lt_cmp L2.op_gt ol_gt (LX.v (lx_var 9)) (LX.v lx_int) (nomark _)) (lw_and (lt_cmp (op_neD hr.units) ol_ne (lv_var 4) (LO.v (lo_lst la_nil)) (nomark _)) (lw_and1 (lt_cmp (op_eqD hr.units) ol_eq (LX.v (lx_ix (LX.v (lx_ix (lv_var 4) (LX.v (lx_un un_neg ul_neg (LX.v lx_int))) (fun _ _ => rfl))) (LX.v lx_int) (fun _ _ => rfl))) (LX.v (lx_var 7)) (nomark _)))))) (lss_one (ls_setI 4 (lx_tup (la_cons (lx_bin op_addAll ol_add (LX.v (lx_ix (LX.v (lx_ix (lv_var 4) (LX.v (lx_un un_neg ul_neg (LX.v lx_int))) (fun _ _ => rfl))) (LX.v lx_int) (fun _ _ => rfl))) (LX.v (lx_var 9))) (la_cons (lx_var 7) la_nil))) (lx_un un_neg ul_neg (LX.v lx_int)))) (lss_one (ls_if (lt_cmp L2.op_gt ol_gt (LX.v (lx_var 9)) (LX.v lx_int) (nomark _)) (lss_one (ls_app 4 (lx_tup (la_cons (lx_var 9) (la_cons (lx_var 7) la_nil))))) lss_nil)))
 (lss_cons (ls_set 2 sc__law_due.nd (lx_call (takes_of rfl rfl rfl rfl) (ok__law_gone T) (hr.mono (by first | decide | omega)) rfl T.G__law_gone T.K__law_gone T.B__law_gone (lan_cons (lx_var 2) (lan_cons (lx_var 7) (lan_cons (lx_ix (LX.v (lx_ix (LX.v (lx_var 5)) (LX.v (lx_var 6)) (fun _ _ => rfl))) (LX.v lx_int) (fun _ _ => rfl)) (lan_cons (lx_var 3) (lan_cons (lx_ix (LX.v (lx_var 0)) (LX.v lx_int) (fun _ _ => rfl)) lan_nil)))))))
 (lss_one (ls_set 3 sc__law_due.nd (lx_bin op_addAll ol_add (LX.v (lx_var 3)) (LX.v (lx_ix (LX.v (lx_ix (LX.v (lx_var 5)) (LX.v (lx_var 6)) (fun _ _ => rfl))) (LX.v lx_int) (fun _ _ => rfl))))))))))))))
 (lss_one (ls_freeze 4 (ls_ret (lx_tup (la_cons lx_str (la_cons (lx_var 4) la_nil)))))))))))⟩
theorem ok_law (T : Tx K mg a__law_take a__law_depot a__law_changed a__law_choose a__law_great a__law_span a__law_gone a__law_here a__law_book a__law_case a_check_period_and_quota a_check_firsts a_DepotU_initU a__law_pool a_ascending a_check_stretches a_join_neighbours a_BookU_initU a_AfterU_initU a_Depot_size a_check_runners a_long_runs a_walk a_check_days a_Depot_closings a_crews_seen a__law_ask a__law_number a__law_same a__law_joined a__law_closings_in a__law_due a_law a_BadDepotU_initU a_BadBookU_initU a_OutOfRangeU_initU A_Depot A_After A_Book A_OutagainError A_OutOfRange A_BadDepot A_BadBook A_BadCrews A_NoBook p_Depot_size d__law_take d__law_depot d__law_changed d__law_choose d__law_great d__law_span d__law_gone d__law_here d__law_book d__law_case d_check_period_and_quota d_check_firsts d_DepotU_initU d__law_pool d_ascending d_check_stretches d_join_neighbours d_BookU_initU d_AfterU_initU d_Depot_size d_check_runners d_long_runs d_walk d_check_days d_Depot_closings d_crews_seen d__law_ask d__law_number d__law_same d__law_joined d__law_closings_in d__law_due d_law d_BadDepotU_initU d_BadBookU_initU d_OutOfRangeU_initU) : FnOk P w K mg base (L2.CX P w) 9 a_law d_law ["script"] (liftSp ⟨K, mg⟩ w_law 1) :=
  fn_mk (N := ["script", "case", "plan", "depot", "books", "row", "rows", "k", "answer", "crews", "m", "there", "first"]) (ps := ["script"]) (k := 8) (pb := b_law) T.F_law sc_law fun cdv A outer s H E hr => ⟨_, (lss_cons (ls_set 1 sc_law.nd (lx_call (takes_of rfl rfl rfl rfl) (ok__law_case T) (hr.mono (by first | decide | omega)) rfl T.G__law_case T.K__law_case T.B__law_case (lan_cons (lx_call (takes_of rfl rfl rfl rfl) (ok__law_pool T) (hr.mono (by first | decide | omega)) rfl T.G__law_pool T.K__law_pool T.B__law_pool (lan_cons (lx_var 0) lan_nil)) lan_nil)))
 (lss_cons (ls_set 2 sc_law.nd (lx_ix (LX.v (lx_var 1)) (LX.v lx_int) (fun _ _ => rfl)))
 (lss_cons (ls_set 3 sc_law.nd (lx_make (c := 0) (takes_of rfl rfl rfl rfl) T.mk_Depot T.m_Depot (ok_DepotU_initU T) (hr.mono (by decide)) rfl T.B_DepotU_initU (lan_cons (lx_ix (LX.v (lx_var 2)) (LX.v lx_int) (fun _ _ => rfl)) (lan_cons (lx_ix (LX.v (lx_var 2)) (LX.v lx_int) (fun _ _ => rfl)) (lan_cons (LO.x (lo_callT call_list_of cl_list rfl T.n_list bb_list (lw_cons (LX.v (lx_ix (LX.v (lx_var 2)) (LX.v lx_int) (fun _ _ => rfl))) lw_nil))) lan_nil)))))
 (lss_cons (ls_setLc 4 (own := [("rows", 6)]) rfl sc_law.nd (li_seq (lx_slice (LX.v (lx_var 1)) (lp_some lx_int) lp_none)) (blkOk_by (N := ["script", "case", "plan", "depot", "books", "row", "rows", "k", "answer", "crews", "m", "there", "first"]) (sc := defScope s_law) (by decide +kernel)) (fun _ _ _ _ _ => ⟨_, (lg_name 6 sc_law.nd)⟩) (fun _ _ _ _ _ => ⟨_, lts_nil⟩) (fun _ _ _ _ _ => ⟨_, (lx_make (c := 1) (W := WN) takes0 T.mk_Book T.m_Book (ok_BookU_initU T) (hr.mono (by decide)) rfl T.B_BookU_initU (lan_cons (LO.x (lo_lc (own := [("row", 5)]) rfl sc_law.nd (li_seq (lx_var 6)) (blkOk_by (by rfl)) (fun _ _ _ _ _ => ⟨_, (lg_name 5 sc_law.nd)⟩) (fun _ _ _ _ _ => ⟨_, lts_nil⟩) (fun _ _ _ _ _ => ⟨_, (lx_tup (la_cons (lx_ix (LX.v (lx_var 5)) (LX.v lx_int) (fun _ _ => rfl)) (la_cons (LO.x (lo_callT call_list_of cl_list rfl T.n_list bb_list (lw_cons (LX.v (lx_ix (LX.v (lx_var 5)) (LX.v lx_int) (fun _ _ => rfl))) lw_nil))) la_nil)))⟩) (by decide))) lan_nil))⟩) (by decide))
 (lss_cons (ls_for (passes_of rfl) rfl (li_seq (LO.x (lo_lst (la_cons lx_int (la_cons lx_int (la_cons lx_int (la_cons lx_int (la_cons lx_int (la_cons lx_int la_nil))))))))) (lg_name 7 sc_law.nd) (lss_cons (ls_asgT 8 [false, false, false, true, true, false, false, true, false, false, false, false, false] sc_law.nd (lx_call (takes_of rfl rfl rfl rfl) (ok__law_ask T) (hr.mono (by first | decide | omega)) rfl T.G__law_ask T.K__law_ask T.B__law_ask (lan_cons (lx_var 3) (lan_cons (lx_ix (LX.v (lx_var 4)) (LX.v (lx_var 7)) (fun _ _ => rfl)) lan_nil))))
 (lss_cons (ls_if (lt_vw [false, true, true, false, false, false, false, true, true, false, false, false, false] (lt_not (lt_truth (LX.v (lx_call (takes_of rfl rfl rfl rfl) (ok__law_same T 6) (hr.mono (by first | decide | omega)) rfl T.G__law_same T.K__law_same T.B__law_same (lan_cons (lx_var 8) (lan_cons (lx_call (takes_of rfl rfl rfl rfl) (ok__law_due T) (hr.mono (by first | decide | omega)) rfl T.G__law_due T.K__law_due T.B__law_due (lan_cons (lx_var 2) (lan_cons (lx_ix (LX.v (lx_var 1)) (LX.v (lx_bin op_addAll ol_add (LX.v lx_int) (LX.v (lx_var 7)))) (fun _ _ => rfl)) lan_nil))) lan_nil))))))) (lss_one (ls_ret lx_bl)) lss_nil)
 (lss_one (ls_if (lt_vw [false, false, false, false, false, false, false, false, true, false, false, false, false] (lt_cmp (op_eqD hr.units) ol_eq (LX.v (lx_ix (LX.v (lx_var 8)) (LX.v lx_int) (fun _ _ => rfl))) (LX.v lx_str) (nomark _))) (lss_cons (ls_mvT 9 sc_law.nd (ltr_ix (ltr_var 8) lx_int (fun _ _ => rfl)))
 (lss_cons (ls_app 9 (lx_tup (la_cons lx_int (la_cons (lx_tup la_nil) la_nil))))
 (lss_one (ls_reverse 9)))) lss_nil)))))
 (lss_cons (ls_set 10 sc_law.nd (lx_bin op_addAll ol_add (LX.v (lx_bin op_mod ol_mod (LX.v (lx_callT call_int1 cl_int rfl T.n_int bb_int (lw_cons (LX.v (lx_ix (LX.v (lx_var 2)) (LX.v lx_int) (fun _ _ => rfl))) lw_nil))) (LX.v lx_int))) (LX.v lx_int)))
 (lss_cons (ls_set 11 sc_law.nd (LO.x (lo_lst (la_cons (lx_var 10) (la_cons (lx_ix (LX.v (lx_var 2)) (LX.v lx_int) (fun _ _ => rfl)) (la_cons (LO.x (lo_lc (own := [("first", 12)]) rfl sc_law.nd (li_seq (lx_ix (LX.v (lx_var 2)) (LX.v lx_int) (fun _ _ => rfl))) (blkOk_by (N := ["script", "case", "plan", "depot", "books", "row", "rows", "k", "answer", "crews", "m", "there", "first"]) (sc := defScope s_law) (by decide +kernel)) (fun _ _ _ _ _ => ⟨_, (lg_name 12 sc_law.nd)⟩) (fun _ _ _ _ _ => ⟨_, lts_nil⟩) (fun _ _ _ _ _ => ⟨_, (lx_callB (call_min2 rfl) cl_min2 rfl T.n_min bb_min (lw_cons (LX.v (lx_var 10)) (lw_cons (LX.v (lx_var 12)) lw_nil)))⟩) (by decide))) la_nil))))))
 (lss_cons (ls_for (passes_of rfl) rfl (li_range1 rfl T.n_range lx_int) (lg_name 7 sc_law.nd) (lss_cons (ls_if (lt_not (lt_truth (LX.v (lx_call (takes_of rfl rfl rfl rfl) (ok__law_same T 6) (hr.mono (by first | decide | omega)) rfl T.G__law_same T.K__law_same T.B__law_same (lan_cons (lx_call (takes_of rfl rfl rfl rfl) (ok__law_ask T) (hr.mono (by first | decide | omega)) rfl T.G__law_ask T.K__law_ask T.B__law_ask (lan_cons (lx_make (c := 0) (takes_of rfl rfl rfl rfl) T.mk_Depot T.m_Depot (ok_DepotU_initU T) (hr.mono (by decide)) rfl T.B_DepotU_initU (lan_cons (lx_var 10) (lan_cons (lx_ix (LX.v (lx_var 2)) (LX.v lx_int) (fun _ _ => rfl)) (lan_cons (LO.x (lo_callT call_list_of cl_list rfl T.n_list bb_list (lw_cons (LX.v (lx_ix (LX.v (lx_var 11)) (LX.v lx_int) (fun _ _ => rfl))) lw_nil))) lan_nil)))) (lan_cons (lx_ix (LX.v (lx_var 4)) (LX.v (lx_var 7)) (fun _ _ => rfl)) lan_nil))) (lan_cons (lx_call (takes_of rfl rfl rfl rfl) (ok__law_due T) (hr.mono (by first | decide | omega)) rfl T.G__law_due T.K__law_due T.B__law_due (lan_cons (lx_var 11) (lan_cons (lx_ix (LX.v (lx_var 1)) (LX.v (lx_bin op_addAll ol_add (LX.v lx_int) (LX.v (lx_var 7)))) (fun _ _ => rfl)) lan_nil))) lan_nil)))))) (lss_one (ls_ret lx_bl)) lss_nil)
 (lss_one (ls_if (lt_not (lt_truth (LX.v (lx_call (takes_of rfl rfl rfl rfl) (ok__law_same T 6) (hr.mono (by first | decide | omega)) rfl T.G__law_same T.K__law_same T.B__law_same (lan_cons (lx_call (takes_of rfl rfl rfl rfl) (ok__law_ask T) (hr.mono (by first | decide | omega)) rfl T.G__law_ask T.K__law_ask T.B__law_ask (lan_cons (lx_var 3) (lan_cons (lx_ix (LX.v (lx_var 4)) (LX.v (lx_var 7)) (fun _ _ => rfl)) lan_nil))) (lan_cons (lx_call (takes_of rfl rfl rfl rfl) (ok__law_due T) (hr.mono (by first | decide | omega)) rfl T.G__law_due T.K__law_due T.B__law_due (lan_cons (lx_var 2) (lan_cons (lx_ix (LX.v (lx_var 1)) (LX.v (lx_bin op_addAll ol_add (LX.v lx_int) (LX.v (lx_var 7)))) (fun _ _ => rfl)) lan_nil))) lan_nil)))))) (lss_one (ls_ret lx_bl)) lss_nil))))
 (lss_one (ls_ret lx_bl))))))))))⟩
end
end Pu
set_option Elab.async false
set_option linter.all false
set_option maxRecDepth 100000
set_option maxHeartbeats 2000000
set_option autoImplicit false
namespace Pu
open PySem PySem.Spec PyProof.Rows L2
set_option hygiene false in
local macro_rules | `(tactic| infer_instance) => `(tactic| (first
  | (with_reducible refine e_c ?_)
  | ((with_reducible refine' e_var ?hh ?_); (case hh => rfl))
  | (with_reducible refine e_op ?_)
  | (with_reducible refine a_cons ?_)
  | (with_reducible refine a_nil ?_)
  | (with_reducible refine e_call ?_)
  | (with_reducible refine t_tst ?_)
  | (with_reducible refine w_if ?_)
  | (with_reducible refine w_asg ?_)
  | ((with_reducible refine' o_ixL ?hh ?_); (case hh => rfl))
  | ((with_reducible refine' o_ixT ?hh ?_); (case hh => rfl))
  | (with_reducible refine w_tt ?_)
  | (with_reducible refine w_ff ?_)
  | (with_reducible refine w_next ?_)
  | (with_reducible refine w_ret ?_)
  | (with_reducible refine w_dec (fun c => ?_) (fun c => ?_))
  | (with_reducible refine o_add ?_)
  | (with_reducible refine o_sub ?_)
  | (with_reducible refine o_eq ?_)
  | (with_reducible refine o_lt ?_)
  | (with_reducible refine o_gt ?_)
  | (with_reducible refine e_cb ?_)
  | ((with_reducible refine' e_varV ?hh ?_); (case hh => rfl))
  | ((with_reducible refine' e_varO ?hh ?_); (case hh => rfl))
  | (with_reducible refine w_asgO ?_)
  | ((with_reducible refine' w_fzO ?hh ?_); (case hh => rfl))
  | ((with_reducible refine' w_fzD ?hh ?_); (case hh => rfl))
  | ((with_reducible refine' w_insK ?hh ?_); (case hh => rfl))
  | ((with_reducible refine' w_appK ?hh ?_); (case hh => rfl))
  | (with_reducible refine e_tup ?_)
  | (with_reducible refine e_lst ?_)
  | (with_reducible refine o_rep ?_ ?_ ?_)
  | (with_reducible refine w_raise ?_)
  | (with_reducible refine w_retN ?_)
  | (with_reducible refine w_brk ?_)
  | (with_reducible refine w_cnt ?_)
  | (with_reducible refine e_chain ?_)
  | (with_reducible refine t_truK ?_)
  | (with_reducible refine e_ifE ?_)
  | (with_reducible refine l_enum ?_)
  | (with_reducible refine l_zip2 ?_)
  | (with_reducible refine l_zip3 ?_)
  | (with_reducible refine e_revL ?_)
  | (with_reducible refine e_lRg1 ?_)
  | (with_reducible refine e_lRg2 ?_)
  | (with_reducible refine e_lc2 ?_)
  | (with_reducible refine w_tryAll ?_)
  | (with_reducible refine g_seq2 ?_)
  | (with_reducible refine g_cons ?_)
  | (with_reducible refine g_nil ?_)
  | ((with_reducible refine' w_setF ?hh ?h3 ?_); (case hh => rfl); (case h3 => rfl))
  | ((with_reducible refine' w_ext ?hh ?_); (case hh => rfl))
  | ((with_reducible refine' e_makeV ?hh ?_); (case hh => rfl))
  | (with_reducible refine e_makeW ?_)
  | (with_reducible refine e_make ?_)
  | (with_reducible refine w_for ?_)
  | (with_reducible refine w_for1 ?_)
  | (with_reducible refine w_for0 ?_)
  | (with_reducible refine l_range1 ?_)
  | (with_reducible refine l_range2 ?_)
  | (with_reducible refine l_seq ?_)
  | (with_reducible refine g_name ?_)
  | (with_reducible refine w_drop ?_)
  | (with_reducible refine e_and ?_)
  | (with_reducible refine e_or ?_)
  | (with_reducible refine e_not ?_)
  | (with_reducible refine e_isT ?_)
  | (with_reducible refine e_isC ?_)
  | (with_reducible refine e_fld ?_)
  | (with_reducible refine e_prop ?_)
  | (with_reducible refine e_meth ?_)
  | (with_reducible refine e_callW ?_)
  | (with_reducible refine e_cm ?_)
  | (with_reducible refine w_try ?_)
  | (with_reducible refine w_lc ?_)
  | (with_reducible refine k_truB ?_)
  | (with_reducible refine k_truN ?_)
  | (with_reducible refine k_obj ?_)
  | ((with_reducible refine' k_clN ?hh ?_); (case hh => rfl))
  | ((with_reducible refine' k_fld ?hh ?h3 ?_); (case hh => rfl); (case h3 => rfl))
  | ((with_reducible refine' o_listI ?hh ?_); (case hh => rfl))
  | ((with_reducible refine' o_tupI ?hh ?_); (case hh => rfl))
  | ((with_reducible refine' e_xm ?hh ?h3 ?h4 ?_); (case hh => rfl); (case h3 => rfl); (case h4 => rfl))
  | ((with_reducible refine' e_isX ?hh ?h3 ?_); (case hh => rfl); (case h3 => rfl))
  | (with_reducible refine o_eqB ?_)
  | (with_reducible refine t_and ?_)
  | (with_reducible refine t_or ?_)
  | (with_reducible refine t_not ?_)
  | (with_reducible refine o_ge ?_)
  | (with_reducible refine o_le ?_)
  | (with_reducible refine o_ne ?_)
  | (with_reducible refine o_mod ?_ ?_)
  | (with_reducible refine o_div ?_ ?_ ?_)
  | (with_reducible refine o_mul ?_ ?_)
  | (with_reducible refine o_pow8 ?_)
  | (with_reducible refine o_pow12 ?_)
  | (with_reducible refine o_pow18 ?_)
  | (with_reducible refine o_pow25 ?_)
  | (with_reducible refine o_pow30 ?_)
  | (with_reducible refine o_pow31 ?_)
  | ((with_reducible refine o_pow ?hh ?h3 ?h4 ?_); (case hh => decide); (case h3 => decide); (case h4 => decide))
  | (with_reducible refine o_lenL ?_)
  | (with_reducible refine o_lenT ?_)
  | (with_reducible refine o_lenW ?_)
  | (with_reducible refine o_lenP ?_)
  | (with_reducible refine o_int ?_)
  | (with_reducible refine o_intB ?_)
  | (with_reducible refine o_abs ?_)
  | (with_reducible refine o_min ?_)
  | (with_reducible refine o_max ?_)
  | (with_reducible refine o_ixPool (fun s hs => ?_))
  | (with_reducible refine r_rng4 ?_)
  | ((with_reducible refine o_ixP ?hh ?h3 (fun z hz => ?_)); (case hh => omega); (case h3 => omega))
  | ((with_reducible refine' w_setO ?hh ?_); (case hh => rfl))
  | (with_reducible refine k_setI ?_ ?_ ?_)
  | ((with_reducible refine' o_set ?hh ?_); (case hh => rfl))
  | (with_reducible refine w_ndec (fun c => ?_) (fun c => ?_))
  | (with_reducible refine w_nff ?_)
  | (with_reducible refine w_ntt ?_)
  | (with_reducible refine And.intro ?_ ?_)
  | ((with_reducible refine' k_tyt ?hh ?_); (case hh => rfl))
  | ((with_reducible refine' k_tyf ?hh ?_); (case hh => rfl))
  | ((with_reducible refine' k_clOt ?hh ?h3 ?_); (case hh => decide); (case h3 => decide))
  | ((with_reducible refine' k_clOf ?hh ?h3 ?_); (case hh => decide); (case h3 => decide))
  | ((with_reducible refine' o_isNf ?hh ?_); (case hh => rfl))
  | ((with_reducible refine' o_isNt ?hh ?_); (case hh => rfl))
  | ((with_reducible refine' o_notNf ?hh ?_); (case hh => rfl))
  | ((with_reducible refine' o_notNt ?hh ?_); (case hh => rfl))
  | (with_reducible refine e_un ?_)
  | (with_reducible refine o_neg ?_)
  | ((with_reducible refine' l_itR ?hh ?_); (case hh => rfl))
  | ((with_reducible refine' w_popK ?hh ?_); (case hh => rfl))
  | (with_reducible refine k_appI ?_ ?_)
  | (with_reducible refine k_app ?_ ?_)
  | (with_reducible refine k_insI ?_ ?_ ?_ ?_)
  | (with_reducible refine k_popM ?_ ?_ ?_ ?_)
  | (with_reducible refine k_int ?_)
  | (with_reducible refine k_exI ?_)
  | (with_reducible refine t_yes ?_)
  | ((with_reducible refine' e_fldS ?hh ?h3 ?_); (case hh => rfl); (case h3 => rfl))
  | (with_reducible refine e_sl ?_)
  | (with_reducible refine e_part ?_)
  | (with_reducible refine e_no ?_)
  | (with_reducible refine k_intO ?_)))
theorem tr_take {limit : Int} {Qt : Int → Prop} {P : D → Prop} {P2 : Exn → Prop} (c : takeOk limit) (h : takeT limit Qt) (hq : ∀ r, Qt r → P (D.int r)) : w__law_take [D.pool, D.int limit] P P2 := by
  unfold w__law_take wpPl
  refine ⟨rfl, fun p l s0 s1 s2 s3 ns hB => ?_⟩
  have h1 := c.1
  have h2 := c.2
  obtain ⟨hn, b0, b1, b2, b3, b4, b5⟩ := hB
  have hm : ∀ a : Int, 0 ≤ a % limit ∧ a % limit < limit := fun a => ⟨Int.emod_nonneg _ (by omega), Int.emod_lt_of_pos _ (by omega)⟩
  unfold b__law_take
  repeat' (first | infer_instance | (with_reducible refine w_seq ?_) | fail)
  all_goals first
    | decide
    | omega
    | exact hq _ (h _ (hm _).1 (hm _).2)
    | (refine ⟨_, _, _, _, rfl, hn, ?_, ?_, ?_, ?_, ?_, ?_⟩ <;> first | omega | (refine Int.ediv_nonneg ?_ ?_ <;> first | omega | (split <;> omega)))
theorem atI_nat {ds : List D} {i : Nat} (h : i < ds.length) : atI ds (0 + (i : Int)) = some (ds[i]'h) := by
  unfold atI ixN
  rw [if_pos (by omega), if_pos (by omega)]
  show ds[(0 + (i : Int)).toNat]? = _
  rw [Int.zero_add, Int.toNat_natCast, List.getElem?_eq_getElem h]
theorem number_int {i : Int} {P : D → Prop} {P2 : Exn → Prop} (q : P (.bl true)) : w__law_number [.int i] P P2 := by
  unfold w__law_number wpB b__law_number
  repeat' (first | infer_instance | (with_reducible refine w_seq ?_) | fail)
  all_goals exact q
set_option hygiene false in
local macro_rules | `(tactic| infer_instance) => `(tactic| (with_reducible refine number_int ?_))
theorem same_loop {n : Nat} {ds : List D} {d : D} {P : D → Prop} {P2 : Exn → Prop} (IH : ∀ d, okS n d → ∀ {P : D → Prop} {P2 : Exn → Prop}, P (.bl true) → w__law_same n [d, d] P P2) (hd : itemsD d = some ds) (hi : ∀ i : Int, ∀ x, atI ds i = some x → ∀ K : D → Prop, K x → fIx d (.int i) K)
    (hk : ∀ x ∈ ds, okS n x) (q : P (.bl true)) (o2 : Option S) :
    pForL (pgName 2) (pIf (pNotT (pTru (pCall (w__law_same n) (pCons (pOp fIx (pVar 0) (pVar 2)) (pCons (pOp fIx (pVar 1) (pVar 2)) pNil))))) (pRet (pC (.bl false))) pNext) { nx := pRet (pC (.bl true)) { nx := fun _ => P .non, rt := fun _ => P, bk := fun _ => False, ct := fun _ => False, ex := fun _ => P2 }, rt := fun _ => P, bk := fun _ => False, ct := fun _ => False, ex := fun _ => P2 } (rangeD 0 ds.length) [some (.d d), some (.d d), o2] := by
  refine w_forP (fun (i : Nat) => D.int (0 + i)) (List.range ds.length) (fun _ δ => ∃ o, δ = [some (.d d), some (.d d), o]) (rangeD_map _ _) ?_ ?_ ⟨_, rfl⟩
  · rintro δ ⟨o, rfl⟩
    exact q
  · rintro pre x post δ k e ⟨o, rfl⟩ hk'
    have hx : x < ds.length := List.mem_range.mp (by rw [e]; simp)
    have ha := atI_nat hx
    repeat' (first | infer_instance | (with_reducible refine w_seq ?_) | (with_reducible refine hi _ _ ha _ ?_) | (with_reducible refine IH _ (hk _ (List.getElem_mem hx)) ?_) | fail)
    all_goals exact hk' _ ⟨_, rfl⟩
theorem same_refl : ∀ (n : Nat) (d : D), okS n d → ∀ {P : D → Prop} {P2 : Exn → Prop}, P (.bl true) → w__law_same n [d, d] P P2
  | 0, _, h, _, _, _ => h.elim
  | n + 1, d, h, P, P2, q => by
    unfold w__law_same wpB b__law_same
    cases d with
    | non =>
      repeat' (first | infer_instance | (with_reducible refine w_seq ?_) | fail)
      all_goals exact q
    | bl b =>
      repeat' (first | infer_instance | (with_reducible refine w_seq ?_) | fail)
      all_goals (show P (.bl (decide (b = b))); rw [decide_eq_true rfl]; exact q)
    | int i =>
      repeat' (first | infer_instance | (with_reducible refine w_seq ?_) | fail)
      all_goals (show P (.bl (decide (i = i))); rw [decide_eq_true rfl]; exact q)
    | str s =>
      have hs : PyData.strOk s = true := h
      repeat' (first | infer_instance | (with_reducible refine w_seq ?_) | (with_reducible refine o_eqS hs hs ?_) | fail)
      all_goals (show P (.bl (decide (s = s))); rw [decide_eq_true rfl]; exact q)
    | lst ds =>
      repeat' (first | infer_instance | (with_reducible refine w_seq ?_) | fail)
      all_goals first
        | exact absurd rfl c
        | (unfold b62; have : szl = 16777216 := rfl; have := h.1; omega)
        | exact same_loop (fun d hd => same_refl n d hd) rfl (fun i x e K k => o_ixL e k) h.2 q _
    | tup ds =>
      repeat' (first | infer_instance | (with_reducible refine w_seq ?_) | fail)
      all_goals first
        | exact absurd rfl c
        | (unfold b62; have : szl = 16777216 := rfl; have := h.1; omega)
        | exact same_loop (fun d hd => same_refl n d hd) rfl (fun i x e K k => o_ixT e k) h.2 q _
    | vw ds =>
      repeat' (first | infer_instance | (with_reducible refine w_seq ?_) | fail)
      all_goals first
        | exact absurd rfl c
        | (unfold b62; have : szl = 16777216 := rfl; have := h.1; omega)
        | exact same_loop (fun d hd => same_refl n d hd) rfl (fun i x e K k => o_ixW e k) h.2 q _
    | obj _ _ => exact h.elim
    | pool => exact h.elim
    | cls _ => exact h.elim
    | script _ => exact h.elim
    | pin _ _ => exact h.elim
theorem tr_same {a b : D} {P : D → Prop} {P2 : Exn → Prop} (c : sameT a b) (h : P (.bl true)) : w__law_same 6 [a, b] P P2 := by
  obtain ⟨h1, h2⟩ := c
  subst h2
  exact same_refl 6 a h1 h
theorem viewL_map (ds : List D) : viewL ds = ds.map viewD := by
  induction ds with
  | nil => rfl
  | cons d ds ih => unfold viewL; rw [ih]; rfl
theorem sameW_loop {n : Nat} {ds : List D} {d d' : D} {P : D → Prop} {P2 : Exn → Prop} (IH : ∀ d, okS n d → ∀ {P : D → Prop} {P2 : Exn → Prop}, P (.bl true) → w__law_same n [viewD d, d] P P2) (hi : ∀ i : Int, ∀ x, atI ds i = some x → ∀ K : D → Prop, K x → fIx d (.int i) K) (hi2 : ∀ i : Int, ∀ x, atI (viewL ds) i = some x → ∀ K : D → Prop, K x → fIx d' (.int i) K)
    (hk : ∀ x ∈ ds, okS n x) (q : P (.bl true)) (o2 : Option S) :
    pForL (pgName 2) (pIf (pNotT (pTru (pCall (w__law_same n) (pCons (pOp fIx (pVar 0) (pVar 2)) (pCons (pOp fIx (pVar 1) (pVar 2)) pNil))))) (pRet (pC (.bl false))) pNext) { nx := pRet (pC (.bl true)) { nx := fun _ => P .non, rt := fun _ => P, bk := fun _ => False, ct := fun _ => False, ex := fun _ => P2 }, rt := fun _ => P, bk := fun _ => False, ct := fun _ => False, ex := fun _ => P2 } (rangeD 0 ds.length) [some (.d d'), some (.d d), o2] := by
  refine w_forP (fun (i : Nat) => D.int (0 + i)) (List.range ds.length) (fun _ δ => ∃ o, δ = [some (.d d'), some (.d d), o]) (rangeD_map _ _) ?_ ?_ ⟨_, rfl⟩
  · rintro δ ⟨o, rfl⟩
    exact q
  · rintro pre x post δ k e ⟨o, rfl⟩ hk'
    have hx : x < ds.length := List.mem_range.mp (by rw [e]; simp)
    have ha := atI_nat hx
    have hb : atI (viewL ds) (0 + (x : Int)) = some (viewD ds[x]) := by
      have := atI_nat (ds := viewL ds) (i := x) (by rw [viewL_length]; exact hx)
      rw [this]
      simp only [viewL_map, List.getElem_map]
    repeat' (first | infer_instance | (with_reducible refine w_seq ?_) | (with_reducible refine hi2 _ _ hb _ ?_) | (with_reducible refine hi _ _ ha _ ?_) | (with_reducible refine IH _ (hk _ (List.getElem_mem hx)) ?_) | fail)
    all_goals exact hk' _ ⟨_, rfl⟩
theorem same_vw : ∀ (n : Nat) (d : D), okS n d → ∀ {P : D → Prop} {P2 : Exn → Prop}, P (.bl true) → w__law_same n [viewD d, d] P P2
  | 0, _, h, _, _, _ => h.elim
  | n + 1, d, h, P, P2, q => by
    cases d with
    | lst ds =>
      unfold w__law_same wpB b__law_same viewD
      repeat' (first | infer_instance | (with_reducible refine w_seq ?_) | fail)
      all_goals first
        | (refine absurd ?_ c; rw [viewL_length]; done)
        | (unfold b62; have : szl = 16777216 := rfl; have := h.1; omega)
        | exact sameW_loop (fun d hd => same_vw n d hd) (fun i x e K k => o_ixL e k) (fun i x e K k => o_ixW e k) h.2 q _
        | skip
    | tup ds =>
      unfold w__law_same wpB b__law_same viewD
      repeat' (first | infer_instance | (with_reducible refine w_seq ?_) | fail)
      all_goals first
        | (refine absurd ?_ c; rw [viewL_length]; done)
        | (unfold b62; have : szl = 16777216 := rfl; have := h.1; omega)
        | exact sameW_loop (fun d hd => same_vw n d hd) (fun i x e K k => o_ixT e k) (fun i x e K k => o_ixT e k) h.2 q _
        | skip
    | vw ds =>
      unfold w__law_same wpB b__law_same viewD
      repeat' (first | infer_instance | (with_reducible refine w_seq ?_) | fail)
      all_goals first
        | (refine absurd ?_ c; rw [viewL_length]; done)
        | (unfold b62; have : szl = 16777216 := rfl; have := h.1; omega)
        | exact sameW_loop (fun d hd => same_vw n d hd) (fun i x e K k => o_ixW e k) (fun i x e K k => o_ixW e k) h.2 q _
        | skip
    | non => exact same_refl (n + 1) .non h q
    | bl b => exact same_refl (n + 1) (.bl b) h q
    | int i => exact same_refl (n + 1) (.int i) h q
    | str s => exact same_refl (n + 1) (.str s) h q
    | obj _ _ => exact h.elim
    | pool => exact h.elim
    | cls _ => exact h.elim
    | script _ => exact h.elim
    | pin _ _ => exact h.elim
def sameW (a b : D) : Prop := okS 6 b ∧ a = viewD b
theorem tr_sameW {a b : D} {P : D → Prop} {P2 : Exn → Prop} (c : sameW a b) (h : P (.bl true)) : w__law_same 6 [a, b] P P2 := by
  obtain ⟨h1, h2⟩ := c
  subst h2
  exact same_vw 6 b h1 h

theorem y_pow10_28 {Q : D → Prop} (h : Q (.int 10000000000000000000000000000)) : fPow (.int 10) (.int 28) Q := o_powL (by decide) (by decide) (by decide) (by decide) h
theorem w_lc_2 {x0 x1 x2 : Option S} {l : Dl} {pi : PLx} {pg : PG'} {pt : PTx} {pe : PX} {Q : D → Prop} {Q2 : Exn → Prop} (h : pi (x0 :: x1 :: x2 :: l) (fun ds => pLcL pg pt pe (x0 :: x1 :: none :: l) Q ds []) Q2) : pLc pi pg pt pe [2] (x0 :: x1 :: x2 :: l) Q Q2 := w_lc h
theorem w_lc_6 {x0 x1 x2 x3 x4 x5 x6 : Option S} {l : Dl} {pi : PLx} {pg : PG'} {pt : PTx} {pe : PX} {Q : D → Prop} {Q2 : Exn → Prop} (h : pi (x0 :: x1 :: x2 :: x3 :: x4 :: x5 :: x6 :: l) (fun ds => pLcL pg pt pe (x0 :: x1 :: x2 :: x3 :: x4 :: x5 :: none :: l) Q ds []) Q2) : pLc pi pg pt pe [6] (x0 :: x1 :: x2 :: x3 :: x4 :: x5 :: x6 :: l) Q Q2 := w_lc h
theorem w_lc_5 {x0 x1 x2 x3 x4 x5 : Option S} {l : Dl} {pi : PLx} {pg : PG'} {pt : PTx} {pe : PX} {Q : D → Prop} {Q2 : Exn → Prop} (h : pi (x0 :: x1 :: x2 :: x3 :: x4 :: x5 :: l) (fun ds => pLcL pg pt pe (x0 :: x1 :: x2 :: x3 :: x4 :: none :: l) Q ds []) Q2) : pLc pi pg pt pe [5] (x0 :: x1 :: x2 :: x3 :: x4 :: x5 :: l) Q Q2 := w_lc h
theorem w_lc_2_3 {x0 x1 x2 x3 : Option S} {l : Dl} {pi : PLx} {pg : PG'} {pt : PTx} {pe : PX} {Q : D → Prop} {Q2 : Exn → Prop} (h : pi (x0 :: x1 :: x2 :: x3 :: l) (fun ds => pLcL pg pt pe (x0 :: x1 :: none :: none :: l) Q ds []) Q2) : pLc pi pg pt pe [2, 3] (x0 :: x1 :: x2 :: x3 :: l) Q Q2 := w_lc h
theorem w_lc_2_4 {x0 x1 x2 x3 x4 : Option S} {l : Dl} {pi : PLx} {pg : PG'} {pt : PTx} {pe : PX} {Q : D → Prop} {Q2 : Exn → Prop} (h : pi (x0 :: x1 :: x2 :: x3 :: x4 :: l) (fun ds => pLcL pg pt pe (x0 :: x1 :: none :: x3 :: none :: l) Q ds []) Q2) : pLc pi pg pt pe [2, 4] (x0 :: x1 :: x2 :: x3 :: x4 :: l) Q Q2 := w_lc h
theorem y_fd0_2_02 {x0 x1 x2 : D} {l : List D} {Q : D → Prop} (h : Q x2) : fldK [(0, 2)] Q (.obj 0 (x0 :: x1 :: x2 :: l)) := h
theorem y_fd1_0_10 {x0 : D} {l : List D} {Q : D → Prop} (h : Q x0) : fldK [(1, 0)] Q (.obj 1 (x0 :: l)) := h
theorem y_fd0_1_01 {x0 x1 : D} {l : List D} {Q : D → Prop} (h : Q x1) : fldK [(0, 1)] Q (.obj 0 (x0 :: x1 :: l)) := h
theorem y_fd0_0_00 {x0 : D} {l : List D} {Q : D → Prop} (h : Q x0) : fldK [(0, 0)] Q (.obj 0 (x0 :: l)) := h
theorem y_fd1_1_2011 {x0 x1 : D} {l : List D} {Q : D → Prop} (h : Q x1) : fldK [(2, 0), (1, 1)] Q (.obj 1 (x0 :: x1 :: l)) := h
theorem w_lc_8 {x0 x1 x2 x3 x4 x5 x6 x7 x8 : Option S} {l : Dl} {pi : PLx} {pg : PG'} {pt : PTx} {pe : PX} {Q : D → Prop} {Q2 : Exn → Prop} (h : pi (x0 :: x1 :: x2 :: x3 :: x4 :: x5 :: x6 :: x7 :: x8 :: l) (fun ds => pLcL pg pt pe (x0 :: x1 :: x2 :: x3 :: x4 :: x5 :: x6 :: x7 :: none :: l) Q ds []) Q2) : pLc pi pg pt pe [8] (x0 :: x1 :: x2 :: x3 :: x4 :: x5 :: x6 :: x7 :: x8 :: l) Q Q2 := w_lc h
theorem w_lc_12 {x0 x1 x2 x3 x4 x5 x6 x7 x8 x9 x10 x11 x12 : Option S} {l : Dl} {pi : PLx} {pg : PG'} {pt : PTx} {pe : PX} {Q : D → Prop} {Q2 : Exn → Prop} (h : pi (x0 :: x1 :: x2 :: x3 :: x4 :: x5 :: x6 :: x7 :: x8 :: x9 :: x10 :: x11 :: x12 :: l) (fun ds => pLcL pg pt pe (x0 :: x1 :: x2 :: x3 :: x4 :: x5 :: x6 :: x7 :: x8 :: x9 :: x10 :: x11 :: none :: l) Q ds []) Q2) : pLc pi pg pt pe [12] (x0 :: x1 :: x2 :: x3 :: x4 :: x5 :: x6 :: x7 :: x8 :: x9 :: x10 :: x11 :: x12 :: l) Q Q2 := w_lc h
def t__law_depot (drivers : Int) (period : Int) (Q : (Int × Int × (List Int)) → Prop) (X : Exn → Prop) : Prop :=
  takeOk period ∧ takeT period (fun (r1 : Int) => bnd (1 + r1) (fun (m : Int) => takeOk drivers ∧ takeT drivers (fun (r2 : Int) => bnd (1 + r2) (fun (n : Int) => takeOk n ∧ takeT n (fun (r3 : Int) => bnd (1 + r3) (fun (q : Int) => jn (fun (k : Int → Prop) => takeT 3 (fun (r6 : Int) => ifP (0 < r6) (takeOk (mn n 2) ∧ takeT (mn n 2) (fun (r7 : Int) => bnd (1 + r7) (fun (q3 : Int) => k q3))) (k q))) (fun (q2 : Int) => (-(2 ^ 63) ≤ q2 ∧ q2 ≤ 16777216) ∧ bnd (List.replicate q2.toNat 1) (fun (firsts : (List Int)) => b62 (n - q2) ∧ forK (rg 0 (n - q2)) (fun (k_ : Int) (k : (List Int) → Prop) (firsts2 : (List Int)) => takeOk ((firsts2.length : Int) + 1) ∧ takeT ((firsts2.length : Int) + 1) (fun (r4 : Int) => takeOk m ∧ takeT m (fun (r5 : Int) => (firsts2.length < szl ∧ 0 ≤ r4 ∧ r4 < 2 ^ 63) ∧ k (ins firsts2 r4 (1 + r5))))) (fun (firsts2 : (List Int)) => Q (m, q2, firsts2)) firsts))))))))

theorem tr__law_depot {drivers : Int} {period : Int}  {Qt : (Int × Int × (List Int)) → Prop} {Xt : Exn → Prop} {P : D → Prop} {P2 : Exn → Prop}  (h : t__law_depot drivers period Qt Xt) (hq : ∀ r, Qt r → P ((eR3 D.int D.int (eL D.int)) r)) (hx : ∀ e, Xt e → P2 e) : w__law_depot [D.pool, (D.int drivers), (D.int period)] P P2 := by
  unfold t__law_depot at h
  unfold w__law_depot wpB
  show b__law_depot _ [some (.d D.pool), some (.d (D.int drivers)), some (.d (D.int period)), none, none, none, none, none]
  unfold b__law_depot
  with_reducible refine w_seq (w_as3 (e_op (e_c (e_call (a_cons (e_v0 (a_cons (e_v2 (a_nil ?_)))))))))
  obtain ⟨s1, h⟩ := h
  refine tr_take s1 h ?_; clear h; intro r1 h
  with_reducible refine o_add ?_
  refine gen_d3 D.int h ?_; clear h; intro m h
  with_reducible refine w_seq (w_as4 (e_op (e_c (e_call (a_cons (e_v0 (a_cons (e_v1 (a_nil ?_)))))))))
  obtain ⟨s2, h⟩ := h
  refine tr_take s2 h ?_; clear h; intro r2 h
  with_reducible refine o_add ?_
  refine gen_d4 D.int h ?_; clear h; intro n h
  with_reducible refine w_seq (w_as5 (e_op (e_c (e_call (a_cons (e_v0 (a_cons (e_v4 (a_nil ?_)))))))))
  obtain ⟨s3, h⟩ := h
  refine tr_take s3 h ?_; clear h; intro r3 h
  with_reducible refine o_add ?_
  refine gen_d5 D.int h ?_; clear h; intro q h
  with_reducible refine w_seqJ (fun (k : Int → Prop) N => ∀ (q2 : Int), k q2 → N [some (.d D.pool), some (.d (D.int drivers)), some (.d (D.int period)), some (.d (D.int m)), some (.d (D.int n)), some (.d (D.int q2)), none, none]) h ?_ ?_ <;> clear h
  · intro q2 h
    try dsimp only at h
    with_reducible refine w_seq (w_ao6 ?_)
    obtain ⟨s4, h⟩ := h
    with_reducible refine e_op (e_lstK (a_cons (e_c (a_nil (y_mk1 (f := D.int) (a0 := 1) (e_v5 (y_rep (f := D.int) (x := 1) s4 (k_ao ?_))))))))
    refine gen_o6 D.int h ?_; clear h; intro firsts h
    with_reducible refine w_seq (w_for ?_)
    obtain ⟨s5, h⟩ := h
    with_reducible refine y_rg1 (fun _ hQ => e_op (e_v4 (e_v5 (o_sub hQ)))) s5 ?_
    refine w_forK D.int (fun (k : (List Int) → Prop) N => ∀ (firsts2 : (List Int)) (o1 : Option S), k firsts2 → N [some (.d D.pool), some (.d (D.int drivers)), some (.d (D.int period)), some (.d (D.int m)), some (.d (D.int n)), some (.d (D.int q2)), some (.own none (List.map D.int firsts2)), o1]) ?_ ?_ firsts _ h <;> clear h
    · intro firsts2 o1 h
      try dsimp only at h
      with_reducible refine w_fz6 (w_ret (e_lstK (a_cons (e_v3 (a_cons (e_v5 (a_cons (e_v6 (a_nil (k_lst ln3 ?_))))))))))
      exact hq (m, q2, firsts2) h
    · intro k_ k N hn firsts2 o1 h
      try dsimp only at h
      with_reducible refine g_n7 (w_in6 (e_call (a_cons (e_v0 (a_cons (e_op (e_cb (a_cons (e_vo6 (a_nil (y_lenL  (e_c (o_add (a_nil ?_))))))))))))))
      obtain ⟨s6, h⟩ := h
      refine tr_take s6 h ?_; clear h; intro r4 h
      with_reducible refine e_op (e_c (e_call (a_cons (e_v0 (a_cons (e_v3 (a_nil ?_)))))))
      obtain ⟨s7, h⟩ := h
      refine tr_take s7 h ?_; clear h; intro r5 h
      with_reducible refine o_add ?_
      obtain ⟨s8, h⟩ := h
      with_reducible refine y_ins (f := D.int) (xs := firsts2) (y := (1 + r5)) s8 ?_
      exact hn (ins firsts2 r4 (1 + r5)) _ h
  · intro k N hn h
    try dsimp only at h
    with_reducible refine w_if (t_tst (e_op (e_call (a_cons (e_v0 (a_cons (e_c (a_nil ?_))))))))
    have s9 : takeOk 3 := ⟨by decide, by decide⟩
    refine tr_take s9 h ?_; clear h; intro r6 h
    with_reducible refine e_c (o_gt ?_)
    refine w_ifB (p := 0 < r6) dec_iff (fun c => ?_) (fun c => ?_)
    · replace h := h.1 c
      with_reducible refine w_as5 (e_op (e_c (e_call (a_cons (e_v0 (a_cons (e_cb (a_cons (e_v4 (a_cons (e_c (a_nil (y_min (a_nil ?_))))))))))))))
      obtain ⟨s10, h⟩ := h
      refine tr_take s10 h ?_; clear h; intro r7 h
      with_reducible refine o_add ?_
      refine gen_d5 D.int h ?_; clear h; intro q3 h
      exact hn q3 h
    · replace h := h.2 c
      with_reducible refine w_next ?_
      exact hn q h

def g__law_here (nexts : (List Int)) (morning : Int) : (List Int) :=
  ((rg 0 (nexts.length : Int)).filter fun (i : Int) => decide ((gi nexts i) = morning))

def sd__law_here (nexts : (List Int)) (morning : Int) : Prop :=
  (b62 (nexts.length : Int)) ∧ (((rg 0 (nexts.length : Int)).length ≤ szl)) ∧ ((∀ i ∈ (rg 0 (nexts.length : Int)), ixOk nexts i))

theorem pf__law_here {nexts : (List Int)} {morning : Int} {d_nexts : D} {Q : D → Prop} {Q2 : Exn → Prop} (hd_nexts : itemsD d_nexts = some (List.map D.int nexts)) (hs : sd__law_here nexts morning) (h : Q ((eL D.int) (g__law_here nexts morning))) : w__law_here [d_nexts, (D.int morning)] Q Q2 := by
  unfold g__law_here at h
  unfold sd__law_here at hs
  obtain ⟨hs0, hs1, hs2⟩ := hs
  unfold w__law_here wpB
  show b__law_here _ [some (.d d_nexts), some (.d (D.int morning)), none]
  unfold b__law_here
  with_reducible refine w_ret ?_
  have s1 := hs0
  have s2 := hs1
  have s4 := hs2
  with_reducible refine w_lc_2 (y_rg1 (fun _ hQ => e_cb (a_cons (e_v0 (a_nil (y_lenS hd_nexts hQ))))) s1 (y_lcF (f := D.int) (fun (i : Int) => (gi nexts i) = morning) s2 (fun i hx_ A Q hq1_ hq2_ => g_n2 ((tt_cmp (p := (gi nexts i) = morning) (fun _ hQ => e_op (e_op (e_v0 (e_v2 (y_ixS hd_nexts (s4 i hx_) (e_v1 (o_eq hQ)))))))) _ fun b hb => w_ifB hb (fun hp => (e_v2 (hq1_ hp))) hq2_)) ?_))
  exact h

def t__law_choose (here : (List Int)) (many : Int) (Q : (List Int) → Prop) (X : Exn → Prop) : Prop :=
  b62 many ∧ forK (rg 0 many) (fun (k_ : Int) (k : (List Int) → (List Int) → Prop) (rest : (List Int)) (got : (List Int)) => takeOk (rest.length : Int) ∧ takeT (rest.length : Int) (fun (r1 : Int) => (ixOk rest r1 ∧ rest.length < 2 ^ 62) ∧ (got.length < szl) ∧ k (era rest r1) (got ++ [gi rest r1]))) (fun (rest : (List Int)) (got : (List Int)) => Q (srt got)) here ([] : List Int)

theorem tr__law_choose {here : (List Int)} {many : Int} {d_here : D} {Qt : (List Int) → Prop} {Xt : Exn → Prop} {P : D → Prop} {P2 : Exn → Prop} (hd_here : itemsD d_here = some (List.map D.int here)) (h : t__law_choose here many Qt Xt) (hq : ∀ r, Qt r → P ((eL D.int) r)) (hx : ∀ e, Xt e → P2 e) : w__law_choose [D.pool, d_here, (D.int many)] P P2 := by
  unfold t__law_choose at h
  unfold w__law_choose wpB
  show b__law_choose _ [some (.d D.pool), some (.d d_here), some (.d (D.int many)), none, none, none]
  unfold b__law_choose
  with_reducible refine w_seq (w_ao3 (e_cb (a_cons (e_v1 (a_nil (y_list (f := D.int) (xs := here) hd_here (k_ao (w_seq (w_ao4 (e_lstK (a_nil (y_mk0 (f := D.int)  (k_ao (w_seq (w_for ?_)))))))))))))))
  obtain ⟨s1, h⟩ := h
  with_reducible refine y_rg1 (fun _ hQ => e_v2 hQ) s1 ?_
  refine w_forK D.int (fun (k : (List Int) → (List Int) → Prop) N => ∀ (rest : (List Int)) (got : (List Int)) (o1 : Option S), k rest got → N [some (.d D.pool), some (.d d_here), some (.d (D.int many)), some (.own none (List.map D.int rest)), some (.own none (List.map D.int got)), o1]) ?_ ?_ here ([] : List Int) _ h <;> clear h
  · intro rest got o1 h
    try dsimp only at h
    with_reducible refine w_ret (e_cb (a_cons (e_vo4 (a_nil (y_srt ?_)))))
    exact hq (srt got) h
  · intro k_ k N hn rest got o1 h
    try dsimp only at h
    with_reducible refine g_n5 (w_amp4_3 (e_call (a_cons (e_v0 (a_cons (e_cb (a_cons (e_vo3 (a_nil (y_lenL  (a_nil ?_)))))))))))
    obtain ⟨s2, h⟩ := h
    refine tr_take s2 h ?_; clear h; intro r1 h
    obtain ⟨s3, h⟩ := h
    obtain ⟨s4, h⟩ := h
    with_reducible refine y_pop (f := D.int) s3 (y_app (f := D.int) (xs := got) (y := gi rest r1) s4 ?_)
    exact hn (era rest r1) (got ++ [gi rest r1]) _ h

def t__law_great (most : Int) (Q : Int → Prop) (X : Exn → Prop) : Prop :=
  takeT 4 (fun (way : Int) => ifP (way < 2) (takeT 40 (fun (r1 : Int) => Q (mn most r1))) (ifP (way = 2) (takeT 4000 (fun (r2 : Int) => Q (mn most r2))) ((∀ z : Int, 0 ≤ z → ifP (most < z) (takeOk (most + 1) ∧ takeT (most + 1) (fun (r3 : Int) => Q r3)) (forK (rg 0 4) (fun (k_ : Int) (k : Int → Prop) (got : Int) => takeT 100000000 (fun (r4 : Int) => bnd ((got * 100000000) + r4) (fun (got2 : Int) => k got2))) (fun (got : Int) => 0 < (most + 1) ∧ Q (got % (most + 1))) 0)))))

theorem tr__law_great {most : Int}  {Qt : Int → Prop} {Xt : Exn → Prop} {P : D → Prop} {P2 : Exn → Prop}  (h : t__law_great most Qt Xt) (hq : ∀ r, Qt r → P (D.int r)) (hx : ∀ e, Xt e → P2 e) : w__law_great [D.pool, (D.int most)] P P2 := by
  unfold t__law_great at h
  unfold w__law_great wpB
  show b__law_great _ [some (.d D.pool), some (.d (D.int most)), none, none, none]
  unfold b__law_great
  with_reducible refine w_seq (w_as2 (e_call (a_cons (e_v0 (a_cons (e_c (a_nil ?_)))))))
  have s1 : takeOk 4 := ⟨by decide, by decide⟩
  refine tr_take s1 h ?_; clear h; intro way h
  with_reducible refine w_seq ?_
  with_reducible refine w_ifT (p := way < 2) (tt_cmp (p := way < 2) (fun _ hQ => e_op (e_v2 (e_c (o_lt hQ))))) (fun c => ?_) (fun c => ?_)
  · replace h := h.1 c
    with_reducible refine w_ret (e_cb (a_cons (e_v1 (a_cons (e_call (a_cons (e_v0 (a_cons (e_c (a_nil ?_))))))))))
    have s2 : takeOk 40 := ⟨by decide, by decide⟩
    refine tr_take s2 h ?_; clear h; intro r1 h
    with_reducible refine a_nil (y_min ?_)
    exact hq (mn most r1) h
  · replace h := h.2 c
    with_reducible refine w_next (w_seq ?_)
    with_reducible refine w_ifT (p := way = 2) (tt_cmp (p := way = 2) (fun _ hQ => e_op (e_v2 (e_c (o_eq hQ))))) (fun c => ?_) (fun c => ?_)
    · replace h := h.1 c
      with_reducible refine w_ret (e_cb (a_cons (e_v1 (a_cons (e_call (a_cons (e_v0 (a_cons (e_c (a_nil ?_))))))))))
      have s3 : takeOk 4000 := ⟨by decide, by decide⟩
      refine tr_take s3 h ?_; clear h; intro r2 h
      with_reducible refine a_nil (y_min ?_)
      exact hq (mn most r2) h
    · replace h := h.2 c
      with_reducible refine w_next (w_seq (w_if (t_tst (e_op (e_op (e_v0 (e_c ?_)))))))
      refine o_ixPool (fun z hz => ?_)
      replace h := h z hz
      with_reducible refine e_v1 (o_gt ?_)
      refine w_ifB (p := most < z) dec_iff (fun c => ?_) (fun c => ?_)
      · replace h := h.1 c
        with_reducible refine w_ret (e_call (a_cons (e_v0 (a_cons (e_op (e_v1 (e_c (o_add (a_nil ?_)))))))))
        obtain ⟨s4, h⟩ := h
        refine tr_take s4 h ?_; clear h; intro r3 h
        exact hq r3 h
      · replace h := h.2 c
        with_reducible refine w_next (w_seq (w_as3 (e_c (w_seq (w_for ?_)))))
        have s5 : b62 4 := ⟨by decide, by decide⟩
        with_reducible refine y_rg1 (fun _ hQ => e_c hQ) s5 ?_
        refine w_forK D.int (fun (k : Int → Prop) N => ∀ (got : Int) (o1 : Option S), k got → N [some (.d D.pool), some (.d (D.int most)), some (.d (D.int way)), some (.d (D.int got)), o1]) ?_ ?_ 0 _ h <;> clear h
        · intro got o1 h
          try dsimp only at h
          with_reducible refine w_ret ?_
          obtain ⟨s6, h⟩ := h
          with_reducible refine e_op (e_cb (a_cons (e_v3 (a_nil (o_int (e_op (e_v1 (e_c (o_add (y_mod s6 ?_))))))))))
          exact hq (got % (most + 1)) h
        · intro k_ k N hn got o1 h
          try dsimp only at h
          with_reducible refine g_n4 (w_as3 (e_op ?_))
          have s8 : mulT got 100000000 := Or.inr ⟨by decide, by decide⟩
          with_reducible refine e_op (e_v3 (e_op (e_c (e_c (o_pow8 (y_mul s8 (e_call (a_cons (e_v0 (a_cons (e_op (e_c (e_c (o_pow8 (a_nil ?_)))))))))))))))
          have s9 : takeOk 100000000 := ⟨by decide, by decide⟩
          refine tr_take s9 h ?_; clear h; intro r4 h
          with_reducible refine o_add ?_
          refine gen_d3 D.int h ?_; clear h; intro got2 h
          exact hn got2 _ h

def t__law_span (great : Int) (Q : Int → Prop) (X : Exn → Prop) : Prop :=
  takeT 8 (fun (way : Int) => ifP ((way = 0 ∧ 0 < great)) (t__law_great great (fun (r1 : Int) => Q (1 + r1)) X) (ifP (way = 1) (takeT 20 (fun (r2 : Int) => Q (1 + r2))) (Q 1)))

theorem tr__law_span {great : Int}  {Qt : Int → Prop} {Xt : Exn → Prop} {P : D → Prop} {P2 : Exn → Prop}  (h : t__law_span great Qt Xt) (hq : ∀ r, Qt r → P (D.int r)) (hx : ∀ e, Xt e → P2 e) : w__law_span [D.pool, (D.int great)] P P2 := by
  unfold t__law_span at h
  unfold w__law_span wpB
  show b__law_span _ [some (.d D.pool), some (.d (D.int great)), none]
  unfold b__law_span
  with_reducible refine w_seq (w_as2 (e_call (a_cons (e_v0 (a_cons (e_c (a_nil ?_)))))))
  have s1 : takeOk 8 := ⟨by decide, by decide⟩
  refine tr_take s1 h ?_; clear h; intro way h
  with_reducible refine w_seq ?_
  with_reducible refine w_ifT (p := (way = 0 ∧ 0 < great)) (tt_and (p := way = 0) (q := 0 < great) (tt_cmp (p := way = 0) (fun _ hQ => e_op (e_v2 (e_c (o_eq hQ))))) (fun hp => (tt_cmp (p := 0 < great) (fun _ hQ => e_op (e_v1 (e_c (o_gt hQ))))))) (fun c => ?_) (fun c => ?_)
  · replace h := h.1 c
    with_reducible refine w_ret (e_op (e_c (e_call (a_cons (e_v0 (a_cons (e_v1 (a_nil ?_))))))))
    refine tr__law_great (most := great)  h ?_ hx; clear h; intro r1 h
    with_reducible refine o_add ?_
    exact hq (1 + r1) h
  · replace h := h.2 c
    with_reducible refine w_next (w_seq ?_)
    with_reducible refine w_ifT (p := way = 1) (tt_cmp (p := way = 1) (fun _ hQ => e_op (e_v2 (e_c (o_eq hQ))))) (fun c => ?_) (fun c => ?_)
    · replace h := h.1 c
      with_reducible refine w_ret (e_op (e_c (e_call (a_cons (e_v0 (a_cons (e_c (a_nil ?_))))))))
      have s2 : takeOk 20 := ⟨by decide, by decide⟩
      refine tr_take s2 h ?_; clear h; intro r2 h
      with_reducible refine o_add ?_
      exact hq (1 + r2) h
    · replace h := h.2 c
      with_reducible refine w_next (w_ret (e_c ?_))
      exact hq 1 h

def t__law_gone (nexts : (List Int)) (crew : (List Int)) (span : Int) (start : Int) (m : Int) (Q : (List Int) → Prop) (X : Exn → Prop) : Prop :=
  b62 (nexts.length : Int) ∧ forK (rg 0 (nexts.length : Int)) (fun (i : Int) (k : (List Int) → Prop) (row : (List Int)) => ixOk nexts i ∧ bnd (gi nexts i) (fun (u : Int) => jn (fun (k : Int → Prop) => ifP (i ∈ crew) (bnd (start + span) (fun (u3 : Int) => k u3)) (ifP (u < (start + span)) (divT m ∧ mulT m (((((start + span) - u) + m) - 1) / m) ∧ bnd (u + (m * (((((start + span) - u) + m) - 1) / m))) (fun (u4 : Int) => k u4)) (k u))) (fun (u2 : Int) => (row.length < szl) ∧ k (row ++ [u2])))) (fun (row : (List Int)) => Q row) ([] : List Int)

theorem tr__law_gone {nexts : (List Int)} {crew : (List Int)} {span : Int} {start : Int} {m : Int} {d_nexts : D} {d_crew : D} {Qt : (List Int) → Prop} {Xt : Exn → Prop} {P : D → Prop} {P2 : Exn → Prop} (hd_nexts : itemsD d_nexts = some (List.map D.int nexts)) (hd_crew : itemsD d_crew = some (List.map D.int crew)) (h : t__law_gone nexts crew span start m Qt Xt) (hq : ∀ r, Qt r → P ((eL D.int) r)) (hx : ∀ e, Xt e → P2 e) : w__law_gone [d_nexts, d_crew, (D.int span), (D.int start), (D.int m)] P P2 := by
  unfold t__law_gone at h
  unfold w__law_gone wpB
  show b__law_gone _ [some (.d d_nexts), some (.d d_crew), some (.d (D.int span)), some (.d (D.int start)), some (.d (D.int m)), none, none, none]
  unfold b__law_gone
  with_reducible refine w_seq (w_ao5 (e_lstK (a_nil (y_mk0 (f := D.int)  (k_ao (w_seq (w_for ?_)))))))
  obtain ⟨s1, h⟩ := h
  with_reducible refine y_rg1 (fun _ hQ => e_cb (a_cons (e_v0 (a_nil (y_lenS hd_nexts hQ))))) s1 ?_
  refine w_forK D.int (fun (k : (List Int) → Prop) N => ∀ (row : (List Int)) (o1 o2 : Option S), k row → N [some (.d d_nexts), some (.d d_crew), some (.d (D.int span)), some (.d (D.int start)), some (.d (D.int m)), some (.own none (List.map D.int row)), o1, o2]) ?_ ?_ ([] : List Int) _ _ h <;> clear h
  · intro row o1 o2 h
    try dsimp only at h
    with_reducible refine w_fz5 (w_ret (e_v5 ?_))
    exact hq row h
  · intro i k N hn row o1 o2 h
    try dsimp only at h
    with_reducible refine g_n6 (w_seq (w_as7 ?_))
    obtain ⟨s2, h⟩ := h
    with_reducible refine e_op (e_v0 (e_v6 (y_ixS hd_nexts s2 ?_)))
    refine gen_d7 D.int h ?_; clear h; intro u h
    with_reducible refine w_seqJ (fun (k : Int → Prop) N => ∀ (u2 : Int), k u2 → N [some (.d d_nexts), some (.d d_crew), some (.d (D.int span)), some (.d (D.int start)), some (.d (D.int m)), some (.own none (List.map D.int row)), some (.d (D.int i)), some (.d (D.int u2))]) h ?_ ?_ <;> clear h
    · intro u2 h
      try dsimp only at h
      with_reducible refine w_ap5 (e_v7 ?_)
      obtain ⟨s3, h⟩ := h
      with_reducible refine y_app (f := D.int) (xs := row) (y := u2) s3 ?_
      exact hn (row ++ [u2]) _ _ h
    · intro k N hn h
      try dsimp only at h
      with_reducible refine w_ifT (p := i ∈ crew) (tt_cmp (p := i ∈ crew) (fun _ hQ => e_op (e_v6 (e_v1 (y_inS hd_crew hQ))))) (fun c => ?_) (fun c => ?_)
      · replace h := h.1 c
        with_reducible refine w_as7 (e_op (e_v3 (e_v2 (o_add ?_))))
        refine gen_d7 D.int h ?_; clear h; intro u3 h
        exact hn u3 h
      · replace h := h.2 c
        with_reducible refine w_ifT (p := u < (start + span)) (tt_cmp (p := u < (start + span)) (fun _ hQ => e_op (e_v7 (e_op (e_v3 (e_v2 (o_add (o_lt hQ)))))))) (fun c => ?_) (fun c => ?_)
        · replace h := h.1 c
          with_reducible refine w_as7 ?_
          obtain ⟨s4, h⟩ := h
          obtain ⟨s5, h⟩ := h
          with_reducible refine e_op (e_v7 (e_op (e_v4 (e_op (e_op (e_op (e_op (e_op (e_v3 (e_v2 (o_add (e_v7 (o_sub (e_v4 (o_add (e_c (o_sub (e_v4 (y_div s4 (y_mul s5 (o_add ?_)))))))))))))))))))))
          refine gen_d7 D.int h ?_; clear h; intro u4 h
          exact hn u4 h
        · replace h := h.2 c
          with_reducible refine w_next ?_
          exact hn u h

def t__law_book (plan : (Int × Int × (List Int))) (many : Int) (great : Int) (Q : ((List (Int × (List Int))) × (List Int) × (List Int) × Int) → Prop) (X : Exn → Prop) : Prop :=
  (-(2 ^ 63) ≤ (plan.2.2.length : Int) ∧ (plan.2.2.length : Int) ≤ 16777216) ∧ bnd (List.replicate (plan.2.2.length : Int).toNat 0) (fun (counts : (List Int)) => b62 many ∧ forK (rg 0 many) (fun (k_ : Int) (k : (List Int) → (List Int) → (List (Int × (List Int))) → Int → Prop) (nexts : (List Int)) (counts2 : (List Int)) (rows : (List (Int × (List Int)))) (start : Int) => sd__law_here nexts start ∧ t__law_choose (g__law_here nexts start) plan.2.1 (fun (crew : (List Int)) => t__law_span great (fun (span : Int) => (rows.length < szl) ∧ forK crew (fun (i : Int) (k : (List Int) → Prop) (counts3 : (List Int)) => ixOk counts3 i ∧ ixOk counts3 i ∧ k (st counts3 i ((gi counts3 i) + span))) (fun (counts3 : (List Int)) => t__law_gone nexts crew span start plan.1 (fun (nexts2 : (List Int)) => bnd (start + span) (fun (start2 : Int) => k nexts2 counts3 (rows ++ [(span, crew)]) start2)) X) counts2) X) X) (fun (nexts : (List Int)) (counts2 : (List Int)) (rows : (List (Int × (List Int)))) (start : Int) => Q (rows, counts2, nexts, (start - 1))) plan.2.2 counts ([] : List (Int × (List Int))) 1)

theorem tr__law_book {plan : (Int × Int × (List Int))} {many : Int} {great : Int}  {Qt : ((List (Int × (List Int))) × (List Int) × (List Int) × Int) → Prop} {Xt : Exn → Prop} {P : D → Prop} {P2 : Exn → Prop}  (h : t__law_book plan many great Qt Xt) (hq : ∀ r, Qt r → P ((eR4 (eL (eP2 D.int (eT D.int))) (eL D.int) (eL D.int) D.int) r)) (hx : ∀ e, Xt e → P2 e) : w__law_book [D.pool, ((eR3 D.int D.int (eL D.int)) plan), (D.int many), (D.int great)] P P2 := by
  unfold t__law_book at h
  unfold w__law_book wpB
  show b__law_book _ [some (.d D.pool), some (.d ((eR3 D.int D.int (eL D.int)) plan)), some (.d (D.int many)), some (.d (D.int great)), none, none, none, none, none, none, none, none]
  unfold b__law_book
  with_reducible refine w_seq (w_as4 (e_cb (a_cons (e_op (e_v1 (e_c (y_l2 (a_nil (y_list (f := D.int) (xs := plan.2.2) hdL (w_seq (w_ao5 ?_)))))))))))
  obtain ⟨s1, h⟩ := h
  with_reducible refine e_op (e_lstK (a_cons (e_c (a_nil (y_mk1 (f := D.int) (a0 := 0) (e_cb (a_cons (e_v4 (a_nil (y_lenL  (y_rep (f := D.int) (x := 0) s1 (k_ao ?_))))))))))))
  refine gen_o5 D.int h ?_; clear h; intro counts h
  with_reducible refine w_seq (w_ao6 (e_lstK (a_nil (y_mk0 (f := (eP2 D.int (eT D.int)))  (k_ao (w_seq (w_as7 (e_c (w_seq (w_for ?_))))))))))
  obtain ⟨s2, h⟩ := h
  with_reducible refine y_rg1 (fun _ hQ => e_v2 hQ) s2 ?_
  refine w_forK D.int (fun (k : (List Int) → (List Int) → (List (Int × (List Int))) → Int → Prop) N => ∀ (nexts : (List Int)) (counts2 : (List Int)) (rows : (List (Int × (List Int)))) (start : Int) (o1 o2 o3 o4 : Option S), k nexts counts2 rows start → N [some (.d D.pool), some (.d ((eR3 D.int D.int (eL D.int)) plan)), some (.d (D.int many)), some (.d (D.int great)), some (.d (D.lst (List.map D.int nexts))), some (.own none (List.map D.int counts2)), some (.own none (List.map (eP2 D.int (eT D.int)) rows)), some (.d (D.int start)), o1, o2, o3, o4]) ?_ ?_ plan.2.2 counts ([] : List (Int × (List Int))) 1 _ _ _ _ h <;> clear h
  · intro nexts counts2 rows start o1 o2 o3 o4 h
    try dsimp only at h
    with_reducible refine w_fz6 (w_fz5 (w_ret (e_lstK (a_cons (e_v6 (a_cons (e_v5 (a_cons (e_v4 (a_cons (e_op (e_v7 (e_c (o_sub (a_nil (k_lst ln4 ?_))))))))))))))))
    exact hq (rows, counts2, nexts, (start - 1)) h
  · intro k_ k N hn nexts counts2 rows start o1 o2 o3 o4 h
    try dsimp only at h
    with_reducible refine g_n8 (w_seq (w_as9 (e_call (a_cons (e_v0 (a_cons ?_))))))
    obtain ⟨s4, h⟩ := h
    with_reducible refine e_call (a_cons (e_v4 (a_cons (e_v7 (a_nil (pf__law_here (nexts := nexts) (morning := start) hdL s4 (a_cons (e_op (e_v1 (e_c (y_l1 (a_nil ?_))))))))))))
    refine tr__law_choose (here := (g__law_here nexts start)) (many := plan.2.1) hdL h ?_ hx; clear h; intro crew h
    with_reducible refine w_seq (w_as10 (e_call (a_cons (e_v0 (a_cons (e_v3 (a_nil ?_)))))))
    refine tr__law_span (great := great)  h ?_ hx; clear h; intro span h
    with_reducible refine w_seq (w_ap6 (e_tup (a_cons (e_v10 (a_cons (e_cb (a_cons (e_v9 (a_nil (y_tuple (f := D.int) (xs := crew) hdL (a_nil (And.intro ln2 ?_))))))))))))
    obtain ⟨s5, h⟩ := h
    with_reducible refine y_app (f := (eP2 D.int (eT D.int))) (xs := rows) (y := (span, crew)) s5 (w_seq (w_for (y_it (fun _ hQ => e_v9 hQ) (f := D.int) (xs := crew) hdL ?_)))
    refine w_forK D.int (fun (k : (List Int) → Prop) N => ∀ (counts3 : (List Int)) (o5 : Option S), k counts3 → N [some (.d D.pool), some (.d ((eR3 D.int D.int (eL D.int)) plan)), some (.d (D.int many)), some (.d (D.int great)), some (.d (D.lst (List.map D.int nexts))), some (.own none (List.map D.int counts3)), some (.own none (List.map (eP2 D.int (eT D.int)) (rows ++ [(span, crew)]))), some (.d (D.int start)), some (.d (D.int k_)), some (.d (D.lst (List.map D.int crew))), some (.d (D.int span)), o5]) ?_ ?_ counts2 _ h <;> clear h
    · intro counts3 o5 h
      try dsimp only at h
      with_reducible refine w_seq (w_as4 (e_call (a_cons (e_v4 (a_cons (e_v9 (a_cons (e_v10 (a_cons (e_v7 (a_cons (e_op (e_v1 (e_c (y_l0 (a_nil ?_))))))))))))))))
      refine tr__law_gone (nexts := nexts) (crew := crew) (span := span) (start := start) (m := plan.1) hdL hdL h ?_ hx; clear h; intro nexts2 h
      with_reducible refine w_as7 (e_op (e_v7 (e_v10 (o_add ?_))))
      refine gen_d7 D.int h ?_; clear h; intro start2 h
      exact hn nexts2 counts3 (rows ++ [(span, crew)]) start2 _ _ _ _ h
    · intro i k N hn counts3 o5 h
      try dsimp only at h
      with_reducible refine g_n11 (w_si5 ?_)
      obtain ⟨s6, h⟩ := h
      with_reducible refine e_op (e_op (e_vo5 (e_v11 (y_ixL s6 (e_v10 (o_add (e_v11 ?_)))))))
      obtain ⟨s7, h⟩ := h
      with_reducible refine y_set (f := D.int) (xs := counts3) (y := ((gi counts3 i) + span)) s7 ?_
      exact hn (st counts3 i ((gi counts3 i) + span)) _ h

def t__law_changed (plan : (Int × Int × (List Int))) (rows : (List (Int × (List Int)))) (Q : (List (Int × (List Int))) → Prop) (X : Exn → Prop) : Prop :=
  ifP (rows = ([] : List (Int × (List Int)))) (takeT 12 (fun (r1 : Int) => Q [(1, [r1])])) (takeOk (rows.length : Int) ∧ takeT (rows.length : Int) (fun (k_ : Int) => ixOk rows k_ ∧ bnd ((gi rows k_).2) (fun (crew : (List Int)) => takeT 6 (fun (way : Int) => jn (fun (k : (List Int) → Prop) => ifP (way = 0) (takeOk (crew.length : Int) ∧ takeT (crew.length : Int) (fun (r7 : Int) => (ixOk crew r7 ∧ crew.length < 2 ^ 62) ∧ k (era crew r7))) (k crew)) (fun (crew2 : (List Int)) => jn (fun (k : (List Int) → Prop) => ifP (way = 1) (takeT 12 (fun (r6 : Int) => (crew2.length < szl) ∧ k (crew2 ++ [r6]))) (k crew2)) (fun (crew3 : (List Int)) => jn (fun (k : (List Int) → Prop) => ifP ((way = 2 ∨ way = 3)) (takeOk (plan.2.2.length : Int) ∧ takeT (plan.2.2.length : Int) (fun (r4 : Int) => takeOk (crew3.length : Int) ∧ takeT (crew3.length : Int) (fun (r5 : Int) => ixOk crew3 r5 ∧ k (st crew3 r5 r4)))) (k crew3)) (fun (crew4 : (List Int)) => jn (fun (k : (List Int) → Prop) => ifP (way = 4) (takeT 12 (fun (r2 : Int) => takeOk (crew4.length : Int) ∧ takeT (crew4.length : Int) (fun (r3 : Int) => ixOk crew4 r3 ∧ k (st crew4 r3 r2)))) (k crew4)) (fun (crew5 : (List Int)) => jn (fun (k : (List (Int × (List Int))) → (List Int) → Prop) => ifP (way = 5) (takeOk (rows.length : Int) ∧ takeT (rows.length : Int) (fun (at_ : Int) => ixOk rows at_ ∧ bnd ((gi rows at_).2) (fun (crew7 : (List Int)) => ixOk rows at_ ∧ ixOk rows k_ ∧ ixOk rows at_ ∧ k (st rows at_ (((gi rows at_).1), ((gi rows k_).2))) crew7))) (k rows crew5)) (fun (got : (List (Int × (List Int)))) (crew6 : (List Int)) => ixOk got k_ ∧ (crew6.length < 64) ∧ ixOk got k_ ∧ Q (st got k_ (((gi got k_).1), (ssrt crew6))))))))))))

theorem tr__law_changed {plan : (Int × Int × (List Int))} {rows : (List (Int × (List Int)))} {d_rows : D} {Qt : (List (Int × (List Int))) → Prop} {Xt : Exn → Prop} {P : D → Prop} {P2 : Exn → Prop} (hd_rows : itemsD d_rows = some (List.map (eP2 D.int (eT D.int)) rows)) (h : t__law_changed plan rows Qt Xt) (hq : ∀ r, Qt r → P ((eL (eP2 D.int (eT D.int))) r)) (hx : ∀ e, Xt e → P2 e) : w__law_changed [D.pool, ((eR3 D.int D.int (eL D.int)) plan), d_rows] P P2 := by
  unfold t__law_changed at h
  unfold w__law_changed wpB
  show b__law_changed _ [some (.d D.pool), some (.d ((eR3 D.int D.int (eL D.int)) plan)), some (.d d_rows), none, none, none, none, none]
  unfold b__law_changed
  with_reducible refine w_seq (w_ao3 (e_cb (a_cons (e_v2 (a_nil (y_list (f := (eP2 D.int (eT D.int))) (xs := rows) hd_rows (k_ao (w_seq ?_))))))))
  with_reducible refine w_ifT (p := rows = ([] : List (Int × (List Int)))) (tt_cmp (p := rows = ([] : List (Int × (List Int)))) (fun _ hQ => e_op (e_vo3 (e_lstK (a_nil (y_mk0 (f := (eP2 D.int (eT D.int)))  (y_eqd (f := (eL (eP2 D.int (eT D.int)))) (a := rows) (b := ([] : List (Int × (List Int)))) y_ok y_ok hQ))))))) (fun c => ?_) (fun c => ?_)
  · replace h := h.1 c
    with_reducible refine w_ret (e_lstK (a_cons (e_tup (a_cons (e_c (a_cons (e_tup (a_cons (e_call (a_cons (e_v0 (a_cons (e_c (a_nil ?_))))))))))))))
    have s1 : takeOk 12 := ⟨by decide, by decide⟩
    refine tr_take s1 h ?_; clear h; intro r1 h
    with_reducible refine a_nil (And.intro ln1 (a_nil (And.intro ln2 (a_nil (y_mk1 (f := (eP2 D.int (eT D.int))) (a0 := (1, [r1])) ?_)))))
    exact hq [(1, [r1])] h
  · replace h := h.2 c
    with_reducible refine w_next (w_seq (w_as4 (e_call (a_cons (e_v0 (a_cons (e_cb (a_cons (e_vo3 (a_nil (y_lenL  (a_nil ?_))))))))))))
    obtain ⟨s2, h⟩ := h
    refine tr_take s2 h ?_; clear h; intro k_ h
    with_reducible refine w_seq (w_ao5 ?_)
    obtain ⟨s3, h⟩ := h
    with_reducible refine e_cb (a_cons (e_op (e_op (e_vo3 (e_v4 (y_ixL s3 (e_c (y_t1 (a_nil (y_list (f := D.int) (xs := ((gi rows k_).2)) hdT (k_ao ?_)))))))))))
    refine gen_o5 D.int h ?_; clear h; intro crew h
    with_reducible refine w_seq (w_as6 (e_call (a_cons (e_v0 (a_cons (e_c (a_nil ?_)))))))
    have s4 : takeOk 6 := ⟨by decide, by decide⟩
    refine tr_take s4 h ?_; clear h; intro way h
    with_reducible refine w_seqJ (fun (k : (List Int) → Prop) N => ∀ (crew2 : (List Int)), k crew2 → N [some (.d D.pool), some (.d ((eR3 D.int D.int (eL D.int)) plan)), some (.d d_rows), some (.own none (List.map (eP2 D.int (eT D.int)) rows)), some (.d (D.int k_)), some (.own none (List.map D.int crew2)), some (.d (D.int way)), none]) h ?_ ?_ <;> clear h
    · intro crew2 h
      try dsimp only at h
      with_reducible refine w_seqJ (fun (k : (List Int) → Prop) N => ∀ (crew3 : (List Int)), k crew3 → N [some (.d D.pool), some (.d ((eR3 D.int D.int (eL D.int)) plan)), some (.d d_rows), some (.own none (List.map (eP2 D.int (eT D.int)) rows)), some (.d (D.int k_)), some (.own none (List.map D.int crew3)), some (.d (D.int way)), none]) h ?_ ?_ <;> clear h
      · intro crew3 h
        try dsimp only at h
        with_reducible refine w_seqJ (fun (k : (List Int) → Prop) N => ∀ (crew4 : (List Int)), k crew4 → N [some (.d D.pool), some (.d ((eR3 D.int D.int (eL D.int)) plan)), some (.d d_rows), some (.own none (List.map (eP2 D.int (eT D.int)) rows)), some (.d (D.int k_)), some (.own none (List.map D.int crew4)), some (.d (D.int way)), none]) h ?_ ?_ <;> clear h
        · intro crew4 h
          try dsimp only at h
          with_reducible refine w_seqJ (fun (k : (List Int) → Prop) N => ∀ (crew5 : (List Int)), k crew5 → N [some (.d D.pool), some (.d ((eR3 D.int D.int (eL D.int)) plan)), some (.d d_rows), some (.own none (List.map (eP2 D.int (eT D.int)) rows)), some (.d (D.int k_)), some (.own none (List.map D.int crew5)), some (.d (D.int way)), none]) h ?_ ?_ <;> clear h
          · intro crew5 h
            try dsimp only at h
            with_reducible refine w_seqJ (fun (k : (List (Int × (List Int))) → (List Int) → Prop) N => ∀ (got : (List (Int × (List Int)))) (crew6 : (List Int)) (o1 : Option S), k got crew6 → N [some (.d D.pool), some (.d ((eR3 D.int D.int (eL D.int)) plan)), some (.d d_rows), some (.own none (List.map (eP2 D.int (eT D.int)) got)), some (.d (D.int k_)), some (.own none (List.map D.int crew6)), some (.d (D.int way)), o1]) h ?_ ?_ <;> clear h
            · intro got crew6 o1 h
              try dsimp only at h
              with_reducible refine w_seq (w_fz5 (w_si3 ?_))
              obtain ⟨s5, h⟩ := h
              obtain ⟨s6, h⟩ := h
              with_reducible refine e_tup (a_cons (e_op (e_op (e_vo3 (e_v4 (y_ixL s5 (e_c (y_t0 (a_cons (e_cb (a_cons (e_cb (a_cons (e_vv5 (a_nil (y_srtS (ns := crew6) hdL s6 (a_nil (y_tuple (f := D.int) (xs := (ssrt crew6)) hdL (a_nil (And.intro ln2 (e_v4 ?_)))))))))))))))))))))
              obtain ⟨s7, h⟩ := h
              with_reducible refine y_set (f := (eP2 D.int (eT D.int))) (xs := got) (y := (((gi got k_).1), (ssrt crew6))) s7 (w_fz3 (w_ret (e_v3 ?_)))
              exact hq (st got k_ (((gi got k_).1), (ssrt crew6))) h
            · intro k N hn h
              try dsimp only at h
              with_reducible refine w_ifT (p := way = 5) (tt_cmp (p := way = 5) (fun _ hQ => e_op (e_v6 (e_c (o_eq hQ))))) (fun c => ?_) (fun c => ?_)
              · replace h := h.1 c
                with_reducible refine w_seq (w_as7 (e_call (a_cons (e_v0 (a_cons (e_cb (a_cons (e_vo3 (a_nil (y_lenL  (a_nil ?_)))))))))))
                obtain ⟨s8, h⟩ := h
                refine tr_take s8 h ?_; clear h; intro at_ h
                with_reducible refine w_seq (w_ao5 ?_)
                obtain ⟨s9, h⟩ := h
                with_reducible refine e_cb (a_cons (e_op (e_op (e_vo3 (e_v7 (y_ixL s9 (e_c (y_t1 (a_nil (y_list (f := D.int) (xs := ((gi rows at_).2)) hdT (k_ao ?_)))))))))))
                refine gen_o5 D.int h ?_; clear h; intro crew7 h
                with_reducible refine w_si3 ?_
                obtain ⟨s10, h⟩ := h
                obtain ⟨s11, h⟩ := h
                with_reducible refine e_tup (a_cons (e_op (e_op (e_vo3 (e_v7 (y_ixL s10 (e_c (y_t0 (a_cons (e_op (e_op (e_vo3 (e_v4 (y_ixL s11 (e_c (y_t1 (a_nil (And.intro ln2 (e_v7 ?_)))))))))))))))))))
                obtain ⟨s12, h⟩ := h
                with_reducible refine y_set (f := (eP2 D.int (eT D.int))) (xs := rows) (y := (((gi rows at_).1), ((gi rows k_).2))) s12 ?_
                exact hn (st rows at_ (((gi rows at_).1), ((gi rows k_).2))) crew7 _ h
              · replace h := h.2 c
                with_reducible refine w_next ?_
                exact hn rows crew5 _ h
          · intro k N hn h
            try dsimp only at h
            with_reducible refine w_ifT (p := way = 4) (tt_cmp (p := way = 4) (fun _ hQ => e_op (e_v6 (e_c (o_eq hQ))))) (fun c => ?_) (fun c => ?_)
            · replace h := h.1 c
              with_reducible refine w_si5 (e_call (a_cons (e_v0 (a_cons (e_c (a_nil ?_))))))
              have s13 : takeOk 12 := ⟨by decide, by decide⟩
              refine tr_take s13 h ?_; clear h; intro r2 h
              with_reducible refine e_call (a_cons (e_v0 (a_cons (e_cb (a_cons (e_vo5 (a_nil (y_lenL  (a_nil ?_)))))))))
              obtain ⟨s14, h⟩ := h
              refine tr_take s14 h ?_; clear h; intro r3 h
              obtain ⟨s15, h⟩ := h
              with_reducible refine y_set (f := D.int) (xs := crew4) (y := r2) s15 ?_
              exact hn (st crew4 r3 r2) h
            · replace h := h.2 c
              with_reducible refine w_next ?_
              exact hn crew4 h
        · intro k N hn h
          try dsimp only at h
          with_reducible refine w_ifT (p := (way = 2 ∨ way = 3)) (tt_or (p := way = 2) (q := way = 3) (tt_cmp (p := way = 2) (fun _ hQ => e_op (e_v6 (e_c (o_eq hQ))))) (fun hp => (tt_cmp (p := way = 3) (fun _ hQ => e_op (e_v6 (e_c (o_eq hQ))))))) (fun c => ?_) (fun c => ?_)
          · replace h := h.1 c
            with_reducible refine w_si5 (e_call (a_cons (e_v0 (a_cons (e_cb (a_cons (e_op (e_v1 (e_c (y_l2 (a_nil (y_lenL  (a_nil ?_)))))))))))))
            obtain ⟨s16, h⟩ := h
            refine tr_take s16 h ?_; clear h; intro r4 h
            with_reducible refine e_call (a_cons (e_v0 (a_cons (e_cb (a_cons (e_vo5 (a_nil (y_lenL  (a_nil ?_)))))))))
            obtain ⟨s17, h⟩ := h
            refine tr_take s17 h ?_; clear h; intro r5 h
            obtain ⟨s18, h⟩ := h
            with_reducible refine y_set (f := D.int) (xs := crew3) (y := r4) s18 ?_
            exact hn (st crew3 r5 r4) h
          · replace h := h.2 c
            with_reducible refine w_next ?_
            exact hn crew3 h
      · intro k N hn h
        try dsimp only at h
        with_reducible refine w_ifT (p := way = 1) (tt_cmp (p := way = 1) (fun _ hQ => e_op (e_v6 (e_c (o_eq hQ))))) (fun c => ?_) (fun c => ?_)
        · replace h := h.1 c
          with_reducible refine w_ap5 (e_call (a_cons (e_v0 (a_cons (e_c (a_nil ?_))))))
          have s19 : takeOk 12 := ⟨by decide, by decide⟩
          refine tr_take s19 h ?_; clear h; intro r6 h
          obtain ⟨s20, h⟩ := h
          with_reducible refine y_app (f := D.int) (xs := crew2) (y := r6) s20 ?_
          exact hn (crew2 ++ [r6]) h
        · replace h := h.2 c
          with_reducible refine w_next ?_
          exact hn crew2 h
    · intro k N hn h
      try dsimp only at h
      with_reducible refine w_ifT (p := way = 0) (tt_cmp (p := way = 0) (fun _ hQ => e_op (e_v6 (e_c (o_eq hQ))))) (fun c => ?_) (fun c => ?_)
      · replace h := h.1 c
        with_reducible refine w_pa5 (e_call (a_cons (e_v0 (a_cons (e_cb (a_cons (e_vo5 (a_nil (y_lenL  (a_nil ?_))))))))))
        obtain ⟨s21, h⟩ := h
        refine tr_take s21 h ?_; clear h; intro r7 h
        obtain ⟨s22, h⟩ := h
        with_reducible refine y_popS (f := D.int) s22 ?_
        exact hn (era crew r7) h
      · replace h := h.2 c
        with_reducible refine w_next ?_
        exact hn crew h

def t__law_case  (Q : ((Int × Int × (List Int)) × (List (Int × (List Int))) × (List (Int × (List Int))) × (List (Int × (List Int)))) → Prop) (X : Exn → Prop) : Prop :=
  jn (fun (k : (Int × Int × (List Int)) → Prop) => takeT 4 (fun (r3 : Int) => ifP (r3 = 0) (t__law_depot 12 8 (fun (plan2 : (Int × Int × (List Int))) => k plan2) X) (t__law_depot 6 5 (fun (plan3 : (Int × Int × (List Int))) => k plan3) X))) (fun (plan : (Int × Int × (List Int))) => forK (rg 0 2) (fun (k_ : Int) (k : (List (List (Int × (List Int)))) → Prop) (books : (List (List (Int × (List Int))))) => takeT 17 (fun (many : Int) => jn (fun (k : Int → Prop) => ifP (many = 16) (k 60) (k many)) (fun (many2 : Int) => t__law_book plan many2 10000000000000000000000000000 (fun (r2 : ((List (Int × (List Int))) × (List Int) × (List Int) × Int)) => (books.length < szl) ∧ k (books ++ [r2.1])) X))) (fun (books : (List (List (Int × (List Int))))) => ixOk books 0 ∧ ixOk books 1 ∧ ixOk books 0 ∧ t__law_changed plan (gi books 0) (fun (r1 : (List (Int × (List Int)))) => Q (plan, (gi books 0), (gi books 1), r1)) X) ([] : List (List (Int × (List Int)))))

theorem tr__law_case   {Qt : ((Int × Int × (List Int)) × (List (Int × (List Int))) × (List (Int × (List Int))) × (List (Int × (List Int)))) → Prop} {Xt : Exn → Prop} {P : D → Prop} {P2 : Exn → Prop}  (h : t__law_case  Qt Xt) (hq : ∀ r, Qt r → P ((eR4 (eR3 D.int D.int (eL D.int)) (eL (eP2 D.int (eT D.int))) (eL (eP2 D.int (eT D.int))) (eL (eP2 D.int (eT D.int)))) r)) (hx : ∀ e, Xt e → P2 e) : w__law_case [D.pool] P P2 := by
  unfold t__law_case at h
  unfold w__law_case wpB
  show b__law_case _ [some (.d D.pool), none, none, none, none]
  unfold b__law_case
  with_reducible refine w_seqJ (fun (k : (Int × Int × (List Int)) → Prop) N => ∀ (plan : (Int × Int × (List Int))), k plan → N [some (.d D.pool), some (.d ((eR3 D.int D.int (eL D.int)) plan)), none, none, none]) h ?_ ?_ <;> clear h
  · intro plan h
    try dsimp only at h
    with_reducible refine w_seq (w_ao2 (e_lstK (a_nil (y_mk0 (f := (eL (eP2 D.int (eT D.int))))  (k_ao (w_seq (w_for ?_)))))))
    have s1 : b62 2 := ⟨by decide, by decide⟩
    with_reducible refine y_rg1 (fun _ hQ => e_c hQ) s1 ?_
    refine w_forK D.int (fun (k : (List (List (Int × (List Int)))) → Prop) N => ∀ (books : (List (List (Int × (List Int))))) (o1 o2 : Option S), k books → N [some (.d D.pool), some (.d ((eR3 D.int D.int (eL D.int)) plan)), some (.own none (List.map (eL (eP2 D.int (eT D.int))) books)), o1, o2]) ?_ ?_ ([] : List (List (Int × (List Int)))) _ _ h <;> clear h
    · intro books o1 o2 h
      try dsimp only at h
      with_reducible refine w_ret (e_lstK (a_cons (e_v1 (a_cons ?_))))
      obtain ⟨s5, h⟩ := h
      with_reducible refine e_op (e_vo2 (e_c (y_ixL s5 (a_cons ?_))))
      obtain ⟨s6, h⟩ := h
      with_reducible refine e_op (e_vo2 (e_c (y_ixL s6 (a_cons (e_call (a_cons (e_v0 (a_cons (e_v1 (a_cons ?_))))))))))
      obtain ⟨s8, h⟩ := h
      with_reducible refine e_op (e_vo2 (e_c (y_ixL s8 (a_nil ?_))))
      refine tr__law_changed (plan := plan) (rows := (gi books 0)) hdL h ?_ hx; clear h; intro r1 h
      with_reducible refine a_nil (k_lst ln4 ?_)
      exact hq (plan, (gi books 0), (gi books 1), r1) h
    · intro k_ k N hn books o1 o2 h
      try dsimp only at h
      with_reducible refine g_n3 (w_seq (w_as4 (e_call (a_cons (e_v0 (a_cons (e_c (a_nil ?_))))))))
      have s9 : takeOk 17 := ⟨by decide, by decide⟩
      refine tr_take s9 h ?_; clear h; intro many h
      with_reducible refine w_seqJ (fun (k : Int → Prop) N => ∀ (many2 : Int), k many2 → N [some (.d D.pool), some (.d ((eR3 D.int D.int (eL D.int)) plan)), some (.own none (List.map (eL (eP2 D.int (eT D.int))) books)), some (.d (D.int k_)), some (.d (D.int many2))]) h ?_ ?_ <;> clear h
      · intro many2 h
        try dsimp only at h
        with_reducible refine w_ap2 (e_op (e_call (a_cons (e_v0 (a_cons (e_v1 (a_cons (e_v4 (a_cons (e_op (e_c (e_c (y_pow10_28 (a_nil ?_))))))))))))))
        refine tr__law_book (plan := plan) (many := many2) (great := 10000000000000000000000000000)  h ?_ hx; clear h; intro r2 h
        with_reducible refine e_c (y_l0 ?_)
        obtain ⟨s10, h⟩ := h
        with_reducible refine y_app (f := (eL (eP2 D.int (eT D.int)))) (xs := books) (y := r2.1) s10 ?_
        exact hn (books ++ [r2.1]) _ _ h
      · intro k N hn h
        try dsimp only at h
        with_reducible refine w_ifT (p := many = 16) (tt_cmp (p := many = 16) (fun _ hQ => e_op (e_v4 (e_c (o_eq hQ))))) (fun c => ?_) (fun c => ?_)
        · replace h := h.1 c
          with_reducible refine w_as4 (e_c ?_)
          exact hn 60 h
        · replace h := h.2 c
          with_reducible refine w_next ?_
          exact hn many h
  · intro k N hn h
    try dsimp only at h
    with_reducible refine w_if (t_tst (e_op (e_call (a_cons (e_v0 (a_cons (e_c (a_nil ?_))))))))
    have s11 : takeOk 4 := ⟨by decide, by decide⟩
    refine tr_take s11 h ?_; clear h; intro r3 h
    with_reducible refine e_c (o_eq ?_)
    refine w_ifB (p := r3 = 0) dec_iff (fun c => ?_) (fun c => ?_)
    · replace h := h.1 c
      with_reducible refine w_as1 (e_call (a_cons (e_v0 (a_cons (e_c (a_cons (e_c (a_nil ?_))))))))
      refine tr__law_depot (drivers := 12) (period := 8)  h ?_ hx; clear h; intro plan2 h
      exact hn plan2 h
    · replace h := h.2 c
      with_reducible refine w_as1 (e_call (a_cons (e_v0 (a_cons (e_c (a_cons (e_c (a_nil ?_))))))))
      refine tr__law_depot (drivers := 6) (period := 5)  h ?_ hx; clear h; intro plan3 h
      exact hn plan3 h

def t_check_period_and_quota (period : Int) (quota : Int) (Q : Unit → Prop) (X : Exn → Prop) : Prop :=
  ifP (¬ ((1 ≤ period ∧ period ≤ 8))) (X ⟨22, [(D.int period), (D.str ("period" : Str))]⟩) (ifP (¬ ((1 ≤ quota ∧ quota ≤ 12))) (X ⟨22, [(D.int quota), (D.str ("quota" : Str))]⟩) (Q ()))

theorem tr_check_period_and_quota {period : Int} {quota : Int}  {Qt : Unit → Prop} {Xt : Exn → Prop} {P : D → Prop} {P2 : Exn → Prop}  (h : t_check_period_and_quota period quota Qt Xt) (hq : ∀ r, Qt r → P (eN r)) (hx : ∀ e, Xt e → P2 e) : w_check_period_and_quota [(D.int period), (D.int quota)] P P2 := by
  unfold t_check_period_and_quota at h
  unfold w_check_period_and_quota wpB
  show b_check_period_and_quota _ [some (.d (D.int period)), some (.d (D.int quota))]
  unfold b_check_period_and_quota
  with_reducible refine w_seq ?_
  with_reducible refine w_ifT (p := ¬ ((1 ≤ period ∧ period ≤ 8))) (tt_not (p := (1 ≤ period ∧ period ≤ 8)) (tt_cmp (p := (1 ≤ period ∧ period ≤ 8)) (fun _ hQ => e_chainT (p := 1 ≤ period) (p' := period ≤ 8) (fun _ hQ => e_c hQ) (fun _ hQ => e_v0 hQ) (fun _ => (fun _ hQ => e_c hQ)) (fun _ hQ => o_le hQ) (fun _ hQ => o_le hQ) hQ))) (fun c => ?_) (fun c => ?_)
  · replace h := h.1 c
    with_reducible refine w_raise (a_cons (e_v0 (a_cons (e_c (a_nil ?_)))))
    refine ⟨rfl, (fun z => by cases z), ?_⟩
    exact (hx) _ h
  · replace h := h.2 c
    with_reducible refine w_next ?_
    with_reducible refine w_ifT (p := ¬ ((1 ≤ quota ∧ quota ≤ 12))) (tt_not (p := (1 ≤ quota ∧ quota ≤ 12)) (tt_cmp (p := (1 ≤ quota ∧ quota ≤ 12)) (fun _ hQ => e_chainT (p := 1 ≤ quota) (p' := quota ≤ 12) (fun _ hQ => e_c hQ) (fun _ hQ => e_v1 hQ) (fun _ => (fun _ hQ => e_c hQ)) (fun _ hQ => o_le hQ) (fun _ hQ => o_le hQ) hQ))) (fun c => ?_) (fun c => ?_)
    · replace h := h.1 c
      with_reducible refine w_raise (a_cons (e_v1 (a_cons (e_c (a_nil ?_)))))
      refine ⟨rfl, (fun z => by cases z), ?_⟩
      exact (hx) _ h
    · replace h := h.2 c
      with_reducible refine w_next ?_
      exact hq () h

def t_check_firsts (period : Int) (quota : Int) (firsts : (List Int)) (Q : Unit → Prop) (X : Exn → Prop) : Prop :=
  ifP (¬ ((1 ≤ (firsts.length : Int) ∧ (firsts.length : Int) ≤ 12))) (X ⟨22, [(D.int (firsts.length : Int)), (D.str ("drivers" : Str))]⟩) (forK (en 0 firsts) (fun (r1 : (Int × Int)) (k : Prop) => ifP (¬ ((1 ≤ r1.2 ∧ r1.2 ≤ period))) (X ⟨22, [(D.int r1.1), (D.str ("first" : Str))]⟩) (k)) (bnd ((firsts.count 1 : Nat) : Int) (fun (ones : Int) => ifP (ones < quota) (X ⟨22, [(D.int ones), (D.str ("ones" : Str))]⟩) (Q ()))))

theorem tr_check_firsts {period : Int} {quota : Int} {firsts : (List Int)} {d_firsts : D} {Qt : Unit → Prop} {Xt : Exn → Prop} {P : D → Prop} {P2 : Exn → Prop} (hd_firsts : itemsD d_firsts = some (List.map D.int firsts)) (h : t_check_firsts period quota firsts Qt Xt) (hq : ∀ r, Qt r → P (eN r)) (hx : ∀ e, Xt e → P2 e) : w_check_firsts [(D.int period), (D.int quota), d_firsts] P P2 := by
  unfold t_check_firsts at h
  unfold w_check_firsts wpB
  show b_check_firsts _ [some (.d (D.int period)), some (.d (D.int quota)), some (.d d_firsts), none, none, none]
  unfold b_check_firsts
  with_reducible refine w_seq ?_
  with_reducible refine w_ifT (p := ¬ ((1 ≤ (firsts.length : Int) ∧ (firsts.length : Int) ≤ 12))) (tt_not (p := (1 ≤ (firsts.length : Int) ∧ (firsts.length : Int) ≤ 12)) (tt_cmp (p := (1 ≤ (firsts.length : Int) ∧ (firsts.length : Int) ≤ 12)) (fun _ hQ => e_chainT (p := 1 ≤ (firsts.length : Int)) (p' := (firsts.length : Int) ≤ 12) (fun _ hQ => e_c hQ) (fun _ hQ => e_cb (a_cons (e_v2 (a_nil (y_lenS hd_firsts hQ))))) (fun _ => (fun _ hQ => e_c hQ)) (fun _ hQ => o_le hQ) (fun _ hQ => o_le hQ) hQ))) (fun c => ?_) (fun c => ?_)
  · replace h := h.1 c
    with_reducible refine w_raise (a_cons (e_cb (a_cons (e_v2 (a_nil (y_lenS hd_firsts (a_cons (e_c (a_nil ?_)))))))))
    refine ⟨rfl, (fun z => by cases z), ?_⟩
    exact (hx) _ h
  · replace h := h.2 c
    with_reducible refine w_next (w_seq (w_for (y_en (fun _ hQ => e_v2 hQ) (f := D.int) (xs := firsts) hd_firsts ?_)))
    refine w_forK (eP2 D.int D.int) (fun (k : Prop) N => ∀ (o1 o2 : Option S), k → N [some (.d (D.int period)), some (.d (D.int quota)), some (.d d_firsts), o1, o2, none]) ?_ ?_  _ _ h <;> clear h
    · intro o1 o2 h
      try dsimp only at h
      with_reducible refine w_seq (w_as5 (e_cnt (ns := firsts) hd_firsts (fun _ hQ => e_v2 hQ) (e_c (k_cnt ?_))))
      refine gen_d5 D.int h ?_; clear h; intro ones h
      with_reducible refine w_ifT (p := ones < quota) (tt_cmp (p := ones < quota) (fun _ hQ => e_op (e_v5 (e_v1 (o_lt hQ))))) (fun c => ?_) (fun c => ?_)
      · replace h := h.1 c
        with_reducible refine w_raise (a_cons (e_v5 (a_cons (e_c (a_nil ?_)))))
        refine ⟨rfl, (fun z => by cases z), ?_⟩
        exact (hx) _ h
      · replace h := h.2 c
        with_reducible refine w_next ?_
        exact hq () h
    · intro r1 k N hn o1 o2 h
      try dsimp only at h
      with_reducible refine y_g2 (g_cons (g_n3 (g_cons (g_n4 (g_nil ?_)))))
      with_reducible refine w_ifT (p := ¬ ((1 ≤ r1.2 ∧ r1.2 ≤ period))) (tt_not (p := (1 ≤ r1.2 ∧ r1.2 ≤ period)) (tt_cmp (p := (1 ≤ r1.2 ∧ r1.2 ≤ period)) (fun _ hQ => e_chainT (p := 1 ≤ r1.2) (p' := r1.2 ≤ period) (fun _ hQ => e_c hQ) (fun _ hQ => e_v4 hQ) (fun _ => (fun _ hQ => e_v0 hQ)) (fun _ hQ => o_le hQ) (fun _ hQ => o_le hQ) hQ))) (fun c => ?_) (fun c => ?_)
      · replace h := h.1 c
        with_reducible refine w_raise (a_cons (e_v3 (a_cons (e_c (a_nil ?_)))))
        refine ⟨rfl, (fun z => by cases z), ?_⟩
        exact (hx) _ h
      · replace h := h.2 c
        with_reducible refine w_next ?_
        exact hn _ _ h

def t_DepotU_initU (period : Int) (quota : Int) (firsts : (List Int)) (Q : Dp → Prop) (X : Exn → Prop) : Prop :=
  t_check_period_and_quota period quota (fun (r1 : Unit) => t_check_firsts period quota firsts (fun (r2 : Unit) => Q ⟨period, quota, firsts⟩) X) X

theorem tr_DepotU_initU {period : Int} {quota : Int} {firsts : (List Int)} {d_firsts : D} {Qt : Dp → Prop} {Xt : Exn → Prop} {P : List D → Prop} {P2 : Exn → Prop} (hd_firsts : itemsD d_firsts = some (List.map D.int firsts)) (h : t_DepotU_initU period quota firsts Qt Xt) (hq : ∀ r, Qt r → P [.int r.p, .int r.q, .tup (List.map D.int r.f)]) (hx : ∀ e, Xt e → P2 e) : i_DepotU_initU [(D.int period), (D.int quota), d_firsts] P P2 := by
  unfold t_DepotU_initU at h
  intro a
  show b_DepotU_initU _ [some (.slf a 0 []), some (.d (D.int period)), some (.d (D.int quota)), some (.d d_firsts)]
  unfold b_DepotU_initU
  with_reducible refine w_seq (w_drop (e_call (a_cons (e_v1 (a_cons (e_v2 (a_nil ?_)))))))
  refine tr_check_period_and_quota (period := period) (quota := quota)  h ?_ hx; clear h; intro r1 h
  with_reducible refine w_seq (w_drop (e_call (a_cons (e_v1 (a_cons (e_v2 (a_cons (e_v3 (a_nil ?_)))))))))
  refine tr_check_firsts (period := period) (quota := quota) (firsts := firsts) hd_firsts h ?_ hx; clear h; intro r2 h
  with_reducible refine w_seq ?_
  have hj : (([]) : List D).length = 0 := rfl
  with_reducible refine w_sf0 hj (e_v1 (w_seq ?_))
  have hj2 : ((([] ++ [(D.int period)])) : List D).length = 1 := rfl
  with_reducible refine w_sf0 hj2 (e_v2 ?_)
  have hj3 : (((([] ++ [(D.int period)]) ++ [(D.int quota)])) : List D).length = 2 := rfl
  with_reducible refine w_sf0 hj3 (e_cb (a_cons (e_v3 (a_nil (y_tuple (f := D.int) (xs := firsts) hd_firsts ?_)))))
  exact ⟨rfl, rfl, rfl, hq ⟨period, quota, firsts⟩ h⟩

def t_ascending (drivers : (List Int)) (size : Int) (Q : Bool → Prop) (X : Exn → Prop) : Prop :=
  forK drivers (fun (driver : Int) (k : Int → Prop) (least : Int) => ifP (¬ ((least ≤ driver ∧ driver < size))) (Q false) (bnd (driver + 1) (fun (least2 : Int) => k least2))) (fun (least : Int) => Q true) 0

theorem tr_ascending {drivers : (List Int)} {size : Int} {d_drivers : D} {Qt : Bool → Prop} {Xt : Exn → Prop} {P : D → Prop} {P2 : Exn → Prop} (hd_drivers : itemsD d_drivers = some (List.map D.int drivers)) (h : t_ascending drivers size Qt Xt) (hq : ∀ r, Qt r → P (D.bl r)) (hx : ∀ e, Xt e → P2 e) : w_ascending [d_drivers, (D.int size)] P P2 := by
  unfold t_ascending at h
  unfold w_ascending wpB
  show b_ascending _ [some (.d d_drivers), some (.d (D.int size)), none, none]
  unfold b_ascending
  with_reducible refine w_seq (w_as2 (e_c (w_seq (w_for (y_it (fun _ hQ => e_v0 hQ) (f := D.int) (xs := drivers) hd_drivers ?_)))))
  refine w_forK D.int (fun (k : Int → Prop) N => ∀ (least : Int) (o1 : Option S), k least → N [some (.d d_drivers), some (.d (D.int size)), some (.d (D.int least)), o1]) ?_ ?_ 0 _ h <;> clear h
  · intro least o1 h
    try dsimp only at h
    with_reducible refine w_ret (e_c ?_)
    exact hq true h
  · intro driver k N hn least o1 h
    try dsimp only at h
    with_reducible refine g_n3 (w_seq ?_)
    with_reducible refine w_ifT (p := ¬ ((least ≤ driver ∧ driver < size))) (tt_not (p := (least ≤ driver ∧ driver < size)) (tt_cmp (p := (least ≤ driver ∧ driver < size)) (fun _ hQ => e_chainT (p := least ≤ driver) (p' := driver < size) (fun _ hQ => e_v2 hQ) (fun _ hQ => e_v3 hQ) (fun _ => (fun _ hQ => e_v1 hQ)) (fun _ hQ => o_le hQ) (fun _ hQ => o_lt hQ) hQ))) (fun c => ?_) (fun c => ?_)
    · replace h := h.1 c
      with_reducible refine w_ret (e_c ?_)
      exact hq false h
    · replace h := h.2 c
      with_reducible refine w_next (w_as2 (e_op (e_v3 (e_c (o_add ?_)))))
      refine gen_d2 D.int h ?_; clear h; intro least2 h
      exact hn least2 _ h

def t_check_stretches (stretches : (List (Int × (List Int)))) (Q : Unit → Prop) (X : Exn → Prop) : Prop :=
  ifP (400 < (stretches.length : Int)) (X ⟨23, [(D.int 400), (D.str ("stretches" : Str))]⟩) (forK (en 0 stretches) (fun (r1 : (Int × (Int × (List Int)))) (k : Int → Prop) (total : Int) => ifP (¬ ((1 ≤ r1.2.1 ∧ r1.2.1 ≤ 1000000000000000000000000000000))) (X ⟨23, [(D.int r1.1), (D.str ("days" : Str))]⟩) (t_ascending r1.2.2 12 (fun (r2 : Bool) => ifP (r2 = true) (bnd (total + r1.2.1) (fun (total2 : Int) => ifP (1000000000000000000000000000000 < total2) (X ⟨23, [(D.int r1.1), (D.str ("total" : Str))]⟩) (k total2))) (X ⟨23, [(D.int r1.1), (D.str ("runners" : Str))]⟩)) X)) (fun (total : Int) => Q ()) 0)

theorem tr_check_stretches {stretches : (List (Int × (List Int)))} {d_stretches : D} {Qt : Unit → Prop} {Xt : Exn → Prop} {P : D → Prop} {P2 : Exn → Prop} (hd_stretches : itemsD d_stretches = some (List.map (eP2 D.int (eL D.int)) stretches)) (h : t_check_stretches stretches Qt Xt) (hq : ∀ r, Qt r → P (eN r)) (hx : ∀ e, Xt e → P2 e) : w_check_stretches [d_stretches] P P2 := by
  unfold t_check_stretches at h
  unfold w_check_stretches wpB
  show b_check_stretches _ [some (.d d_stretches), none, none, none, none]
  unfold b_check_stretches
  with_reducible refine w_seq ?_
  with_reducible refine w_ifT (p := 400 < (stretches.length : Int)) (tt_cmp (p := 400 < (stretches.length : Int)) (fun _ hQ => e_op (e_cb (a_cons (e_v0 (a_nil (y_lenS hd_stretches (e_c (o_gt hQ))))))))) (fun c => ?_) (fun c => ?_)
  · replace h := h.1 c
    with_reducible refine w_raise (a_cons (e_c (a_cons (e_c (a_nil ?_)))))
    refine ⟨rfl, (fun z => by cases z), ?_⟩
    exact (hx) _ h
  · replace h := h.2 c
    with_reducible refine w_next (w_seq (w_as1 (e_c (w_for (y_en (fun _ hQ => e_v0 hQ) (f := (eP2 D.int (eL D.int))) (xs := stretches) hd_stretches ?_)))))
    refine w_forK (eP2 D.int (eP2 D.int (eL D.int))) (fun (k : Int → Prop) N => ∀ (total : Int) (o1 o2 o3 : Option S), k total → N [some (.d d_stretches), some (.d (D.int total)), o1, o2, o3]) ?_ ?_ 0 _ _ _ h <;> clear h
    · intro total o1 o2 o3 h
      try dsimp only at h
      exact hq () h
    · intro r1 k N hn total o1 o2 o3 h
      try dsimp only at h
      with_reducible refine y_g2 (g_cons (g_n2 (g_cons (y_g2 (g_cons (g_n3 (g_cons (g_n4 (g_nil (g_nil (w_seq ?_)))))))))))
      with_reducible refine w_ifT (p := ¬ ((1 ≤ r1.2.1 ∧ r1.2.1 ≤ 1000000000000000000000000000000))) (tt_not (p := (1 ≤ r1.2.1 ∧ r1.2.1 ≤ 1000000000000000000000000000000)) (tt_cmp (p := (1 ≤ r1.2.1 ∧ r1.2.1 ≤ 1000000000000000000000000000000)) (fun _ hQ => e_chainT (p := 1 ≤ r1.2.1) (p' := r1.2.1 ≤ 1000000000000000000000000000000) (fun _ hQ => e_c hQ) (fun _ hQ => e_v3 hQ) (fun _ => (fun _ hQ => e_c hQ)) (fun _ hQ => o_le hQ) (fun _ hQ => o_le hQ) hQ))) (fun c => ?_) (fun c => ?_)
      · replace h := h.1 c
        with_reducible refine w_raise (a_cons (e_v2 (a_cons (e_c (a_nil ?_)))))
        refine ⟨rfl, (fun z => by cases z), ?_⟩
        exact (hx) _ h
      · replace h := h.2 c
        with_reducible refine w_next (w_seq (w_if (t_not (t_truK (e_call (a_cons (e_v4 (a_cons (e_c (a_nil ?_))))))))))
        refine tr_ascending (drivers := r1.2.2) (size := 12) hdL h ?_ hx; clear h; intro r2 h
        with_reducible refine k_truB ?_
        refine w_ifBn (p := r2 = true) Iff.rfl (fun c => ?_) (fun c => ?_)
        · replace h := h.2 c
          with_reducible refine w_raise (a_cons (e_v2 (a_cons (e_c (a_nil ?_)))))
          refine ⟨rfl, (fun z => by cases z), ?_⟩
          exact (hx) _ h
        · replace h := h.1 c
          with_reducible refine w_next (w_seq (w_as1 (e_op (e_v1 (e_v3 (o_add ?_))))))
          refine gen_d1 D.int h ?_; clear h; intro total2 h
          with_reducible refine w_ifT (p := 1000000000000000000000000000000 < total2) (tt_cmp (p := 1000000000000000000000000000000 < total2) (fun _ hQ => e_op (e_v1 (e_c (o_gt hQ))))) (fun c => ?_) (fun c => ?_)
          · replace h := h.1 c
            with_reducible refine w_raise (a_cons (e_v2 (a_cons (e_c (a_nil ?_)))))
            refine ⟨rfl, (fun z => by cases z), ?_⟩
            exact (hx) _ h
          · replace h := h.2 c
            with_reducible refine w_next ?_
            exact hn total2 _ _ _ h

def t_join_neighbours (pairs : (List (Int × (List Int)))) (Q : (List (Int × (List Int))) → Prop) (X : Exn → Prop) : Prop :=
  forK pairs (fun (r1 : (Int × (List Int))) (k : (List (Int × (List Int))) → Prop) (rows : (List (Int × (List Int)))) => (rows ≠ [] → rows ≠ []) ∧ ifP ((rows ≠ [] ∧ ((lastD rows).2) = r1.2)) (rows ≠ [] ∧ rows ≠ [] ∧ k (setLast rows ((((lastD rows).1) + r1.1), r1.2))) ((rows.length < szl) ∧ k (rows ++ [(r1.1, r1.2)]))) (fun (rows : (List (Int × (List Int)))) => Q rows) ([] : List (Int × (List Int)))

theorem tr_join_neighbours {pairs : (List (Int × (List Int)))} {d_pairs : D} {Qt : (List (Int × (List Int))) → Prop} {Xt : Exn → Prop} {P : D → Prop} {P2 : Exn → Prop} (hd_pairs : itemsD d_pairs = some (List.map (eP2 D.int (eT D.int)) pairs)) (h : t_join_neighbours pairs Qt Xt) (hq : ∀ r, Qt r → P ((eL (eP2 D.int (eT D.int))) r)) (hx : ∀ e, Xt e → P2 e) : w_join_neighbours [d_pairs] P P2 := by
  unfold t_join_neighbours at h
  unfold w_join_neighbours wpB
  show b_join_neighbours _ [some (.d d_pairs), none, none, none]
  unfold b_join_neighbours
  with_reducible refine w_seq (w_ao1 (e_lstK (a_nil (y_mk0 (f := (eP2 D.int (eT D.int)))  (k_ao (w_seq (w_for (y_it (fun _ hQ => e_v0 hQ) (f := (eP2 D.int (eT D.int))) (xs := pairs) hd_pairs ?_))))))))
  refine w_forK (eP2 D.int (eT D.int)) (fun (k : (List (Int × (List Int))) → Prop) N => ∀ (rows : (List (Int × (List Int)))) (o1 o2 : Option S), k rows → N [some (.d d_pairs), some (.own none (List.map (eP2 D.int (eT D.int)) rows)), o1, o2]) ?_ ?_ ([] : List (Int × (List Int))) _ _ h <;> clear h
  · intro rows o1 o2 h
    try dsimp only at h
    with_reducible refine w_fz1 (w_ret (e_v1 ?_))
    exact hq rows h
  · intro r1 k N hn rows o1 o2 h
    try dsimp only at h
    with_reducible refine y_g2 (g_cons (g_n2 (g_cons (g_n3 (g_nil ?_)))))
    obtain ⟨s2, h⟩ := h
    with_reducible refine w_ifT (p := (rows ≠ [] ∧ ((lastD rows).2) = r1.2)) (tt_and (p := rows ≠ []) (q := ((lastD rows).2) = r1.2) (tt_truL (f := (eP2 D.int (eT D.int))) (xs := rows) (fun _ hQ => e_vo1 hQ)) (fun hp => (tt_cmp (p := ((lastD rows).2) = r1.2) (fun _ hQ => e_op (e_op (e_op (e_vo1 (e_un (e_c (o_neg (y_lastL (s2 hp) (e_c (y_t1 (e_v3 (y_eqd (f := (eT D.int)) (a := ((lastD rows).2)) (b := r1.2) y_ok y_ok hQ))))))))))))))) (fun c => ?_) (fun c => ?_)
    · replace h := h.1 c
      with_reducible refine w_si1 ?_
      obtain ⟨s3, h⟩ := h
      with_reducible refine e_tup (a_cons (e_op (e_op (e_op (e_vo1 (e_un (e_c (o_neg (y_lastL s3 (e_c (y_t0 (e_v2 (o_add (a_cons (e_v3 (a_nil (And.intro ln2 (e_un (e_c (o_neg ?_))))))))))))))))))))
      obtain ⟨s4, h⟩ := h
      with_reducible refine y_setLast (f := (eP2 D.int (eT D.int))) (xs := rows) (y := ((((lastD rows).1) + r1.1), r1.2)) s4 ?_
      exact hn (setLast rows ((((lastD rows).1) + r1.1), r1.2)) _ _ h
    · replace h := h.2 c
      with_reducible refine w_ap1 (e_tup (a_cons (e_v2 (a_cons (e_v3 (a_nil (And.intro ln2 ?_)))))))
      obtain ⟨s5, h⟩ := h
      with_reducible refine y_app (f := (eP2 D.int (eT D.int))) (xs := rows) (y := (r1.1, r1.2)) s5 ?_
      exact hn (rows ++ [(r1.1, r1.2)]) _ _ h

def t_BookU_initU (stretches : (List (Int × (List Int)))) (Q : Bk → Prop) (X : Exn → Prop) : Prop :=
  t_check_stretches stretches (fun (r1 : Unit) => (stretches.length ≤ szl) ∧ t_join_neighbours (List.map (fun (r4 : (Int × (List Int))) => (r4.1, r4.2)) stretches) (fun (r5 : (List (Int × (List Int)))) => (r5.length ≤ szl) ∧ Q ⟨r5, ((List.map (fun (r6 : (Int × (List Int))) => r6.1) r5).sum)⟩) X) X

theorem tr_BookU_initU {stretches : (List (Int × (List Int)))} {d_stretches : D} {Qt : Bk → Prop} {Xt : Exn → Prop} {P : List D → Prop} {P2 : Exn → Prop} (hd_stretches : itemsD d_stretches = some (List.map (eP2 D.int (eL D.int)) stretches)) (h : t_BookU_initU stretches Qt Xt) (hq : ∀ r, Qt r → P [.tup (List.map eSg r.s), .int r.n]) (hx : ∀ e, Xt e → P2 e) : i_BookU_initU [d_stretches] P P2 := by
  unfold t_BookU_initU at h
  intro a
  show b_BookU_initU _ [some (.slf a 1 []), some (.d d_stretches), none, none, none]
  unfold b_BookU_initU
  with_reducible refine w_seq (w_drop (e_call (a_cons (e_v1 (a_nil ?_)))))
  refine tr_check_stretches (stretches := stretches) hd_stretches h ?_ hx; clear h; intro r1 h
  with_reducible refine w_seq ?_
  have hj : (([]) : List D).length = 0 := rfl
  with_reducible refine w_sf0 hj (e_cb (a_cons (e_call (a_cons ?_))))
  obtain ⟨s3, h⟩ := h
  with_reducible refine w_lc_2_3 (y_it (fun _ hQ => e_v1 hQ) (f := (eP2 D.int (eL D.int))) (xs := stretches) hd_stretches (y_lcM (f := (eP2 D.int (eL D.int))) (g := (eP2 D.int (eT D.int))) (fun (r4 : (Int × (List Int))) => (r4.1, r4.2)) s3 (fun r4 hx_3 _ hQ => y_g2 (g_cons (g_n2 (g_cons (g_n3 (g_nil (e_tup (a_cons (e_v2 (a_cons (e_cb (a_cons (e_v3 (a_nil (y_tuple (f := D.int) (xs := r4.2) hdL (a_nil (And.intro ln2 hQ))))))))))))))))) (a_nil ?_)))
  refine tr_join_neighbours (pairs := (List.map (fun (r4 : (Int × (List Int))) => (r4.1, r4.2)) stretches)) hdL h ?_ hx; clear h; intro r5 h
  with_reducible refine a_nil (y_tuple (f := (eP2 D.int (eT D.int))) (xs := r5) hdL ?_)
  have hj2 : ((([] ++ [(D.tup (List.map (eP2 D.int (eT D.int)) r5))])) : List D).length = 1 := rfl
  with_reducible refine w_sf0 hj2 ?_
  have s4 : (([] ++ [(D.tup (List.map (eP2 D.int (eT D.int)) r5))]))[0]? = some (D.tup (List.map (eP2 D.int (eT D.int)) r5)) := rfl
  obtain ⟨s5, h⟩ := h
  with_reducible refine e_cb (a_cons (w_lc_2_4 (y_it (fun _ hQ => e_fs0 s4 hQ) (f := (eP2 D.int (eT D.int))) (xs := r5) hdT (y_lcM (f := (eP2 D.int (eT D.int))) (g := D.int) (fun (r6 : (Int × (List Int))) => r6.1) s5 (fun r6 hx_4 _ hQ => y_g2 (g_cons (g_n2 (g_cons (g_n4 (g_nil (e_v2 hQ))))))) (a_nil (y_sum (ns := (List.map (fun (r6 : (Int × (List Int))) => r6.1) r5)) hdL ?_))))))
  exact ⟨rfl, rfl, rfl, hq ⟨r5, ((List.map (fun (r6 : (Int × (List Int))) => r6.1) r5).sum)⟩ h⟩

def g_Depot_size (self : Dp) : Int :=
  (self.f.length : Int)

theorem pf_Depot_size {self : Dp}  {Q : D → Prop} {Q2 : Exn → Prop}  (h : Q (D.int (g_Depot_size self))) : w_Depot_size [(eDp self)] Q Q2 := by
  unfold g_Depot_size at h
  unfold w_Depot_size wpB
  show b_Depot_size _ [some (.d (eDp self))]
  unfold b_Depot_size
  with_reducible refine w_ret (e_cb (a_cons (e_fld (e_v0 (y_fd0_2_02 (a_nil (y_lenT  ?_)))))))
  exact h

def t_check_runners (depot : Dp) (at_ : Int) (runners : (List Int)) (nexts : (List Int)) (morning : Int) (Q : Unit → Prop) (X : Exn → Prop) : Prop :=
  (runners.length ≤ szl) ∧ ifP ((runners.filter fun (driver : Int) => decide ((g_Depot_size depot) ≤ driver)) ≠ []) (X ⟨23, [(D.int at_), (D.str ("driver" : Str))]⟩) (ifP ((runners.length : Int) ≠ depot.q) (X ⟨23, [(D.int at_), (D.str ("count" : Str))]⟩) ((runners.length ≤ szl) ∧ (∀ driver2 ∈ runners, ixOk nexts driver2) ∧ ifP ((runners.filter fun (driver2 : Int) => decide ((gi nexts driver2) ≠ morning)) ≠ []) (X ⟨23, [(D.int at_), (D.str ("away" : Str))]⟩) (Q ())))

theorem tr_check_runners {depot : Dp} {at_ : Int} {runners : (List Int)} {nexts : (List Int)} {morning : Int} {d_runners : D} {d_nexts : D} {Qt : Unit → Prop} {Xt : Exn → Prop} {P : D → Prop} {P2 : Exn → Prop} (hd_runners : itemsD d_runners = some (List.map D.int runners)) (hd_nexts : itemsD d_nexts = some (List.map D.int nexts)) (h : t_check_runners depot at_ runners nexts morning Qt Xt) (hq : ∀ r, Qt r → P (eN r)) (hx : ∀ e, Xt e → P2 e) : w_check_runners [(eDp depot), (D.int at_), d_runners, d_nexts, (D.int morning)] P P2 := by
  unfold t_check_runners at h
  unfold w_check_runners wpB
  show b_check_runners _ [some (.d (eDp depot)), some (.d (D.int at_)), some (.d d_runners), some (.d d_nexts), some (.d (D.int morning)), none]
  unfold b_check_runners
  with_reducible refine w_seq ?_
  obtain ⟨s1, h⟩ := h
  with_reducible refine w_ifT (p := (runners.filter fun (driver : Int) => decide ((g_Depot_size depot) ≤ driver)) ≠ []) (tt_truL (f := D.int) (xs := (runners.filter fun (driver : Int) => decide ((g_Depot_size depot) ≤ driver))) (fun _ hQ => w_lc_5 (y_it (fun _ hQ => e_v2 hQ) (f := D.int) (xs := runners) hd_runners (y_lcF (f := D.int) (fun (driver : Int) => (g_Depot_size depot) ≤ driver) s1 (fun driver hx_ A Q hq1_ hq2_ => g_n5 ((tt_cmp (p := (g_Depot_size depot) ≤ driver) (fun _ hQ => e_op (e_v5 (e_prop (e_v0 (k_obj (pf_Depot_size (self := depot)   (o_ge hQ)))))))) _ fun b hb => w_ifB hb (fun hp => (e_v5 (hq1_ hp))) hq2_)) hQ)))) (fun c => ?_) (fun c => ?_)
  · replace h := h.1 c
    with_reducible refine w_raise (a_cons (e_v1 (a_cons (e_c (a_nil ?_)))))
    refine ⟨rfl, (fun z => by cases z), ?_⟩
    exact (hx) _ h
  · replace h := h.2 c
    with_reducible refine w_next (w_seq ?_)
    with_reducible refine w_ifT (p := (runners.length : Int) ≠ depot.q) (tt_cmp (p := (runners.length : Int) ≠ depot.q) (fun _ hQ => e_op (e_cb (a_cons (e_v2 (a_nil (y_lenS hd_runners (e_fld (e_v0 (y_fd0_1_01 (o_ne hQ))))))))))) (fun c => ?_) (fun c => ?_)
    · replace h := h.1 c
      with_reducible refine w_raise (a_cons (e_v1 (a_cons (e_c (a_nil ?_)))))
      refine ⟨rfl, (fun z => by cases z), ?_⟩
      exact (hx) _ h
    · replace h := h.2 c
      with_reducible refine w_next ?_
      obtain ⟨s2, h⟩ := h
      obtain ⟨s4, h⟩ := h
      with_reducible refine w_ifT (p := (runners.filter fun (driver2 : Int) => decide ((gi nexts driver2) ≠ morning)) ≠ []) (tt_truL (f := D.int) (xs := (runners.filter fun (driver2 : Int) => decide ((gi nexts driver2) ≠ morning))) (fun _ hQ => w_lc_5 (y_it (fun _ hQ => e_v2 hQ) (f := D.int) (xs := runners) hd_runners (y_lcF (f := D.int) (fun (driver2 : Int) => (gi nexts driver2) ≠ morning) s2 (fun driver2 hx_2 A Q hq1_ hq2_ => g_n5 ((tt_cmp (p := (gi nexts driver2) ≠ morning) (fun _ hQ => e_op (e_op (e_v3 (e_v5 (y_ixS hd_nexts (s4 driver2 hx_2) (e_v4 (o_ne hQ)))))))) _ fun b hb => w_ifB hb (fun hp2 => (e_v5 (hq1_ hp2))) hq2_)) hQ)))) (fun c => ?_) (fun c => ?_)
      · replace h := h.1 c
        with_reducible refine w_raise (a_cons (e_v1 (a_cons (e_c (a_nil ?_)))))
        refine ⟨rfl, (fun z => by cases z), ?_⟩
        exact (hx) _ h
      · replace h := h.2 c
        with_reducible refine w_next ?_
        exact hq () h

def g_long_runs (depot : Dp) (morning : Int) (behind : Int) : Int :=
  ((((behind - morning) + depot.p) - 1) / depot.p)

def sd_long_runs (depot : Dp) (morning : Int) (behind : Int) : Prop :=
  (divT depot.p)

theorem pf_long_runs {depot : Dp} {morning : Int} {behind : Int}  {Q : D → Prop} {Q2 : Exn → Prop}  (hs : sd_long_runs depot morning behind) (h : Q (D.int (g_long_runs depot morning behind))) : w_long_runs [(eDp depot), (D.int morning), (D.int behind)] Q Q2 := by
  unfold g_long_runs at h
  unfold sd_long_runs at hs
  have hs0 := hs
  unfold w_long_runs wpB
  show b_long_runs _ [some (.d (eDp depot)), some (.d (D.int morning)), some (.d (D.int behind))]
  unfold b_long_runs
  with_reducible refine w_ret ?_
  have s1 := hs0
  with_reducible refine e_op (e_op (e_op (e_op (e_v2 (e_v1 (o_sub (e_fld (e_v0 (y_fd0_0_00 (o_add (e_c (o_sub (e_fld (e_v0 (y_fd0_0_00 (y_div s1 ?_))))))))))))))))
  exact h

def t_AfterU_initU (depot : Dp) (days : Int) (passes : (List Int)) (longs : (List Int)) (nexts : (List Int)) (Q : Af → Prop) (X : Exn → Prop) : Prop :=
  Q ⟨days, passes, longs, nexts, depot⟩

theorem tr_AfterU_initU {depot : Dp} {days : Int} {passes : (List Int)} {longs : (List Int)} {nexts : (List Int)} {d_passes : D} {d_longs : D} {d_nexts : D} {Qt : Af → Prop} {Xt : Exn → Prop} {P : List D → Prop} {P2 : Exn → Prop} (hd_passes : itemsD d_passes = some (List.map D.int passes)) (hd_longs : itemsD d_longs = some (List.map D.int longs)) (hd_nexts : itemsD d_nexts = some (List.map D.int nexts)) (h : t_AfterU_initU depot days passes longs nexts Qt Xt) (hq : ∀ r, Qt r → P [.int r.n, .tup (List.map D.int r.ps), .tup (List.map D.int r.ls), .tup (List.map D.int r.xs), eDp r.dep]) (hx : ∀ e, Xt e → P2 e) : i_AfterU_initU [(eDp depot), (D.int days), d_passes, d_longs, d_nexts] P P2 := by
  unfold t_AfterU_initU at h
  intro a
  show b_AfterU_initU _ [some (.slf a 2 []), some (.d (eDp depot)), some (.d (D.int days)), some (.d d_passes), some (.d d_longs), some (.d d_nexts)]
  unfold b_AfterU_initU
  with_reducible refine w_seq ?_
  have hj : (([]) : List D).length = 0 := rfl
  with_reducible refine w_sf0 hj (e_v2 (w_seq ?_))
  have hj2 : ((([] ++ [(D.int days)])) : List D).length = 1 := rfl
  with_reducible refine w_sf0 hj2 (e_cb (a_cons (e_v3 (a_nil (y_tuple (f := D.int) (xs := passes) hd_passes (w_seq ?_))))))
  have hj3 : (((([] ++ [(D.int days)]) ++ [(D.tup (List.map D.int passes))])) : List D).length = 2 := rfl
  with_reducible refine w_sf0 hj3 (e_cb (a_cons (e_v4 (a_nil (y_tuple (f := D.int) (xs := longs) hd_longs (w_seq ?_))))))
  have hj4 : ((((([] ++ [(D.int days)]) ++ [(D.tup (List.map D.int passes))]) ++ [(D.tup (List.map D.int longs))])) : List D).length = 3 := rfl
  with_reducible refine w_sf0 hj4 (e_cb (a_cons (e_v5 (a_nil (y_tuple (f := D.int) (xs := nexts) hd_nexts ?_)))))
  have hj5 : (((((([] ++ [(D.int days)]) ++ [(D.tup (List.map D.int passes))]) ++ [(D.tup (List.map D.int longs))]) ++ [(D.tup (List.map D.int nexts))])) : List D).length = 4 := rfl
  with_reducible refine w_sf0 hj5 (e_v1 ?_)
  exact ⟨rfl, rfl, rfl, hq ⟨days, passes, longs, nexts, depot⟩ h⟩

def t_walk (depot : Dp) (book : Bk) (Q : Af → Prop) (X : Exn → Prop) : Prop :=
  (-(2 ^ 63) ≤ (g_Depot_size depot) ∧ (g_Depot_size depot) ≤ 16777216) ∧ bnd (List.replicate (g_Depot_size depot).toNat 0) (fun (passes : (List Int)) => (-(2 ^ 63) ≤ (g_Depot_size depot) ∧ (g_Depot_size depot) ≤ 16777216) ∧ bnd (List.replicate (g_Depot_size depot).toNat 0) (fun (longs : (List Int)) => forK (en 0 book.s) (fun (r1 : (Int × (Int × (List Int)))) (k : (List Int) → (List Int) → (List Int) → Int → Prop) (passes2 : (List Int)) (longs2 : (List Int)) (nexts : (List Int)) (behind : Int) => t_check_runners depot r1.1 r1.2.2 nexts behind (fun (r3 : Unit) => bnd (behind + r1.2.1) (fun (behind2 : Int) => b62 (g_Depot_size depot) ∧ forK (rg 0 (g_Depot_size depot)) (fun (driver : Int) (k : (List Int) → (List Int) → (List Int) → Prop) (passes3 : (List Int)) (longs3 : (List Int)) (nexts2 : (List Int)) => ifP (driver ∈ r1.2.2) (ixOk passes3 driver ∧ ixOk passes3 driver ∧ ixOk nexts2 driver ∧ k (st passes3 driver ((gi passes3 driver) + r1.2.1)) longs3 (st nexts2 driver behind2)) (ixOk nexts2 driver ∧ sd_long_runs depot (gi nexts2 driver) behind2 ∧ bnd (g_long_runs depot (gi nexts2 driver) behind2) (fun (runs : Int) => ixOk longs3 driver ∧ ixOk longs3 driver ∧ ixOk nexts2 driver ∧ mulT runs depot.p ∧ ixOk nexts2 driver ∧ k passes3 (st longs3 driver ((gi longs3 driver) + runs)) (st nexts2 driver ((gi nexts2 driver) + (runs * depot.p)))))) (fun (passes3 : (List Int)) (longs3 : (List Int)) (nexts2 : (List Int)) => k passes3 longs3 nexts2 behind2) passes2 longs2 nexts)) (fun e => noLL e.ds = true ∧ X e)) (fun (passes2 : (List Int)) (longs2 : (List Int)) (nexts : (List Int)) (behind : Int) => t_AfterU_initU depot book.n passes2 longs2 nexts (fun (r2 : Af) => Q r2) (fun e => noLL e.ds = true ∧ X e)) passes longs depot.f 1))

theorem tr_walk {depot : Dp} {book : Bk}  {Qt : Af → Prop} {Xt : Exn → Prop} {P : D → Prop} {P2 : Exn → Prop}  (h : t_walk depot book Qt Xt) (hq : ∀ r, Qt r → P (eAf r)) (hx : ∀ e, Xt e → P2 e) : w_walk [(eDp depot), (eBk book)] P P2 := by
  unfold t_walk at h
  unfold w_walk wpB
  show b_walk _ [some (.d (eDp depot)), some (.d (eBk book)), none, none, none, none, none, none, none, none, none]
  unfold b_walk
  with_reducible refine w_seq (w_ao2 ?_)
  obtain ⟨s1, h⟩ := h
  with_reducible refine e_op (e_lstK (a_cons (e_c (a_nil (y_mk1 (f := D.int) (a0 := 0) (e_prop (e_v0 (k_obj (pf_Depot_size (self := depot)   (y_rep (f := D.int) (x := 0) s1 (k_ao ?_)))))))))))
  refine gen_o2 D.int h ?_; clear h; intro passes h
  with_reducible refine w_seq (w_ao3 ?_)
  obtain ⟨s2, h⟩ := h
  with_reducible refine e_op (e_lstK (a_cons (e_c (a_nil (y_mk1 (f := D.int) (a0 := 0) (e_prop (e_v0 (k_obj (pf_Depot_size (self := depot)   (y_rep (f := D.int) (x := 0) s2 (k_ao ?_)))))))))))
  refine gen_o3 D.int h ?_; clear h; intro longs h
  with_reducible refine w_seq (w_ao4 (e_cb (a_cons (e_fld (e_v0 (y_fd0_2_02 (a_nil (y_list (f := D.int) (xs := depot.f) hdT (k_ao (w_seq (w_as5 (e_c (w_seq (w_for (y_en (fun _ hQ => e_fld (e_v1 (y_fd1_0_10 hQ))) (f := (eP2 D.int (eT D.int))) (xs := book.s) hdT ?_)))))))))))))))
  refine w_forK (eP2 D.int (eP2 D.int (eT D.int))) (fun (k : (List Int) → (List Int) → (List Int) → Int → Prop) N => ∀ (passes2 : (List Int)) (longs2 : (List Int)) (nexts : (List Int)) (behind : Int) (o1 o2 o3 o4 o5 : Option S), k passes2 longs2 nexts behind → N [some (.d (eDp depot)), some (.d (eBk book)), some (.own none (List.map D.int passes2)), some (.own none (List.map D.int longs2)), some (.own none (List.map D.int nexts)), some (.d (D.int behind)), o1, o2, o3, o4, o5]) ?_ ?_ passes longs depot.f 1 _ _ _ _ _ h <;> clear h
  · intro passes2 longs2 nexts behind o1 o2 o3 o4 o5 h
    try dsimp only at h
    with_reducible refine w_fz2 (w_fz3 (w_ret (e_makeW (a_cons (e_v0 (a_cons (e_fld (e_v1 (y_fd1_1_2011 (a_cons (e_vv2 (a_cons (e_vv3 (a_cons (e_vo4 (a_nil ?_))))))))))))))))
    refine tr_AfterU_initU (depot := depot) (days := book.n) (passes := passes2) (longs := longs2) (nexts := nexts) hdL hdL hdL h ?_ (fun e h => And.intro h.1 (hx e h.2)); clear h; intro r2 h
    with_reducible refine And.intro nlAf ?_
    exact hq r2 h
  · intro r1 k N hn passes2 longs2 nexts behind o1 o2 o3 o4 o5 h
    try dsimp only at h
    with_reducible refine y_g2 (g_cons (g_n6 (g_cons (y_g2 (g_cons (g_n7 (g_cons (g_n8 (g_nil (g_nil (w_seq (w_drop (e_callW (a_cons (e_v0 (a_cons (e_v6 (a_cons (e_v8 (a_cons (e_vo4 (a_cons (e_v5 (a_nil ?_))))))))))))))))))))))))
    refine tr_check_runners (depot := depot) (at_ := r1.1) (runners := r1.2.2) (nexts := nexts) (morning := behind) hdT hdL h ?_ (fun e h => And.intro h.1 (hx e h.2)); clear h; intro r3 h
    with_reducible refine And.intro nl (w_seq (w_as5 (e_op (e_v5 (e_v7 (o_add ?_))))))
    refine gen_d5 D.int h ?_; clear h; intro behind2 h
    with_reducible refine w_for ?_
    obtain ⟨s3, h⟩ := h
    with_reducible refine y_rg1 (fun _ hQ => e_prop (e_v0 (k_obj (pf_Depot_size (self := depot)   hQ)))) s3 ?_
    refine w_forK D.int (fun (k : (List Int) → (List Int) → (List Int) → Prop) N => ∀ (passes3 : (List Int)) (longs3 : (List Int)) (nexts2 : (List Int)) (o6 o7 : Option S), k passes3 longs3 nexts2 → N [some (.d (eDp depot)), some (.d (eBk book)), some (.own none (List.map D.int passes3)), some (.own none (List.map D.int longs3)), some (.own none (List.map D.int nexts2)), some (.d (D.int behind2)), some (.d (D.int r1.1)), some (.d (D.int r1.2.1)), some (.d (D.tup (List.map D.int r1.2.2))), o6, o7]) ?_ ?_ passes2 longs2 nexts _ _ h <;> clear h
    · intro passes3 longs3 nexts2 o6 o7 h
      try dsimp only at h
      exact hn passes3 longs3 nexts2 behind2 _ _ _ _ _ h
    · intro driver k N hn passes3 longs3 nexts2 o6 o7 h
      try dsimp only at h
      with_reducible refine g_n9 ?_
      with_reducible refine w_ifT (p := driver ∈ r1.2.2) (tt_cmp (p := driver ∈ r1.2.2) (fun _ hQ => e_op (e_v9 (e_v8 (y_inS hdT hQ))))) (fun c => ?_) (fun c => ?_)
      · replace h := h.1 c
        with_reducible refine w_seq (w_si2 ?_)
        obtain ⟨s4, h⟩ := h
        with_reducible refine e_op (e_op (e_vo2 (e_v9 (y_ixL s4 (e_v7 (o_add (e_v9 ?_)))))))
        obtain ⟨s5, h⟩ := h
        with_reducible refine y_set (f := D.int) (xs := passes3) (y := ((gi passes3 driver) + r1.2.1)) s5 (w_si4 (e_v5 (e_v9 ?_)))
        obtain ⟨s6, h⟩ := h
        with_reducible refine y_set (f := D.int) (xs := nexts2) (y := behind2) s6 ?_
        exact hn (st passes3 driver ((gi passes3 driver) + r1.2.1)) longs3 (st nexts2 driver behind2) _ _ h
      · replace h := h.2 c
        with_reducible refine w_seq (w_as10 ?_)
        obtain ⟨s7, h⟩ := h
        obtain ⟨s8, h⟩ := h
        with_reducible refine e_call (a_cons (e_v0 (a_cons (e_op (e_vo4 (e_v9 (y_ixL s7 (a_cons (e_v5 (a_nil (pf_long_runs (depot := depot) (morning := (gi nexts2 driver)) (behind := behind2)  s8 ?_)))))))))))
        refine gen_d10 D.int h ?_; clear h; intro runs h
        with_reducible refine w_seq (w_si3 ?_)
        obtain ⟨s9, h⟩ := h
        with_reducible refine e_op (e_op (e_vo3 (e_v9 (y_ixL s9 (e_v10 (o_add (e_v9 ?_)))))))
        obtain ⟨s10, h⟩ := h
        with_reducible refine y_set (f := D.int) (xs := longs3) (y := ((gi longs3 driver) + runs)) s10 (w_si4 ?_)
        obtain ⟨s11, h⟩ := h
        obtain ⟨s12, h⟩ := h
        with_reducible refine e_op (e_op (e_vo4 (e_v9 (y_ixL s11 (e_op (e_v10 (e_fld (e_v0 (y_fd0_0_00 (y_mul s12 (o_add (e_v9 ?_))))))))))))
        obtain ⟨s13, h⟩ := h
        with_reducible refine y_set (f := D.int) (xs := nexts2) (y := ((gi nexts2 driver) + (runs * depot.p))) s13 ?_
        exact hn passes3 (st longs3 driver ((gi longs3 driver) + runs)) (st nexts2 driver ((gi nexts2 driver) + (runs * depot.p))) _ _ h

def t_check_days (days : Int) (Q : Unit → Prop) (X : Exn → Prop) : Prop :=
  ifP (¬ ((0 ≤ days ∧ days ≤ 1000000000000000000000000000000))) (X ⟨21, [(D.int days), (D.str ("days" : Str))]⟩) (Q ())

theorem tr_check_days {days : Int}  {Qt : Unit → Prop} {Xt : Exn → Prop} {P : D → Prop} {P2 : Exn → Prop}  (h : t_check_days days Qt Xt) (hq : ∀ r, Qt r → P (eN r)) (hx : ∀ e, Xt e → P2 e) : w_check_days [(D.int days)] P P2 := by
  unfold t_check_days at h
  unfold w_check_days wpB
  show b_check_days _ [some (.d (D.int days))]
  unfold b_check_days
  with_reducible refine w_ifT (p := ¬ ((0 ≤ days ∧ days ≤ 1000000000000000000000000000000))) (tt_not (p := (0 ≤ days ∧ days ≤ 1000000000000000000000000000000)) (tt_cmp (p := (0 ≤ days ∧ days ≤ 1000000000000000000000000000000)) (fun _ hQ => e_chainT (p := 0 ≤ days) (p' := days ≤ 1000000000000000000000000000000) (fun _ hQ => e_c hQ) (fun _ hQ => e_v0 hQ) (fun _ => (fun _ hQ => e_c hQ)) (fun _ hQ => o_le hQ) (fun _ hQ => o_le hQ) hQ))) (fun c => ?_) (fun c => ?_)
  · replace h := h.1 c
    with_reducible refine w_raise (a_cons (e_v0 (a_cons (e_c (a_nil ?_)))))
    refine ⟨rfl, (fun z => by cases z), ?_⟩
    exact (hx) _ h
  · replace h := h.2 c
    with_reducible refine w_next ?_
    exact hq () h

def t_Depot_closings (self : Dp) (days : Int) (Q : Int → Prop) (X : Exn → Prop) : Prop :=
  t_check_days days (fun (r1 : Unit) => divT self.p ∧ Q (days / self.p)) X

theorem tr_Depot_closings {self : Dp} {days : Int}  {Qt : Int → Prop} {Xt : Exn → Prop} {P : D → Prop} {P2 : Exn → Prop}  (h : t_Depot_closings self days Qt Xt) (hq : ∀ r, Qt r → P (D.int r)) (hx : ∀ e, Xt e → P2 e) : w_Depot_closings [(eDp self), (D.int days)] P P2 := by
  unfold t_Depot_closings at h
  unfold w_Depot_closings wpB
  show b_Depot_closings _ [some (.d (eDp self)), some (.d (D.int days))]
  unfold b_Depot_closings
  with_reducible refine w_seq (w_drop (e_call (a_cons (e_v1 (a_nil ?_)))))
  refine tr_check_days (days := days)  h ?_ hx; clear h; intro r1 h
  with_reducible refine w_ret ?_
  obtain ⟨s1, h⟩ := h
  with_reducible refine e_op (e_v1 (e_fld (e_v0 (y_fd0_0_00 (y_div s1 ?_)))))
  exact hq (days / self.p) h

def t_crews_seen (depot : Dp) (book : Bk) (Q : (List (Int × (List Int))) → Prop) (X : Exn → Prop) : Prop :=
  t_walk depot book (fun (r1 : Af) => forK book.s (fun (r2 : (Int × (List Int))) (k : (List (Int × (List Int))) → Int → Prop) (rows : (List (Int × (List Int)))) (days : Int) => t_Depot_closings depot (days + r2.1) (fun (r4 : Int) => t_Depot_closings depot days (fun (r5 : Int) => bnd (r4 - r5) (fun (times : Int) => jn (fun (k : (List (Int × (List Int))) → Prop) => ifP (0 < times) ((rows.length < szl) ∧ k (rows ++ [(times, r2.2)])) (k rows)) (fun (rows2 : (List (Int × (List Int)))) => bnd (days + r2.1) (fun (days2 : Int) => k rows2 days2)))) X) X) (fun (rows : (List (Int × (List Int)))) (days : Int) => t_join_neighbours rows (fun (r3 : (List (Int × (List Int)))) => Q r3) X) ([] : List (Int × (List Int))) 0) X

theorem tr_crews_seen {depot : Dp} {book : Bk}  {Qt : (List (Int × (List Int))) → Prop} {Xt : Exn → Prop} {P : D → Prop} {P2 : Exn → Prop}  (h : t_crews_seen depot book Qt Xt) (hq : ∀ r, Qt r → P ((eL (eP2 D.int (eT D.int))) r)) (hx : ∀ e, Xt e → P2 e) : w_crews_seen [(eDp depot), (eBk book)] P P2 := by
  unfold t_crews_seen at h
  unfold w_crews_seen wpB
  show b_crews_seen _ [some (.d (eDp depot)), some (.d (eBk book)), none, none, none, none, none]
  unfold b_crews_seen
  with_reducible refine w_seq (w_drop (e_call (a_cons (e_v0 (a_cons (e_v1 (a_nil ?_)))))))
  refine tr_walk (depot := depot) (book := book)  h ?_ hx; clear h; intro r1 h
  with_reducible refine w_seq (w_ao2 (e_lstK (a_nil (y_mk0 (f := (eP2 D.int (eT D.int)))  (k_ao (w_seq (w_as3 (e_c (w_seq (w_for (y_it (fun _ hQ => e_fld (e_v1 (y_fd1_0_10 hQ))) (f := (eP2 D.int (eT D.int))) (xs := book.s) hdT ?_)))))))))))
  refine w_forK (eP2 D.int (eT D.int)) (fun (k : (List (Int × (List Int))) → Int → Prop) N => ∀ (rows : (List (Int × (List Int)))) (days : Int) (o1 o2 o3 : Option S), k rows days → N [some (.d (eDp depot)), some (.d (eBk book)), some (.own none (List.map (eP2 D.int (eT D.int)) rows)), some (.d (D.int days)), o1, o2, o3]) ?_ ?_ ([] : List (Int × (List Int))) 0 _ _ _ h <;> clear h
  · intro rows days o1 o2 o3 h
    try dsimp only at h
    with_reducible refine w_fz2 (w_ret (e_call (a_cons (e_v2 (a_nil ?_)))))
    refine tr_join_neighbours (pairs := rows) hdL h ?_ hx; clear h; intro r3 h
    exact hq r3 h
  · intro r2 k N hn rows days o1 o2 o3 h
    try dsimp only at h
    with_reducible refine y_g2 (g_cons (g_n4 (g_cons (g_n5 (g_nil (w_seq (w_as6 (e_op (e_meth (e_v0 (k_obj (a_cons (e_op (e_v3 (e_v4 (o_add (a_nil ?_)))))))))))))))))
    refine tr_Depot_closings (self := depot) (days := (days + r2.1))  h ?_ hx; clear h; intro r4 h
    with_reducible refine e_meth (e_v0 (k_obj (a_cons (e_v3 (a_nil ?_)))))
    refine tr_Depot_closings (self := depot) (days := days)  h ?_ hx; clear h; intro r5 h
    with_reducible refine o_sub ?_
    refine gen_d6 D.int h ?_; clear h; intro times h
    with_reducible refine w_seqJ (fun (k : (List (Int × (List Int))) → Prop) N => ∀ (rows2 : (List (Int × (List Int)))), k rows2 → N [some (.d (eDp depot)), some (.d (eBk book)), some (.own none (List.map (eP2 D.int (eT D.int)) rows2)), some (.d (D.int days)), some (.d (D.int r2.1)), some (.d (D.tup (List.map D.int r2.2))), some (.d (D.int times))]) h ?_ ?_ <;> clear h
    · intro rows2 h
      try dsimp only at h
      with_reducible refine w_as3 (e_op (e_v3 (e_v4 (o_add ?_))))
      refine gen_d3 D.int h ?_; clear h; intro days2 h
      exact hn rows2 days2 _ _ _ h
    · intro k N hn h
      try dsimp only at h
      with_reducible refine w_ifT (p := 0 < times) (tt_cmp (p := 0 < times) (fun _ hQ => e_op (e_v6 (e_c (o_gt hQ))))) (fun c => ?_) (fun c => ?_)
      · replace h := h.1 c
        with_reducible refine w_ap2 (e_tup (a_cons (e_v6 (a_cons (e_v5 (a_nil (And.intro ln2 ?_)))))))
        obtain ⟨s1, h⟩ := h
        with_reducible refine y_app (f := (eP2 D.int (eT D.int))) (xs := rows) (y := (times, r2.2)) s1 ?_
        exact hn (rows ++ [(times, r2.2)]) h
      · replace h := h.2 c
        with_reducible refine w_next ?_
        exact hn rows h

def t__law_ask (depot : Dp) (book : Bk) (Q0 : (Str × (List (Int × (List Int)))) → Prop) (Q1 : (Str × Str × Int × Str × Bool) → Prop) (X : Exn → Prop) : Prop :=
  bnd (fun (e : Exn) => (e.c = 23 ∧ ∃ (ea_ : Int) (ec_ : Str), e.ds = [D.int ea_, D.str ec_] ∧ Q1 (("refused" : Str), ("BadBook" : Str), ea_, ec_, true)) ∨ (c_BadBook e.c = some false ∧ (X ⟨e.c, e.ds⟩))) (fun (Xt : Exn → Prop) => t_crews_seen depot book (fun (r1 : (List (Int × (List Int)))) => Q0 (("told" : Str), r1)) Xt)

theorem tr__law_ask {depot : Dp} {book : Bk}  {Qt0 : (Str × (List (Int × (List Int)))) → Prop} {Qt1 : (Str × Str × Int × Str × Bool) → Prop} {Xt : Exn → Prop} {P : D → Prop} {P2 : Exn → Prop}  (h : t__law_ask depot book Qt0 Qt1 Xt) (hq0 : ∀ r, Qt0 r → P ((eP2 D.str (eL (eP2 D.int (eT D.int)))) r)) (hq1 : ∀ r, Qt1 r → P ((eP5 D.str D.str D.int D.str D.bl) r)) (hx : ∀ e, Xt e → P2 e) : w__law_ask [(eDp depot), (eBk book)] P P2 := by
  unfold t__law_ask at h
  unfold w__law_ask wpB
  show b__law_ask _ [some (.d (eDp depot)), some (.d (eBk book)), none, none, none]
  unfold b__law_ask
  with_reducible refine w_tryKB h (fun δ' => ∃ (o1 : Option S), δ' = [some (.d (eDp depot)), some (.d (eBk book)), o1, none, none]) ?_ ?_ <;> clear h
  · rintro δ' ⟨ec, eds⟩ ⟨o1, rfl⟩ h
    try dsimp only at h
    rcases h with ⟨rfl, ea_, ec_, rfl, h⟩ | ⟨hc, h⟩
    · skip
      refine w_tryEL (fun a cls dx => [some (.d (eDp depot)), some (.d (eBk book)), some (.exc a cls dx ⟨23, [D.int ea_, D.str ec_]⟩), none, none]) rfl (fun _ _ _ => rfl) (fun a cls dx => ?_)
      with_reducible refine w_seq (w_as3 ?_)
      have s1 : f_OutagainError 23 = some true := rfl
      have s2 : f_ValueError 23 = some true := rfl
      with_reducible refine e_andT (fun _ hQ => e_ix2 s1 hQ) (e_ix2 s2 (w_seq (w_as4 ?_)))
      have s3 : (anyF f_BadCrews (anyF f_BadDepot (anyF f_NoBook f_OutOfRange))) 23 = some false := rfl
      with_reducible refine e_ix2 s3 (w_ret ?_)
      have s4 : ([(21, 0), (22, 0), (23, 0), (26, 0)] : List (Nat × Nat)).lookup 23 = some 0 := rfl
      have s5 : ([(D.int ea_), (D.str ec_)] : List D)[0]? = some (D.int ea_) := rfl
      have s6 : ([(21, 1), (22, 1), (23, 1), (26, 1)] : List (Nat × Nat)).lookup 23 = some 1 := rfl
      have s7 : ([(D.int ea_), (D.str ec_)] : List D)[1]? = some (D.str ec_) := rfl
      with_reducible refine e_tup (a_cons (e_c (a_cons (e_c (a_cons (e_xm2 s4 s5 (a_cons (e_xm2 s6 s7 (a_cons (e_andT (fun _ hQ => e_v3 hQ) (e_notF (fun _ hQ => e_v4 hQ) (a_nil (And.intro ln5 ?_)))))))))))))
      exact hq1 (("refused" : Str), ("BadBook" : Str), ea_, ec_, true) h
    · refine w_tryM hc ?_
      exact (hx) _ h
  · intro hxt h
    try dsimp only at h
    with_reducible refine w_ret (e_tup (a_cons (e_c (a_cons (e_call (a_cons (e_v0 (a_cons (e_v1 (a_nil ?_))))))))))
    refine tr_crews_seen (depot := depot) (book := book)  h ?_ (fun e h => hxt _ e ⟨_, rfl⟩ h); clear h; intro r1 h
    with_reducible refine a_nil (And.intro ln2 ?_)
    exact hq0 (("told" : Str), r1) h

def t__law_joined (rows : (List (Int × (List Int)))) (Q : (List (Int × (List Int))) → Prop) (X : Exn → Prop) : Prop :=
  forK rows (fun (row : (Int × (List Int))) (k : (List (Int × (List Int))) → Prop) (got : (List (Int × (List Int)))) => (got ≠ ([] : List (Int × (List Int))) → got ≠ []) ∧ ifP ((got ≠ ([] : List (Int × (List Int))) ∧ ((lastD got).2) = row.2)) (got ≠ [] ∧ got ≠ [] ∧ k (setLast got ((((lastD got).1) + row.1), row.2))) ((got.length < szl) ∧ k (got ++ [(row.1, row.2)]))) (fun (got : (List (Int × (List Int)))) => Q got) ([] : List (Int × (List Int)))

theorem tr__law_joined {rows : (List (Int × (List Int)))} {d_rows : D} {Qt : (List (Int × (List Int))) → Prop} {Xt : Exn → Prop} {P : D → Prop} {P2 : Exn → Prop} (hd_rows : itemsD d_rows = some (List.map (eP2 D.int (eT D.int)) rows)) (h : t__law_joined rows Qt Xt) (hq : ∀ r, Qt r → P ((eL (eP2 D.int (eT D.int))) r)) (hx : ∀ e, Xt e → P2 e) : w__law_joined [d_rows] P P2 := by
  unfold t__law_joined at h
  unfold w__law_joined wpB
  show b__law_joined _ [some (.d d_rows), none, none]
  unfold b__law_joined
  with_reducible refine w_seq (w_ao1 (e_lstK (a_nil (y_mk0 (f := (eP2 D.int (eT D.int)))  (k_ao (w_seq (w_for (y_it (fun _ hQ => e_v0 hQ) (f := (eP2 D.int (eT D.int))) (xs := rows) hd_rows ?_))))))))
  refine w_forK (eP2 D.int (eT D.int)) (fun (k : (List (Int × (List Int))) → Prop) N => ∀ (got : (List (Int × (List Int)))) (o1 : Option S), k got → N [some (.d d_rows), some (.own none (List.map (eP2 D.int (eT D.int)) got)), o1]) ?_ ?_ ([] : List (Int × (List Int))) _ h <;> clear h
  · intro got o1 h
    try dsimp only at h
    with_reducible refine w_fz1 (w_ret (e_v1 ?_))
    exact hq got h
  · intro row k N hn got o1 h
    try dsimp only at h
    with_reducible refine g_n2 ?_
    obtain ⟨s2, h⟩ := h
    with_reducible refine w_ifT (p := (got ≠ ([] : List (Int × (List Int))) ∧ ((lastD got).2) = row.2)) (tt_and (p := got ≠ ([] : List (Int × (List Int)))) (q := ((lastD got).2) = row.2) (tt_cmp (p := got ≠ ([] : List (Int × (List Int)))) (fun _ hQ => e_op (e_vo1 (e_lstK (a_nil (y_mk0 (f := (eP2 D.int (eT D.int)))  (y_nedd (f := (eL (eP2 D.int (eT D.int)))) (a := got) (b := ([] : List (Int × (List Int)))) y_ok y_ok hQ))))))) (fun hp => (tt_cmp (p := ((lastD got).2) = row.2) (fun _ hQ => e_op (e_op (e_op (e_vo1 (e_un (e_c (o_neg (y_lastL (s2 hp) (e_c (y_t1 (e_op (e_v2 (e_c (y_t1 (y_eqd (f := (eT D.int)) (a := ((lastD got).2)) (b := row.2) y_ok y_ok hQ)))))))))))))))))) (fun c => ?_) (fun c => ?_)
    · replace h := h.1 c
      with_reducible refine w_si1 ?_
      obtain ⟨s3, h⟩ := h
      with_reducible refine e_tup (a_cons (e_op (e_op (e_op (e_vo1 (e_un (e_c (o_neg (y_lastL s3 (e_c (y_t0 (e_op (e_v2 (e_c (y_t0 (o_add (a_cons (e_op (e_v2 (e_c (y_t1 (a_nil (And.intro ln2 (e_un (e_c (o_neg ?_))))))))))))))))))))))))))
      obtain ⟨s4, h⟩ := h
      with_reducible refine y_setLast (f := (eP2 D.int (eT D.int))) (xs := got) (y := ((((lastD got).1) + row.1), row.2)) s4 ?_
      exact hn (setLast got ((((lastD got).1) + row.1), row.2)) _ h
    · replace h := h.2 c
      with_reducible refine w_ap1 (e_tup (a_cons (e_op (e_v2 (e_c (y_t0 (a_cons (e_op (e_v2 (e_c (y_t1 (a_nil (And.intro ln2 ?_)))))))))))))
      obtain ⟨s5, h⟩ := h
      with_reducible refine y_app (f := (eP2 D.int (eT D.int))) (xs := got) (y := (row.1, row.2)) s5 ?_
      exact hn (got ++ [(row.1, row.2)]) _ h

def g__law_closings_in (start : Int) (end_ : Int) (m : Int) : Int :=
  (if end_ ≤ (m * (((start + m) - 1) / m)) then 0 else (1 + (((end_ - 1) - (m * (((start + m) - 1) / m))) / m)))

def sd__law_closings_in (start : Int) (end_ : Int) (m : Int) : Prop :=
  (divT m) ∧ (mulT m (((start + m) - 1) / m)) ∧ ((¬ (end_ ≤ (m * (((start + m) - 1) / m)))) → divT m)

theorem pf__law_closings_in {start : Int} {end_ : Int} {m : Int}  {Q : D → Prop} {Q2 : Exn → Prop}  (hs : sd__law_closings_in start end_ m) (h : Q (D.int (g__law_closings_in start end_ m))) : w__law_closings_in [(D.int start), (D.int end_), (D.int m)] Q Q2 := by
  unfold g__law_closings_in at h
  unfold sd__law_closings_in at hs
  obtain ⟨hs0, hs1, hs2⟩ := hs
  unfold w__law_closings_in wpB
  show b__law_closings_in _ [some (.d (D.int start)), some (.d (D.int end_)), some (.d (D.int m)), none]
  unfold b__law_closings_in
  with_reducible refine w_seq (w_as3 ?_)
  have s1 := hs0
  have s2 := hs1
  with_reducible refine e_op (e_v2 (e_op (e_op (e_op (e_v0 (e_v2 (o_add (e_c (o_sub (e_v2 (y_div s1 (y_mul s2 (w_seq ?_)))))))))))))
  with_reducible refine w_ifT (p := end_ ≤ (m * (((start + m) - 1) / m))) (tt_cmp (p := end_ ≤ (m * (((start + m) - 1) / m))) (fun _ hQ => e_op (e_v3 (e_v1 (o_ge hQ))))) (fun c0 => ?_) (fun c0 => ?_)
  · rw [if_pos c0] at h
    with_reducible refine w_ret (e_c ?_)
    exact h
  · rw [if_neg c0] at h
    with_reducible refine w_next (w_ret ?_)
    have s3 := hs2 c0
    with_reducible refine e_op (e_c (e_op (e_op (e_op (e_v1 (e_c (o_sub (e_v3 (o_sub (e_v2 (y_div s3 (o_add ?_))))))))))))
    exact h

def t__law_due (plan : (Int × Int × (List Int))) (rows : (List (Int × (List Int)))) (Q0 : (Str × (List (Int × (List Int)))) → Prop) (Q1 : (Str × Str × Int × Str × Bool) → Prop) (X : Exn → Prop) : Prop :=
  t__law_joined rows (fun (joined : (List (Int × (List Int)))) => b62 (joined.length : Int) ∧ forK (rg 0 (joined.length : Int)) (fun (k_ : Int) (k : (List Int) → Int → (List (Int × (List Int))) → Prop) (nexts : (List Int)) (start : Int) (got : (List (Int × (List Int)))) => ixOk joined k_ ∧ bnd ((gi joined k_).2) (fun (crew : (List Int)) => (crew.length ≤ szl) ∧ ifP ((crew.filter fun (i : Int) => decide ((nexts.length : Int) ≤ i)) ≠ ([] : List Int)) (Q1 (("refused" : Str), ("BadBook" : Str), k_, ("driver" : Str), true)) (ifP ((crew.length : Int) ≠ plan.2.1) (Q1 (("refused" : Str), ("BadBook" : Str), k_, ("count" : Str), true)) ((crew.length ≤ szl) ∧ (∀ i2 ∈ crew, ixOk nexts i2) ∧ ifP ((crew.filter fun (i2 : Int) => decide ((gi nexts i2) ≠ start)) ≠ ([] : List Int)) (Q1 (("refused" : Str), ("BadBook" : Str), k_, ("away" : Str), true)) (ixOk joined k_ ∧ sd__law_closings_in start (start + ((gi joined k_).1)) plan.1 ∧ bnd (g__law_closings_in start (start + ((gi joined k_).1)) plan.1) (fun (times : Int) => jn (fun (k : (List (Int × (List Int))) → Prop) => (0 < times → (got ≠ ([] : List (Int × (List Int))) → got ≠ [])) ∧ ifP ((0 < times ∧ (got ≠ ([] : List (Int × (List Int))) ∧ ((lastD got).2) = crew))) (got ≠ [] ∧ got ≠ [] ∧ k (setLast got ((((lastD got).1) + times), crew))) (ifP (0 < times) ((got.length < szl) ∧ k (got ++ [(times, crew)])) (k got))) (fun (got2 : (List (Int × (List Int)))) => ixOk joined k_ ∧ t__law_gone nexts crew ((gi joined k_).1) start plan.1 (fun (nexts2 : (List Int)) => ixOk joined k_ ∧ bnd (start + ((gi joined k_).1)) (fun (start2 : Int) => k nexts2 start2 got2)) X))))))) (fun (nexts : (List Int)) (start : Int) (got : (List (Int × (List Int)))) => Q0 (("told" : Str), got)) plan.2.2 1 ([] : List (Int × (List Int)))) X

theorem tr__law_due {plan : (Int × Int × (List Int))} {rows : (List (Int × (List Int)))} {d_rows : D} {Qt0 : (Str × (List (Int × (List Int)))) → Prop} {Qt1 : (Str × Str × Int × Str × Bool) → Prop} {Xt : Exn → Prop} {P : D → Prop} {P2 : Exn → Prop} (hd_rows : itemsD d_rows = some (List.map (eP2 D.int (eT D.int)) rows)) (h : t__law_due plan rows Qt0 Qt1 Xt) (hq0 : ∀ r, Qt0 r → P ((eP2 D.str (eL (eP2 D.int (eT D.int)))) r)) (hq1 : ∀ r, Qt1 r → P ((eP5 D.str D.str D.int D.str D.bl) r)) (hx : ∀ e, Xt e → P2 e) : w__law_due [((eW3 D.int D.int (eV D.int)) plan), d_rows] P P2 := by
  unfold t__law_due at h
  unfold w__law_due wpB
  show b__law_due _ [some (.d ((eW3 D.int D.int (eV D.int)) plan)), some (.d d_rows), none, none, none, none, none, none, none, none]
  unfold b__law_due
  with_reducible refine w_seq (w_as2 (e_cb (a_cons (e_op (e_v0 (e_c (y_w2 (a_nil (y_list (f := D.int) (xs := plan.2.2) hdV (w_seq (w_as3 (e_c (w_seq (w_ao4 (e_lstK (a_nil (y_mk0 (f := (eP2 D.int (eT D.int)))  (k_ao (w_seq (w_as5 (e_call (a_cons (e_v1 ?_)))))))))))))))))))))))
  with_reducible refine a_nil ?_
  refine tr__law_joined (rows := rows) hd_rows h ?_ hx; clear h; intro joined h
  with_reducible refine w_seq (w_for ?_)
  obtain ⟨s1, h⟩ := h
  with_reducible refine y_rg1 (fun _ hQ => e_cb (a_cons (e_v5 (a_nil (y_lenL  hQ))))) s1 ?_
  refine w_forK D.int (fun (k : (List Int) → Int → (List (Int × (List Int))) → Prop) N => ∀ (nexts : (List Int)) (start : Int) (got : (List (Int × (List Int)))) (o1 o2 o3 : Option S), k nexts start got → N [some (.d ((eW3 D.int D.int (eV D.int)) plan)), some (.d d_rows), some (.d (D.lst (List.map D.int nexts))), some (.d (D.int start)), some (.own none (List.map (eP2 D.int (eT D.int)) got)), some (.d (D.lst (List.map (eP2 D.int (eT D.int)) joined))), o1, o2, none, o3]) ?_ ?_ plan.2.2 1 ([] : List (Int × (List Int))) _ _ _ h <;> clear h
  · intro nexts start got o1 o2 o3 h
    try dsimp only at h
    with_reducible refine w_fz4 (w_ret (e_tup (a_cons (e_c (a_cons (e_v4 (a_nil (And.intro ln2 ?_))))))))
    exact hq0 (("told" : Str), got) h
  · intro k_ k N hn nexts start got o1 o2 o3 h
    try dsimp only at h
    with_reducible refine g_n6 (w_seq (w_as7 ?_))
    obtain ⟨s2, h⟩ := h
    with_reducible refine e_op (e_op (e_v5 (e_v6 (y_ixL s2 (e_c (y_t1 ?_))))))
    refine gen_d7 (eT D.int) h ?_; clear h; intro crew h
    with_reducible refine w_seq ?_
    obtain ⟨s3, h⟩ := h
    with_reducible refine w_ifT (p := (crew.filter fun (i : Int) => decide ((nexts.length : Int) ≤ i)) ≠ ([] : List Int)) (tt_cmp (p := (crew.filter fun (i : Int) => decide ((nexts.length : Int) ≤ i)) ≠ ([] : List Int)) (fun _ hQ => e_op (w_lc_8 (y_it (fun _ hQ => e_v7 hQ) (f := D.int) (xs := crew) hdT (y_lcF (f := D.int) (fun (i : Int) => (nexts.length : Int) ≤ i) s3 (fun i hx_ A Q hq1_ hq2_ => g_n8 ((tt_cmp (p := (nexts.length : Int) ≤ i) (fun _ hQ => e_op (e_v8 (e_cb (a_cons (e_v2 (a_nil (y_lenL  (o_ge hQ))))))))) _ fun b hb => w_ifB hb (fun hp => (e_v8 (hq1_ hp))) hq2_)) (e_lstK (a_nil (y_mk0 (f := D.int)  (y_nedd (f := (eL D.int)) (a := (crew.filter fun (i : Int) => decide ((nexts.length : Int) ≤ i))) (b := ([] : List Int)) y_ok y_ok hQ))))))))) (fun c => ?_) (fun c => ?_)
    · replace h := h.1 c
      with_reducible refine w_ret (e_tup (a_cons (e_c (a_cons (e_c (a_cons (e_v6 (a_cons (e_c (a_cons (e_c (a_nil (And.intro ln5 ?_)))))))))))))
      exact hq1 (("refused" : Str), ("BadBook" : Str), k_, ("driver" : Str), true) h
    · replace h := h.2 c
      with_reducible refine w_next (w_seq ?_)
      with_reducible refine w_ifT (p := (crew.length : Int) ≠ plan.2.1) (tt_cmp (p := (crew.length : Int) ≠ plan.2.1) (fun _ hQ => e_op (e_cb (a_cons (e_v7 (a_nil (y_lenT  (e_op (e_v0 (e_c (y_w1 (o_ne hQ)))))))))))) (fun c => ?_) (fun c => ?_)
      · replace h := h.1 c
        with_reducible refine w_ret (e_tup (a_cons (e_c (a_cons (e_c (a_cons (e_v6 (a_cons (e_c (a_cons (e_c (a_nil (And.intro ln5 ?_)))))))))))))
        exact hq1 (("refused" : Str), ("BadBook" : Str), k_, ("count" : Str), true) h
      · replace h := h.2 c
        with_reducible refine w_next (w_seq ?_)
        obtain ⟨s4, h⟩ := h
        obtain ⟨s6, h⟩ := h
        with_reducible refine w_ifT (p := (crew.filter fun (i2 : Int) => decide ((gi nexts i2) ≠ start)) ≠ ([] : List Int)) (tt_cmp (p := (crew.filter fun (i2 : Int) => decide ((gi nexts i2) ≠ start)) ≠ ([] : List Int)) (fun _ hQ => e_op (w_lc_8 (y_it (fun _ hQ => e_v7 hQ) (f := D.int) (xs := crew) hdT (y_lcF (f := D.int) (fun (i2 : Int) => (gi nexts i2) ≠ start) s4 (fun i2 hx_2 A Q hq1_ hq2_ => g_n8 ((tt_cmp (p := (gi nexts i2) ≠ start) (fun _ hQ => e_op (e_op (e_v2 (e_v8 (y_ixL (s6 i2 hx_2) (e_v3 (o_ne hQ)))))))) _ fun b hb => w_ifB hb (fun hp2 => (e_v8 (hq1_ hp2))) hq2_)) (e_lstK (a_nil (y_mk0 (f := D.int)  (y_nedd (f := (eL D.int)) (a := (crew.filter fun (i2 : Int) => decide ((gi nexts i2) ≠ start))) (b := ([] : List Int)) y_ok y_ok hQ))))))))) (fun c => ?_) (fun c => ?_)
        · replace h := h.1 c
          with_reducible refine w_ret (e_tup (a_cons (e_c (a_cons (e_c (a_cons (e_v6 (a_cons (e_c (a_cons (e_c (a_nil (And.intro ln5 ?_)))))))))))))
          exact hq1 (("refused" : Str), ("BadBook" : Str), k_, ("away" : Str), true) h
        · replace h := h.2 c
          with_reducible refine w_next (w_seq (w_as9 ?_))
          obtain ⟨s7, h⟩ := h
          obtain ⟨s8, h⟩ := h
          with_reducible refine e_call (a_cons (e_v3 (a_cons (e_op (e_v3 (e_op (e_op (e_v5 (e_v6 (y_ixL s7 (e_c (y_t0 (o_add (a_cons (e_op (e_v0 (e_c (y_w0 (a_nil (pf__law_closings_in (start := start) (end_ := (start + ((gi joined k_).1))) (m := plan.1)  s8 ?_))))))))))))))))))))
          refine gen_d9 D.int h ?_; clear h; intro times h
          with_reducible refine w_seqJ (fun (k : (List (Int × (List Int))) → Prop) N => ∀ (got2 : (List (Int × (List Int)))), k got2 → N [some (.d ((eW3 D.int D.int (eV D.int)) plan)), some (.d d_rows), some (.d (D.lst (List.map D.int nexts))), some (.d (D.int start)), some (.own none (List.map (eP2 D.int (eT D.int)) got2)), some (.d (D.lst (List.map (eP2 D.int (eT D.int)) joined))), some (.d (D.int k_)), some (.d (D.tup (List.map D.int crew))), none, some (.d (D.int times))]) h ?_ ?_ <;> clear h
          · intro got2 h
            try dsimp only at h
            with_reducible refine w_seq (w_as2 (e_call (a_cons (e_v2 (a_cons (e_v7 (a_cons ?_)))))))
            obtain ⟨s10, h⟩ := h
            with_reducible refine e_op (e_op (e_v5 (e_v6 (y_ixL s10 (e_c (y_t0 (a_cons (e_v3 (a_cons (e_op (e_v0 (e_c (y_w0 (a_nil ?_))))))))))))))
            refine tr__law_gone (nexts := nexts) (crew := crew) (span := ((gi joined k_).1)) (start := start) (m := plan.1) hdL hdT h ?_ hx; clear h; intro nexts2 h
            with_reducible refine w_as3 ?_
            obtain ⟨s11, h⟩ := h
            with_reducible refine e_op (e_v3 (e_op (e_op (e_v5 (e_v6 (y_ixL s11 (e_c (y_t0 (o_add ?_)))))))))
            refine gen_d3 D.int h ?_; clear h; intro start2 h
            exact hn nexts2 start2 got2 _ _ _ h
          · intro k N hn h
            try dsimp only at h
            obtain ⟨s14, h⟩ := h
            with_reducible refine w_ifT (p := (0 < times ∧ (got ≠ ([] : List (Int × (List Int))) ∧ ((lastD got).2) = crew))) (tt_and (p := 0 < times) (q := (got ≠ ([] : List (Int × (List Int))) ∧ ((lastD got).2) = crew)) (tt_cmp (p := 0 < times) (fun _ hQ => e_op (e_v9 (e_c (o_gt hQ))))) (fun hp4 => (tt_and (p := got ≠ ([] : List (Int × (List Int)))) (q := ((lastD got).2) = crew) (tt_cmp (p := got ≠ ([] : List (Int × (List Int)))) (fun _ hQ => e_op (e_vo4 (e_lstK (a_nil (y_mk0 (f := (eP2 D.int (eT D.int)))  (y_nedd (f := (eL (eP2 D.int (eT D.int)))) (a := got) (b := ([] : List (Int × (List Int)))) y_ok y_ok hQ))))))) (fun hp3 => (tt_cmp (p := ((lastD got).2) = crew) (fun _ hQ => e_op (e_op (e_op (e_vo4 (e_un (e_c (o_neg (y_lastL ((s14 hp4) hp3) (e_c (y_t1 (e_v7 (y_eqd (f := (eT D.int)) (a := ((lastD got).2)) (b := crew) y_ok y_ok hQ))))))))))))))))) (fun c => ?_) (fun c => ?_)
            · replace h := h.1 c
              with_reducible refine w_si4 ?_
              obtain ⟨s15, h⟩ := h
              with_reducible refine e_tup (a_cons (e_op (e_op (e_op (e_vo4 (e_un (e_c (o_neg (y_lastL s15 (e_c (y_t0 (e_v9 (o_add (a_cons (e_v7 (a_nil (And.intro ln2 (e_un (e_c (o_neg ?_))))))))))))))))))))
              obtain ⟨s16, h⟩ := h
              with_reducible refine y_setLast (f := (eP2 D.int (eT D.int))) (xs := got) (y := ((((lastD got).1) + times), crew)) s16 ?_
              exact hn (setLast got ((((lastD got).1) + times), crew)) h
            · replace h := h.2 c
              with_reducible refine w_ifT (p := 0 < times) (tt_cmp (p := 0 < times) (fun _ hQ => e_op (e_v9 (e_c (o_gt hQ))))) (fun c => ?_) (fun c => ?_)
              · replace h := h.1 c
                with_reducible refine w_ap4 (e_tup (a_cons (e_v9 (a_cons (e_v7 (a_nil (And.intro ln2 ?_)))))))
                obtain ⟨s17, h⟩ := h
                with_reducible refine y_app (f := (eP2 D.int (eT D.int))) (xs := got) (y := (times, crew)) s17 ?_
                exact hn (got ++ [(times, crew)]) h
              · replace h := h.2 c
                with_reducible refine w_next ?_
                exact hn got h

theorem tr__law_due'1 {plan : (Int × Int × (List Int))} {rows : (List (Int × (List Int)))} {d_rows : D} {Qt0 : (Str × (List (Int × (List Int)))) → Prop} {Qt1 : (Str × Str × Int × Str × Bool) → Prop} {Xt : Exn → Prop} {P : D → Prop} {P2 : Exn → Prop} (hd_rows : itemsD d_rows = some (List.map (eP2 D.int (eT D.int)) rows)) (h : t__law_due plan rows Qt0 Qt1 Xt) (hq0 : ∀ r, Qt0 r → P ((eP2 D.str (eL (eP2 D.int (eT D.int)))) r)) (hq1 : ∀ r, Qt1 r → P ((eP5 D.str D.str D.int D.str D.bl) r)) (hx : ∀ e, Xt e → P2 e) : w__law_due [((eR3 D.int D.int (eL D.int)) plan), d_rows] P P2 := by
  unfold t__law_due at h
  unfold w__law_due wpB
  show b__law_due _ [some (.d ((eR3 D.int D.int (eL D.int)) plan)), some (.d d_rows), none, none, none, none, none, none, none, none]
  unfold b__law_due
  with_reducible refine w_seq (w_as2 (e_cb (a_cons (e_op (e_v0 (e_c (y_l2 (a_nil (y_list (f := D.int) (xs := plan.2.2) hdL (w_seq (w_as3 (e_c (w_seq (w_ao4 (e_lstK (a_nil (y_mk0 (f := (eP2 D.int (eT D.int)))  (k_ao (w_seq (w_as5 (e_call (a_cons (e_v1 ?_)))))))))))))))))))))))
  with_reducible refine a_nil ?_
  refine tr__law_joined (rows := rows) hd_rows h ?_ hx; clear h; intro joined h
  with_reducible refine w_seq (w_for ?_)
  obtain ⟨s1, h⟩ := h
  with_reducible refine y_rg1 (fun _ hQ => e_cb (a_cons (e_v5 (a_nil (y_lenL  hQ))))) s1 ?_
  refine w_forK D.int (fun (k : (List Int) → Int → (List (Int × (List Int))) → Prop) N => ∀ (nexts : (List Int)) (start : Int) (got : (List (Int × (List Int)))) (o1 o2 o3 : Option S), k nexts start got → N [some (.d ((eR3 D.int D.int (eL D.int)) plan)), some (.d d_rows), some (.d (D.lst (List.map D.int nexts))), some (.d (D.int start)), some (.own none (List.map (eP2 D.int (eT D.int)) got)), some (.d (D.lst (List.map (eP2 D.int (eT D.int)) joined))), o1, o2, none, o3]) ?_ ?_ plan.2.2 1 ([] : List (Int × (List Int))) _ _ _ h <;> clear h
  · intro nexts start got o1 o2 o3 h
    try dsimp only at h
    with_reducible refine w_fz4 (w_ret (e_tup (a_cons (e_c (a_cons (e_v4 (a_nil (And.intro ln2 ?_))))))))
    exact hq0 (("told" : Str), got) h
  · intro k_ k N hn nexts start got o1 o2 o3 h
    try dsimp only at h
    with_reducible refine g_n6 (w_seq (w_as7 ?_))
    obtain ⟨s2, h⟩ := h
    with_reducible refine e_op (e_op (e_v5 (e_v6 (y_ixL s2 (e_c (y_t1 ?_))))))
    refine gen_d7 (eT D.int) h ?_; clear h; intro crew h
    with_reducible refine w_seq ?_
    obtain ⟨s3, h⟩ := h
    with_reducible refine w_ifT (p := (crew.filter fun (i : Int) => decide ((nexts.length : Int) ≤ i)) ≠ ([] : List Int)) (tt_cmp (p := (crew.filter fun (i : Int) => decide ((nexts.length : Int) ≤ i)) ≠ ([] : List Int)) (fun _ hQ => e_op (w_lc_8 (y_it (fun _ hQ => e_v7 hQ) (f := D.int) (xs := crew) hdT (y_lcF (f := D.int) (fun (i : Int) => (nexts.length : Int) ≤ i) s3 (fun i hx_ A Q hq1_ hq2_ => g_n8 ((tt_cmp (p := (nexts.length : Int) ≤ i) (fun _ hQ => e_op (e_v8 (e_cb (a_cons (e_v2 (a_nil (y_lenL  (o_ge hQ))))))))) _ fun b hb => w_ifB hb (fun hp => (e_v8 (hq1_ hp))) hq2_)) (e_lstK (a_nil (y_mk0 (f := D.int)  (y_nedd (f := (eL D.int)) (a := (crew.filter fun (i : Int) => decide ((nexts.length : Int) ≤ i))) (b := ([] : List Int)) y_ok y_ok hQ))))))))) (fun c => ?_) (fun c => ?_)
    · replace h := h.1 c
      with_reducible refine w_ret (e_tup (a_cons (e_c (a_cons (e_c (a_cons (e_v6 (a_cons (e_c (a_cons (e_c (a_nil (And.intro ln5 ?_)))))))))))))
      exact hq1 (("refused" : Str), ("BadBook" : Str), k_, ("driver" : Str), true) h
    · replace h := h.2 c
      with_reducible refine w_next (w_seq ?_)
      with_reducible refine w_ifT (p := (crew.length : Int) ≠ plan.2.1) (tt_cmp (p := (crew.length : Int) ≠ plan.2.1) (fun _ hQ => e_op (e_cb (a_cons (e_v7 (a_nil (y_lenT  (e_op (e_v0 (e_c (y_l1 (o_ne hQ)))))))))))) (fun c => ?_) (fun c => ?_)
      · replace h := h.1 c
        with_reducible refine w_ret (e_tup (a_cons (e_c (a_cons (e_c (a_cons (e_v6 (a_cons (e_c (a_cons (e_c (a_nil (And.intro ln5 ?_)))))))))))))
        exact hq1 (("refused" : Str), ("BadBook" : Str), k_, ("count" : Str), true) h
      · replace h := h.2 c
        with_reducible refine w_next (w_seq ?_)
        obtain ⟨s4, h⟩ := h
        obtain ⟨s6, h⟩ := h
        with_reducible refine w_ifT (p := (crew.filter fun (i2 : Int) => decide ((gi nexts i2) ≠ start)) ≠ ([] : List Int)) (tt_cmp (p := (crew.filter fun (i2 : Int) => decide ((gi nexts i2) ≠ start)) ≠ ([] : List Int)) (fun _ hQ => e_op (w_lc_8 (y_it (fun _ hQ => e_v7 hQ) (f := D.int) (xs := crew) hdT (y_lcF (f := D.int) (fun (i2 : Int) => (gi nexts i2) ≠ start) s4 (fun i2 hx_2 A Q hq1_ hq2_ => g_n8 ((tt_cmp (p := (gi nexts i2) ≠ start) (fun _ hQ => e_op (e_op (e_v2 (e_v8 (y_ixL (s6 i2 hx_2) (e_v3 (o_ne hQ)))))))) _ fun b hb => w_ifB hb (fun hp2 => (e_v8 (hq1_ hp2))) hq2_)) (e_lstK (a_nil (y_mk0 (f := D.int)  (y_nedd (f := (eL D.int)) (a := (crew.filter fun (i2 : Int) => decide ((gi nexts i2) ≠ start))) (b := ([] : List Int)) y_ok y_ok hQ))))))))) (fun c => ?_) (fun c => ?_)
        · replace h := h.1 c
          with_reducible refine w_ret (e_tup (a_cons (e_c (a_cons (e_c (a_cons (e_v6 (a_cons (e_c (a_cons (e_c (a_nil (And.intro ln5 ?_)))))))))))))
          exact hq1 (("refused" : Str), ("BadBook" : Str), k_, ("away" : Str), true) h
        · replace h := h.2 c
          with_reducible refine w_next (w_seq (w_as9 ?_))
          obtain ⟨s7, h⟩ := h
          obtain ⟨s8, h⟩ := h
          with_reducible refine e_call (a_cons (e_v3 (a_cons (e_op (e_v3 (e_op (e_op (e_v5 (e_v6 (y_ixL s7 (e_c (y_t0 (o_add (a_cons (e_op (e_v0 (e_c (y_l0 (a_nil (pf__law_closings_in (start := start) (end_ := (start + ((gi joined k_).1))) (m := plan.1)  s8 ?_))))))))))))))))))))
          refine gen_d9 D.int h ?_; clear h; intro times h
          with_reducible refine w_seqJ (fun (k : (List (Int × (List Int))) → Prop) N => ∀ (got2 : (List (Int × (List Int)))), k got2 → N [some (.d ((eR3 D.int D.int (eL D.int)) plan)), some (.d d_rows), some (.d (D.lst (List.map D.int nexts))), some (.d (D.int start)), some (.own none (List.map (eP2 D.int (eT D.int)) got2)), some (.d (D.lst (List.map (eP2 D.int (eT D.int)) joined))), some (.d (D.int k_)), some (.d (D.tup (List.map D.int crew))), none, some (.d (D.int times))]) h ?_ ?_ <;> clear h
          · intro got2 h
            try dsimp only at h
            with_reducible refine w_seq (w_as2 (e_call (a_cons (e_v2 (a_cons (e_v7 (a_cons ?_)))))))
            obtain ⟨s10, h⟩ := h
            with_reducible refine e_op (e_op (e_v5 (e_v6 (y_ixL s10 (e_c (y_t0 (a_cons (e_v3 (a_cons (e_op (e_v0 (e_c (y_l0 (a_nil ?_))))))))))))))
            refine tr__law_gone (nexts := nexts) (crew := crew) (span := ((gi joined k_).1)) (start := start) (m := plan.1) hdL hdT h ?_ hx; clear h; intro nexts2 h
            with_reducible refine w_as3 ?_
            obtain ⟨s11, h⟩ := h
            with_reducible refine e_op (e_v3 (e_op (e_op (e_v5 (e_v6 (y_ixL s11 (e_c (y_t0 (o_add ?_)))))))))
            refine gen_d3 D.int h ?_; clear h; intro start2 h
            exact hn nexts2 start2 got2 _ _ _ h
          · intro k N hn h
            try dsimp only at h
            obtain ⟨s14, h⟩ := h
            with_reducible refine w_ifT (p := (0 < times ∧ (got ≠ ([] : List (Int × (List Int))) ∧ ((lastD got).2) = crew))) (tt_and (p := 0 < times) (q := (got ≠ ([] : List (Int × (List Int))) ∧ ((lastD got).2) = crew)) (tt_cmp (p := 0 < times) (fun _ hQ => e_op (e_v9 (e_c (o_gt hQ))))) (fun hp4 => (tt_and (p := got ≠ ([] : List (Int × (List Int)))) (q := ((lastD got).2) = crew) (tt_cmp (p := got ≠ ([] : List (Int × (List Int)))) (fun _ hQ => e_op (e_vo4 (e_lstK (a_nil (y_mk0 (f := (eP2 D.int (eT D.int)))  (y_nedd (f := (eL (eP2 D.int (eT D.int)))) (a := got) (b := ([] : List (Int × (List Int)))) y_ok y_ok hQ))))))) (fun hp3 => (tt_cmp (p := ((lastD got).2) = crew) (fun _ hQ => e_op (e_op (e_op (e_vo4 (e_un (e_c (o_neg (y_lastL ((s14 hp4) hp3) (e_c (y_t1 (e_v7 (y_eqd (f := (eT D.int)) (a := ((lastD got).2)) (b := crew) y_ok y_ok hQ))))))))))))))))) (fun c => ?_) (fun c => ?_)
            · replace h := h.1 c
              with_reducible refine w_si4 ?_
              obtain ⟨s15, h⟩ := h
              with_reducible refine e_tup (a_cons (e_op (e_op (e_op (e_vo4 (e_un (e_c (o_neg (y_lastL s15 (e_c (y_t0 (e_v9 (o_add (a_cons (e_v7 (a_nil (And.intro ln2 (e_un (e_c (o_neg ?_))))))))))))))))))))
              obtain ⟨s16, h⟩ := h
              with_reducible refine y_setLast (f := (eP2 D.int (eT D.int))) (xs := got) (y := ((((lastD got).1) + times), crew)) s16 ?_
              exact hn (setLast got ((((lastD got).1) + times), crew)) h
            · replace h := h.2 c
              with_reducible refine w_ifT (p := 0 < times) (tt_cmp (p := 0 < times) (fun _ hQ => e_op (e_v9 (e_c (o_gt hQ))))) (fun c => ?_) (fun c => ?_)
              · replace h := h.1 c
                with_reducible refine w_ap4 (e_tup (a_cons (e_v9 (a_cons (e_v7 (a_nil (And.intro ln2 ?_)))))))
                obtain ⟨s17, h⟩ := h
                with_reducible refine y_app (f := (eP2 D.int (eT D.int))) (xs := got) (y := (times, crew)) s17 ?_
                exact hn (got ++ [(times, crew)]) h
              · replace h := h.2 c
                with_reducible refine w_next ?_
                exact hn got h

def t_law (script : (List Int)) (Q : Bool → Prop) (X : Exn → Prop) : Prop :=
  t__law_case  (fun (case : ((Int × Int × (List Int)) × (List (Int × (List Int))) × (List (Int × (List Int))) × (List (Int × (List Int))))) => t_DepotU_initU case.1.1 case.1.2.1 case.1.2.2 (fun (depot : Dp) => (([case.2.1, case.2.2.1, case.2.2.2] : List (List (Int × (List Int)))).length ≤ szl) ∧ lcK (fun (rows2 : (List (Int × (List Int)))) (k : Option Bk → Prop) => (rows2.length ≤ szl) ∧ t_BookU_initU (List.map (fun (row : (Int × (List Int))) => (row.1, row.2)) rows2) (fun (r53 : Bk) => k (some r53)) (fun _ => False)) (fun (books : List Bk) => forK ([0, 1, 2, 0, 2, 1] : List Int) (fun (k_ : Int) (k : Prop) => ixOk books k_ ∧ t__law_ask depot (gi books k_) (fun (answer2 : (Str × (List (Int × (List Int))))) => (1 ≤ (1 + k_) ∧ ixOk ([case.2.1, case.2.2.1, case.2.2.2] : List (List (Int × (List Int)))) ((1 + k_) - 1)) ∧ t__law_due case.1 (gi ([case.2.1, case.2.2.1, case.2.2.2] : List (List (Int × (List Int)))) ((1 + k_) - 1)) (fun (r48 : (Str × (List (Int × (List Int))))) => sameW ((eP2 D.str (eV (eP2 D.int (eT D.int)))) answer2) ((eP2 D.str (eL (eP2 D.int (eT D.int)))) r48) ∧ PyData.strOk answer2.1 = true ∧ ifP (answer2.1 = ("told" : Str)) ((answer2.2.length < szl) ∧ k) (k)) (fun (r49 : (Str × Str × Int × Str × Bool)) => sameW ((eP2 D.str (eV (eP2 D.int (eT D.int)))) answer2) ((eP5 D.str D.str D.int D.str D.bl) r49) ∧ PyData.strOk answer2.1 = true ∧ ifP (answer2.1 = ("told" : Str)) ((answer2.2.length < szl) ∧ k) (k)) (fun e => noVL e.ds = true ∧ X e)) (fun (answer3 : (Str × Str × Int × Str × Bool)) => (1 ≤ (1 + k_) ∧ ixOk ([case.2.1, case.2.2.1, case.2.2.2] : List (List (Int × (List Int)))) ((1 + k_) - 1)) ∧ t__law_due case.1 (gi ([case.2.1, case.2.2.1, case.2.2.2] : List (List (Int × (List Int)))) ((1 + k_) - 1)) (fun (r51 : (Str × (List (Int × (List Int))))) => sameT ((eP5 D.str D.str D.int D.str D.bl) answer3) ((eP2 D.str (eL (eP2 D.int (eT D.int)))) r51) ∧ PyData.strOk answer3.1 = true ∧ ifP (answer3.1 = ("told" : Str)) (False) (k)) (fun (r52 : (Str × Str × Int × Str × Bool)) => sameT ((eP5 D.str D.str D.int D.str D.bl) answer3) ((eP5 D.str D.str D.int D.str D.bl) r52) ∧ PyData.strOk answer3.1 = true ∧ ifP (answer3.1 = ("told" : Str)) (False) (k)) (fun e => noVL e.ds = true ∧ X e)) (fun e => noVL e.ds = true ∧ X e)) (bnd ((case.1.1 % 8) + 1) (fun (m : Int) => (case.1.2.2.length ≤ szl) ∧ bnd (m, case.1.2.1, (List.map (fun (first : Int) => (mn m first)) case.1.2.2)) (fun (there : (Int × Int × (List Int))) => forK (rg 0 3) (fun (k_2 : Int) (k : Prop) => t_DepotU_initU m case.1.2.1 there.2.2 (fun (r1 : Dp) => ixOk books k_2 ∧ t__law_ask r1 (gi books k_2) (fun (r3 : (Str × (List (Int × (List Int))))) => (1 ≤ (1 + k_2) ∧ ixOk ([case.2.1, case.2.2.1, case.2.2.2] : List (List (Int × (List Int)))) ((1 + k_2) - 1)) ∧ t__law_due there (gi ([case.2.1, case.2.2.1, case.2.2.2] : List (List (Int × (List Int)))) ((1 + k_2) - 1)) (fun (r5 : (Str × (List (Int × (List Int))))) => sameT ((eP2 D.str (eL (eP2 D.int (eT D.int)))) r3) ((eP2 D.str (eL (eP2 D.int (eT D.int)))) r5) ∧ ixOk books k_2 ∧ t__law_ask depot (gi books k_2) (fun (r7 : (Str × (List (Int × (List Int))))) => (1 ≤ (1 + k_2) ∧ ixOk ([case.2.1, case.2.2.1, case.2.2.2] : List (List (Int × (List Int)))) ((1 + k_2) - 1)) ∧ t__law_due case.1 (gi ([case.2.1, case.2.2.1, case.2.2.2] : List (List (Int × (List Int)))) ((1 + k_2) - 1)) (fun (r9 : (Str × (List (Int × (List Int))))) => sameT ((eP2 D.str (eL (eP2 D.int (eT D.int)))) r7) ((eP2 D.str (eL (eP2 D.int (eT D.int)))) r9) ∧ k) (fun (r10 : (Str × Str × Int × Str × Bool)) => sameT ((eP2 D.str (eL (eP2 D.int (eT D.int)))) r7) ((eP5 D.str D.str D.int D.str D.bl) r10) ∧ k) X) (fun (r11 : (Str × Str × Int × Str × Bool)) => (1 ≤ (1 + k_2) ∧ ixOk ([case.2.1, case.2.2.1, case.2.2.2] : List (List (Int × (List Int)))) ((1 + k_2) - 1)) ∧ t__law_due case.1 (gi ([case.2.1, case.2.2.1, case.2.2.2] : List (List (Int × (List Int)))) ((1 + k_2) - 1)) (fun (r13 : (Str × (List (Int × (List Int))))) => sameT ((eP5 D.str D.str D.int D.str D.bl) r11) ((eP2 D.str (eL (eP2 D.int (eT D.int)))) r13) ∧ k) (fun (r14 : (Str × Str × Int × Str × Bool)) => sameT ((eP5 D.str D.str D.int D.str D.bl) r11) ((eP5 D.str D.str D.int D.str D.bl) r14) ∧ k) X) X) (fun (r15 : (Str × Str × Int × Str × Bool)) => sameT ((eP2 D.str (eL (eP2 D.int (eT D.int)))) r3) ((eP5 D.str D.str D.int D.str D.bl) r15) ∧ ixOk books k_2 ∧ t__law_ask depot (gi books k_2) (fun (r17 : (Str × (List (Int × (List Int))))) => (1 ≤ (1 + k_2) ∧ ixOk ([case.2.1, case.2.2.1, case.2.2.2] : List (List (Int × (List Int)))) ((1 + k_2) - 1)) ∧ t__law_due case.1 (gi ([case.2.1, case.2.2.1, case.2.2.2] : List (List (Int × (List Int)))) ((1 + k_2) - 1)) (fun (r19 : (Str × (List (Int × (List Int))))) => sameT ((eP2 D.str (eL (eP2 D.int (eT D.int)))) r17) ((eP2 D.str (eL (eP2 D.int (eT D.int)))) r19) ∧ k) (fun (r20 : (Str × Str × Int × Str × Bool)) => sameT ((eP2 D.str (eL (eP2 D.int (eT D.int)))) r17) ((eP5 D.str D.str D.int D.str D.bl) r20) ∧ k) X) (fun (r21 : (Str × Str × Int × Str × Bool)) => (1 ≤ (1 + k_2) ∧ ixOk ([case.2.1, case.2.2.1, case.2.2.2] : List (List (Int × (List Int)))) ((1 + k_2) - 1)) ∧ t__law_due case.1 (gi ([case.2.1, case.2.2.1, case.2.2.2] : List (List (Int × (List Int)))) ((1 + k_2) - 1)) (fun (r23 : (Str × (List (Int × (List Int))))) => sameT ((eP5 D.str D.str D.int D.str D.bl) r21) ((eP2 D.str (eL (eP2 D.int (eT D.int)))) r23) ∧ k) (fun (r24 : (Str × Str × Int × Str × Bool)) => sameT ((eP5 D.str D.str D.int D.str D.bl) r21) ((eP5 D.str D.str D.int D.str D.bl) r24) ∧ k) X) X) X) (fun (r25 : (Str × Str × Int × Str × Bool)) => (1 ≤ (1 + k_2) ∧ ixOk ([case.2.1, case.2.2.1, case.2.2.2] : List (List (Int × (List Int)))) ((1 + k_2) - 1)) ∧ t__law_due there (gi ([case.2.1, case.2.2.1, case.2.2.2] : List (List (Int × (List Int)))) ((1 + k_2) - 1)) (fun (r27 : (Str × (List (Int × (List Int))))) => sameT ((eP5 D.str D.str D.int D.str D.bl) r25) ((eP2 D.str (eL (eP2 D.int (eT D.int)))) r27) ∧ ixOk books k_2 ∧ t__law_ask depot (gi books k_2) (fun (r29 : (Str × (List (Int × (List Int))))) => (1 ≤ (1 + k_2) ∧ ixOk ([case.2.1, case.2.2.1, case.2.2.2] : List (List (Int × (List Int)))) ((1 + k_2) - 1)) ∧ t__law_due case.1 (gi ([case.2.1, case.2.2.1, case.2.2.2] : List (List (Int × (List Int)))) ((1 + k_2) - 1)) (fun (r31 : (Str × (List (Int × (List Int))))) => sameT ((eP2 D.str (eL (eP2 D.int (eT D.int)))) r29) ((eP2 D.str (eL (eP2 D.int (eT D.int)))) r31) ∧ k) (fun (r32 : (Str × Str × Int × Str × Bool)) => sameT ((eP2 D.str (eL (eP2 D.int (eT D.int)))) r29) ((eP5 D.str D.str D.int D.str D.bl) r32) ∧ k) X) (fun (r33 : (Str × Str × Int × Str × Bool)) => (1 ≤ (1 + k_2) ∧ ixOk ([case.2.1, case.2.2.1, case.2.2.2] : List (List (Int × (List Int)))) ((1 + k_2) - 1)) ∧ t__law_due case.1 (gi ([case.2.1, case.2.2.1, case.2.2.2] : List (List (Int × (List Int)))) ((1 + k_2) - 1)) (fun (r35 : (Str × (List (Int × (List Int))))) => sameT ((eP5 D.str D.str D.int D.str D.bl) r33) ((eP2 D.str (eL (eP2 D.int (eT D.int)))) r35) ∧ k) (fun (r36 : (Str × Str × Int × Str × Bool)) => sameT ((eP5 D.str D.str D.int D.str D.bl) r33) ((eP5 D.str D.str D.int D.str D.bl) r36) ∧ k) X) X) (fun (r37 : (Str × Str × Int × Str × Bool)) => sameT ((eP5 D.str D.str D.int D.str D.bl) r25) ((eP5 D.str D.str D.int D.str D.bl) r37) ∧ ixOk books k_2 ∧ t__law_ask depot (gi books k_2) (fun (r39 : (Str × (List (Int × (List Int))))) => (1 ≤ (1 + k_2) ∧ ixOk ([case.2.1, case.2.2.1, case.2.2.2] : List (List (Int × (List Int)))) ((1 + k_2) - 1)) ∧ t__law_due case.1 (gi ([case.2.1, case.2.2.1, case.2.2.2] : List (List (Int × (List Int)))) ((1 + k_2) - 1)) (fun (r41 : (Str × (List (Int × (List Int))))) => sameT ((eP2 D.str (eL (eP2 D.int (eT D.int)))) r39) ((eP2 D.str (eL (eP2 D.int (eT D.int)))) r41) ∧ k) (fun (r42 : (Str × Str × Int × Str × Bool)) => sameT ((eP2 D.str (eL (eP2 D.int (eT D.int)))) r39) ((eP5 D.str D.str D.int D.str D.bl) r42) ∧ k) X) (fun (r43 : (Str × Str × Int × Str × Bool)) => (1 ≤ (1 + k_2) ∧ ixOk ([case.2.1, case.2.2.1, case.2.2.2] : List (List (Int × (List Int)))) ((1 + k_2) - 1)) ∧ t__law_due case.1 (gi ([case.2.1, case.2.2.1, case.2.2.2] : List (List (Int × (List Int)))) ((1 + k_2) - 1)) (fun (r45 : (Str × (List (Int × (List Int))))) => sameT ((eP5 D.str D.str D.int D.str D.bl) r43) ((eP2 D.str (eL (eP2 D.int (eT D.int)))) r45) ∧ k) (fun (r46 : (Str × Str × Int × Str × Bool)) => sameT ((eP5 D.str D.str D.int D.str D.bl) r43) ((eP5 D.str D.str D.int D.str D.bl) r46) ∧ k) X) X) X) X) X) (Q true))))) ([case.2.1, case.2.2.1, case.2.2.2] : List (List (Int × (List Int)))) []) X) X

theorem tr_law {script : (List Int)}  {Qt : Bool → Prop} {Xt : Exn → Prop} {P : D → Prop} {P2 : Exn → Prop}  (hscript : script.length ≤ 63) (h : t_law script Qt Xt) (hq : ∀ r, Qt r → P (D.bl r)) (hx : ∀ e, Xt e → P2 e) : w_law [(D.script script)] P P2 := by
  unfold t_law at h
  unfold w_law wpB
  show b_law _ [some (.d (D.script script)), none, none, none, none, none, none, none, none, none, none, none, none]
  unfold b_law
  with_reducible refine w_seq (w_as1 (e_call (a_cons (e_call (a_cons (e_v0 (a_nil ?_)))))))
  refine fnew hscript ?_
  with_reducible refine a_nil ?_
  refine tr__law_case   h ?_ hx; clear h; intro case h
  with_reducible refine w_seq (w_as2 (e_op (e_v1 (e_c (y_l0 (w_seq (w_as3 (e_make (a_cons (e_op (e_v2 (e_c (y_l0 (a_cons (e_op (e_v2 (e_c (y_l1 (a_cons (e_cb (a_cons (e_op (e_v2 (e_c (y_l2 (a_nil (y_list (f := D.int) (xs := case.1.2.2) hdL (a_nil ?_))))))))))))))))))))))))))))
  refine tr_DepotU_initU (period := case.1.1) (quota := case.1.2.1) (firsts := case.1.2.2) hdL h ?_ hx; clear h; intro depot h
  with_reducible refine w_seq (w_as4 (w_lc_6 (y_it (fun _ hQ => e_sl (e_v1 (e_part (e_c (k_intO (e_no (y_slRl (es := List.map (eL (eP2 D.int (eT D.int))) ([case.2.1, case.2.2.1, case.2.2.2] : List (List (Int × (List Int))))) (by decide) rfl hQ))))))) (f := (eL (eP2 D.int (eT D.int)))) (xs := ([case.2.1, case.2.2.1, case.2.2.2] : List (List (Int × (List Int))))) hdL ?_)))
  obtain ⟨s3, h⟩ := h
  refine y_lcK (f := (eL (eP2 D.int (eT D.int)))) (g := eBk) s3 h ?_ ?_ <;> clear h
  · intro books h
    with_reducible refine w_seq (w_for (y_it (fun _ hQ => e_lstK (a_cons (e_c (a_cons (e_c (a_cons (e_c (a_cons (e_c (a_cons (e_c (a_cons (e_c (a_nil (y_mk6 (f := D.int) (a0 := 0) (a1 := 1) (a2 := 2) (a3 := 0) (a4 := 2) (a5 := 1) hQ))))))))))))))) (f := D.int) (xs := ([0, 1, 2, 0, 2, 1] : List Int)) hdL ?_))
    refine w_forK D.int (fun (k : Prop) N => ∀ (o1 o2 o3 : Option S), k → N [some (.d (D.script script)), some (.d ((eR4 (eR3 D.int D.int (eL D.int)) (eL (eP2 D.int (eT D.int))) (eL (eP2 D.int (eT D.int))) (eL (eP2 D.int (eT D.int)))) case)), some (.d ((eR3 D.int D.int (eL D.int)) case.1)), some (.d (eDp depot)), some (.d (D.lst (List.map eBk books))), none, none, o1, o2, o3, none, none, none]) ?_ ?_  _ _ _ h <;> clear h
    · intro o1 o2 o3 h
      try dsimp only at h
      with_reducible refine w_seq (w_as10 ?_)
      have s4 : 0 < (8 : Int) := by decide
      with_reducible refine e_op (e_op (e_cb (a_cons (e_op (e_v2 (e_c (y_l0 (a_nil (o_int (e_c (y_mod s4 (e_c (o_add ?_)))))))))))))
      refine gen_d10 D.int h ?_; clear h; intro m h
      with_reducible refine w_seq (w_as11 ?_)
      obtain ⟨s5, h⟩ := h
      with_reducible refine e_lstK (a_cons (e_v10 (a_cons (e_op (e_v2 (e_c (y_l1 (a_cons (w_lc_12 (y_it (fun _ hQ => e_op (e_v2 (e_c (y_l2 hQ)))) (f := D.int) (xs := case.1.2.2) hdL (y_lcM (f := D.int) (g := D.int) (fun (first : Int) => (mn m first)) s5 (fun first hx_2 _ hQ => g_n12 (e_cb (a_cons (e_v10 (a_cons (e_v12 (a_nil (y_min hQ)))))))) (a_nil (k_lst ln3 ?_)))))))))))))
      refine gen_d11 (eR3 D.int D.int (eL D.int)) h ?_; clear h; intro there h
      with_reducible refine w_seq (w_for ?_)
      have s6 : b62 3 := ⟨by decide, by decide⟩
      with_reducible refine y_rg1 (fun _ hQ => e_c hQ) s6 ?_
      refine w_forK D.int (fun (k : Prop) N => ∀ (o4 : Option S), k → N [some (.d (D.script script)), some (.d ((eR4 (eR3 D.int D.int (eL D.int)) (eL (eP2 D.int (eT D.int))) (eL (eP2 D.int (eT D.int))) (eL (eP2 D.int (eT D.int)))) case)), some (.d ((eR3 D.int D.int (eL D.int)) case.1)), some (.d (eDp depot)), some (.d (D.lst (List.map eBk books))), none, none, o4, o2, o3, some (.d (D.int m)), some (.d ((eR3 D.int D.int (eL D.int)) there)), none]) ?_ ?_  _ h <;> clear h
      · intro o4 h
        try dsimp only at h
        with_reducible refine w_ret (e_c ?_)
        exact hq true h
      · intro k_2 k N hn o4 h
        try dsimp only at h
        with_reducible refine g_n7 (w_seq (w_if (t_not (t_truK (e_call (a_cons (e_call (a_cons (e_make (a_cons (e_v10 (a_cons (e_op (e_v2 (e_c (y_l1 (a_cons ?_)))))))))))))))))
        with_reducible refine e_cb (a_cons (e_op (e_v11 (e_c (y_l2 (a_nil (y_list (f := D.int) (xs := there.2.2) hdL (a_nil ?_))))))))
        refine tr_DepotU_initU (period := m) (quota := case.1.2.1) (firsts := there.2.2) hdL h ?_ hx; clear h; intro r1 h
        with_reducible refine a_cons ?_
        obtain ⟨s7, h⟩ := h
        with_reducible refine e_op (e_v4 (e_v7 (y_ixL s7 (a_nil ?_))))
        refine tr__law_ask (depot := r1) (book := (gi books k_2))  h ?_ ?_ hx <;> clear h
        · intro r3 h
          with_reducible refine a_cons (e_call (a_cons (e_v11 (a_cons ?_))))
          obtain ⟨s9, h⟩ := h
          with_reducible refine e_op (e_v1 (e_op (e_c (e_v7 (o_add (y_ixRl (f := (eL (eP2 D.int (eT D.int)))) (d0 := ((eR3 D.int D.int (eL D.int)) case.1)) (xs := ([case.2.1, case.2.2.1, case.2.2.2] : List (List (Int × (List Int))))) s9 rfl (a_nil ?_)))))))
          refine tr__law_due'1 (plan := there) (rows := (gi ([case.2.1, case.2.2.1, case.2.2.2] : List (List (Int × (List Int)))) ((1 + k_2) - 1))) hdL h ?_ ?_ hx <;> clear h
          · intro r5 h
            with_reducible refine a_nil ?_
            obtain ⟨s10, h⟩ := h
            refine tr_same s10 ?_
            with_reducible refine k_truB (w_ntt (w_next (w_if (t_not (t_truK (e_call (a_cons (e_call (a_cons (e_v3 (a_cons ?_)))))))))))
            obtain ⟨s16, h⟩ := h
            with_reducible refine e_op (e_v4 (e_v7 (y_ixL s16 (a_nil ?_))))
            refine tr__law_ask (depot := depot) (book := (gi books k_2))  h ?_ ?_ hx <;> clear h
            · intro r7 h
              with_reducible refine a_cons (e_call (a_cons (e_v2 (a_cons ?_))))
              obtain ⟨s18, h⟩ := h
              with_reducible refine e_op (e_v1 (e_op (e_c (e_v7 (o_add (y_ixRl (f := (eL (eP2 D.int (eT D.int)))) (d0 := ((eR3 D.int D.int (eL D.int)) case.1)) (xs := ([case.2.1, case.2.2.1, case.2.2.2] : List (List (Int × (List Int))))) s18 rfl (a_nil ?_)))))))
              refine tr__law_due'1 (plan := case.1) (rows := (gi ([case.2.1, case.2.2.1, case.2.2.2] : List (List (Int × (List Int)))) ((1 + k_2) - 1))) hdL h ?_ ?_ hx <;> clear h
              · intro r9 h
                with_reducible refine a_nil ?_
                obtain ⟨s19, h⟩ := h
                refine tr_same s19 ?_
                with_reducible refine k_truB (w_ntt (w_next ?_))
                exact hn _ h
              · intro r10 h
                with_reducible refine a_nil ?_
                obtain ⟨s20, h⟩ := h
                refine tr_same s20 ?_
                with_reducible refine k_truB (w_ntt (w_next ?_))
                exact hn _ h
            · intro r11 h
              with_reducible refine a_cons (e_call (a_cons (e_v2 (a_cons ?_))))
              obtain ⟨s22, h⟩ := h
              with_reducible refine e_op (e_v1 (e_op (e_c (e_v7 (o_add (y_ixRl (f := (eL (eP2 D.int (eT D.int)))) (d0 := ((eR3 D.int D.int (eL D.int)) case.1)) (xs := ([case.2.1, case.2.2.1, case.2.2.2] : List (List (Int × (List Int))))) s22 rfl (a_nil ?_)))))))
              refine tr__law_due'1 (plan := case.1) (rows := (gi ([case.2.1, case.2.2.1, case.2.2.2] : List (List (Int × (List Int)))) ((1 + k_2) - 1))) hdL h ?_ ?_ hx <;> clear h
              · intro r13 h
                with_reducible refine a_nil ?_
                obtain ⟨s23, h⟩ := h
                refine tr_same s23 ?_
                with_reducible refine k_truB (w_ntt (w_next ?_))
                exact hn _ h
              · intro r14 h
                with_reducible refine a_nil ?_
                obtain ⟨s24, h⟩ := h
                refine tr_same s24 ?_
                with_reducible refine k_truB (w_ntt (w_next ?_))
                exact hn _ h
          · intro r15 h
            with_reducible refine a_nil ?_
            obtain ⟨s25, h⟩ := h
            refine tr_same s25 ?_
            with_reducible refine k_truB (w_ntt (w_next (w_if (t_not (t_truK (e_call (a_cons (e_call (a_cons (e_v3 (a_cons ?_)))))))))))
            obtain ⟨s31, h⟩ := h
            with_reducible refine e_op (e_v4 (e_v7 (y_ixL s31 (a_nil ?_))))
            refine tr__law_ask (depot := depot) (book := (gi books k_2))  h ?_ ?_ hx <;> clear h
            · intro r17 h
              with_reducible refine a_cons (e_call (a_cons (e_v2 (a_cons ?_))))
              obtain ⟨s33, h⟩ := h
              with_reducible refine e_op (e_v1 (e_op (e_c (e_v7 (o_add (y_ixRl (f := (eL (eP2 D.int (eT D.int)))) (d0 := ((eR3 D.int D.int (eL D.int)) case.1)) (xs := ([case.2.1, case.2.2.1, case.2.2.2] : List (List (Int × (List Int))))) s33 rfl (a_nil ?_)))))))
              refine tr__law_due'1 (plan := case.1) (rows := (gi ([case.2.1, case.2.2.1, case.2.2.2] : List (List (Int × (List Int)))) ((1 + k_2) - 1))) hdL h ?_ ?_ hx <;> clear h
              · intro r19 h
                with_reducible refine a_nil ?_
                obtain ⟨s34, h⟩ := h
                refine tr_same s34 ?_
                with_reducible refine k_truB (w_ntt (w_next ?_))
                exact hn _ h
              · intro r20 h
                with_reducible refine a_nil ?_
                obtain ⟨s35, h⟩ := h
                refine tr_same s35 ?_
                with_reducible refine k_truB (w_ntt (w_next ?_))
                exact hn _ h
            · intro r21 h
              with_reducible refine a_cons (e_call (a_cons (e_v2 (a_cons ?_))))
              obtain ⟨s37, h⟩ := h
              with_reducible refine e_op (e_v1 (e_op (e_c (e_v7 (o_add (y_ixRl (f := (eL (eP2 D.int (eT D.int)))) (d0 := ((eR3 D.int D.int (eL D.int)) case.1)) (xs := ([case.2.1, case.2.2.1, case.2.2.2] : List (List (Int × (List Int))))) s37 rfl (a_nil ?_)))))))
              refine tr__law_due'1 (plan := case.1) (rows := (gi ([case.2.1, case.2.2.1, case.2.2.2] : List (List (Int × (List Int)))) ((1 + k_2) - 1))) hdL h ?_ ?_ hx <;> clear h
              · intro r23 h
                with_reducible refine a_nil ?_
                obtain ⟨s38, h⟩ := h
                refine tr_same s38 ?_
                with_reducible refine k_truB (w_ntt (w_next ?_))
                exact hn _ h
              · intro r24 h
                with_reducible refine a_nil ?_
                obtain ⟨s39, h⟩ := h
                refine tr_same s39 ?_
                with_reducible refine k_truB (w_ntt (w_next ?_))
                exact hn _ h
        · intro r25 h
          with_reducible refine a_cons (e_call (a_cons (e_v11 (a_cons ?_))))
          obtain ⟨s41, h⟩ := h
          with_reducible refine e_op (e_v1 (e_op (e_c (e_v7 (o_add (y_ixRl (f := (eL (eP2 D.int (eT D.int)))) (d0 := ((eR3 D.int D.int (eL D.int)) case.1)) (xs := ([case.2.1, case.2.2.1, case.2.2.2] : List (List (Int × (List Int))))) s41 rfl (a_nil ?_)))))))
          refine tr__law_due'1 (plan := there) (rows := (gi ([case.2.1, case.2.2.1, case.2.2.2] : List (List (Int × (List Int)))) ((1 + k_2) - 1))) hdL h ?_ ?_ hx <;> clear h
          · intro r27 h
            with_reducible refine a_nil ?_
            obtain ⟨s42, h⟩ := h
            refine tr_same s42 ?_
            with_reducible refine k_truB (w_ntt (w_next (w_if (t_not (t_truK (e_call (a_cons (e_call (a_cons (e_v3 (a_cons ?_)))))))))))
            obtain ⟨s48, h⟩ := h
            with_reducible refine e_op (e_v4 (e_v7 (y_ixL s48 (a_nil ?_))))
            refine tr__law_ask (depot := depot) (book := (gi books k_2))  h ?_ ?_ hx <;> clear h
            · intro r29 h
              with_reducible refine a_cons (e_call (a_cons (e_v2 (a_cons ?_))))
              obtain ⟨s50, h⟩ := h
              with_reducible refine e_op (e_v1 (e_op (e_c (e_v7 (o_add (y_ixRl (f := (eL (eP2 D.int (eT D.int)))) (d0 := ((eR3 D.int D.int (eL D.int)) case.1)) (xs := ([case.2.1, case.2.2.1, case.2.2.2] : List (List (Int × (List Int))))) s50 rfl (a_nil ?_)))))))
              refine tr__law_due'1 (plan := case.1) (rows := (gi ([case.2.1, case.2.2.1, case.2.2.2] : List (List (Int × (List Int)))) ((1 + k_2) - 1))) hdL h ?_ ?_ hx <;> clear h
              · intro r31 h
                with_reducible refine a_nil ?_
                obtain ⟨s51, h⟩ := h
                refine tr_same s51 ?_
                with_reducible refine k_truB (w_ntt (w_next ?_))
                exact hn _ h
              · intro r32 h
                with_reducible refine a_nil ?_
                obtain ⟨s52, h⟩ := h
                refine tr_same s52 ?_
                with_reducible refine k_truB (w_ntt (w_next ?_))
                exact hn _ h
            · intro r33 h
              with_reducible refine a_cons (e_call (a_cons (e_v2 (a_cons ?_))))
              obtain ⟨s54, h⟩ := h
              with_reducible refine e_op (e_v1 (e_op (e_c (e_v7 (o_add (y_ixRl (f := (eL (eP2 D.int (eT D.int)))) (d0 := ((eR3 D.int D.int (eL D.int)) case.1)) (xs := ([case.2.1, case.2.2.1, case.2.2.2] : List (List (Int × (List Int))))) s54 rfl (a_nil ?_)))))))
              refine tr__law_due'1 (plan := case.1) (rows := (gi ([case.2.1, case.2.2.1, case.2.2.2] : List (List (Int × (List Int)))) ((1 + k_2) - 1))) hdL h ?_ ?_ hx <;> clear h
              · intro r35 h
                with_reducible refine a_nil ?_
                obtain ⟨s55, h⟩ := h
                refine tr_same s55 ?_
                with_reducible refine k_truB (w_ntt (w_next ?_))
                exact hn _ h
              · intro r36 h
                with_reducible refine a_nil ?_
                obtain ⟨s56, h⟩ := h
                refine tr_same s56 ?_
                with_reducible refine k_truB (w_ntt (w_next ?_))
                exact hn _ h
          · intro r37 h
            with_reducible refine a_nil ?_
            obtain ⟨s57, h⟩ := h
            refine tr_same s57 ?_
            with_reducible refine k_truB (w_ntt (w_next (w_if (t_not (t_truK (e_call (a_cons (e_call (a_cons (e_v3 (a_cons ?_)))))))))))
            obtain ⟨s63, h⟩ := h
            with_reducible refine e_op (e_v4 (e_v7 (y_ixL s63 (a_nil ?_))))
            refine tr__law_ask (depot := depot) (book := (gi books k_2))  h ?_ ?_ hx <;> clear h
            · intro r39 h
              with_reducible refine a_cons (e_call (a_cons (e_v2 (a_cons ?_))))
              obtain ⟨s65, h⟩ := h
              with_reducible refine e_op (e_v1 (e_op (e_c (e_v7 (o_add (y_ixRl (f := (eL (eP2 D.int (eT D.int)))) (d0 := ((eR3 D.int D.int (eL D.int)) case.1)) (xs := ([case.2.1, case.2.2.1, case.2.2.2] : List (List (Int × (List Int))))) s65 rfl (a_nil ?_)))))))
              refine tr__law_due'1 (plan := case.1) (rows := (gi ([case.2.1, case.2.2.1, case.2.2.2] : List (List (Int × (List Int)))) ((1 + k_2) - 1))) hdL h ?_ ?_ hx <;> clear h
              · intro r41 h
                with_reducible refine a_nil ?_
                obtain ⟨s66, h⟩ := h
                refine tr_same s66 ?_
                with_reducible refine k_truB (w_ntt (w_next ?_))
                exact hn _ h
              · intro r42 h
                with_reducible refine a_nil ?_
                obtain ⟨s67, h⟩ := h
                refine tr_same s67 ?_
                with_reducible refine k_truB (w_ntt (w_next ?_))
                exact hn _ h
            · intro r43 h
              with_reducible refine a_cons (e_call (a_cons (e_v2 (a_cons ?_))))
              obtain ⟨s69, h⟩ := h
              with_reducible refine e_op (e_v1 (e_op (e_c (e_v7 (o_add (y_ixRl (f := (eL (eP2 D.int (eT D.int)))) (d0 := ((eR3 D.int D.int (eL D.int)) case.1)) (xs := ([case.2.1, case.2.2.1, case.2.2.2] : List (List (Int × (List Int))))) s69 rfl (a_nil ?_)))))))
              refine tr__law_due'1 (plan := case.1) (rows := (gi ([case.2.1, case.2.2.1, case.2.2.2] : List (List (Int × (List Int)))) ((1 + k_2) - 1))) hdL h ?_ ?_ hx <;> clear h
              · intro r45 h
                with_reducible refine a_nil ?_
                obtain ⟨s70, h⟩ := h
                refine tr_same s70 ?_
                with_reducible refine k_truB (w_ntt (w_next ?_))
                exact hn _ h
              · intro r46 h
                with_reducible refine a_nil ?_
                obtain ⟨s71, h⟩ := h
                refine tr_same s71 ?_
                with_reducible refine k_truB (w_ntt (w_next ?_))
                exact hn _ h
    · intro k_ k N hn o1 o2 o3 h
      try dsimp only at h
      with_reducible refine g_n7 (w_seq (w_asT (vd_f (vd_f (vd_f (vd_d (d' := (eDp depot)) (vq (f := eDp) depot) (vd_d (d' := (D.vw (List.map eBk books))) (vq_lst (vql_map (f := eBk) books)) (vd_f (vd_f (vd_d (d' := (D.int k_)) rfl (vd_f (vd_f (vd_f (vd_f (vd_f vd_e))))))))))))) (e_call (a_cons (e_v3 (a_cons ?_))))))
      obtain ⟨s73, h⟩ := h
      with_reducible refine e_op (e_v4 (e_v7 (y_ixV s73 (a_nil ?_))))
      refine tr__law_ask (depot := depot) (book := (gi books k_))  h ?_ ?_ (fun e h => And.intro h.1 (hx e h.2)) <;> clear h
      · intro answer2 h
        with_reducible refine And.intro (nv (f := (eP2 D.str (eL (eP2 D.int (eT D.int))))) answer2) ?_
        intro T
        refine set_lit (δ' := [some (.d (D.script script)), some (.d ((eR4 (eR3 D.int D.int (eL D.int)) (eL (eP2 D.int (eT D.int))) (eL (eP2 D.int (eT D.int))) (eL (eP2 D.int (eT D.int)))) case)), some (.d ((eR3 D.int D.int (eL D.int)) case.1)), some (.d (eDp depot)), some (.d (D.lst (List.map eBk books))), none, none, some (.d (D.int k_)), some (.tree T ((eP2 D.str (eL (eP2 D.int (eT D.int)))) answer2)), o3, none, none, none]) rfl ?_
        with_reducible refine w_seq (w_if (tt_vwE (vd_f (vd_d (d' := ((eW4 (eW3 D.int D.int (eV D.int)) (eV (eP2 D.int (eT D.int))) (eV (eP2 D.int (eT D.int))) (eV (eP2 D.int (eT D.int)))) case)) (vq (f := (eR4 (eR3 D.int D.int (eL D.int)) (eL (eP2 D.int (eT D.int))) (eL (eP2 D.int (eT D.int))) (eL (eP2 D.int (eT D.int))))) case) (vd_d (d' := ((eW3 D.int D.int (eV D.int)) case.1)) (vq (f := (eR3 D.int D.int (eL D.int))) case.1) (vd_f (vd_f (vd_f (vd_f (vd_d (d' := (D.int k_)) rfl (vd_t (d' := ((eP2 D.str (eV (eP2 D.int (eT D.int)))) answer2)) (vq (f := (eP2 D.str (eL (eP2 D.int (eT D.int))))) answer2) (vd_f (vd_f (vd_f (vd_f vd_e))))))))))))) (t_not (t_truK (e_call (a_cons (e_v8 (a_cons (e_call (a_cons (e_v2 (a_cons ?_))))))))))))
        obtain ⟨s80, h⟩ := h
        with_reducible refine e_op (e_v1 (e_op (e_c (e_v7 (o_add (y_ixRw (f := (eV (eP2 D.int (eT D.int)))) (d0 := ((eW3 D.int D.int (eV D.int)) case.1)) (xs := ([case.2.1, case.2.2.1, case.2.2.2] : List (List (Int × (List Int))))) s80 rfl (a_nil ?_)))))))
        refine tr__law_due (plan := case.1) (rows := (gi ([case.2.1, case.2.2.1, case.2.2.2] : List (List (Int × (List Int)))) ((1 + k_) - 1))) hdV h ?_ ?_ (fun e h => And.intro h.1 (hx e h.2)) <;> clear h
        · intro r48 h
          with_reducible refine a_nil ?_
          obtain ⟨s81, h⟩ := h
          refine tr_sameW s81 ?_
          with_reducible refine k_truB (w_ntt (w_next ?_))
          obtain ⟨s82, h⟩ := h
          have s83 : PyData.strOk ("told" : Str) = true := by decide +kernel
          with_reducible refine w_ifT (p := answer2.1 = ("told" : Str)) (t_vw (vd_f (vd_f (vd_f (vd_f (vd_f (vd_f (vd_f (vd_f (vd_t (d' := ((eP2 D.str (eV (eP2 D.int (eT D.int)))) answer2)) (vq (f := (eP2 D.str (eL (eP2 D.int (eT D.int))))) answer2) (vd_f (vd_f (vd_f (vd_f vd_e))))))))))))) (tt_cmp (p := answer2.1 = ("told" : Str)) (fun _ hQ => e_op (e_op (e_v8 (e_c (y_t0 (e_c (o_eqS s82 s83 hQ))))))))) (fun c => ?_) (fun c => ?_)
          · replace h := h.1 c
            with_reducible refine w_seq ?_
            refine w_mvT (T := T) (d := ((eP2 D.str (eL (eP2 D.int (eT D.int)))) answer2)) rfl ?_
            with_reducible refine tr_i (tr_v (e_c (k_tt1 (k_mv (noLL_map (f := (eP2 D.int (eT D.int))) answer2.2) ?_))))
            refine set_lit (δ' := [some (.d (D.script script)), some (.d ((eR4 (eR3 D.int D.int (eL D.int)) (eL (eP2 D.int (eT D.int))) (eL (eP2 D.int (eT D.int))) (eL (eP2 D.int (eT D.int)))) case)), some (.d ((eR3 D.int D.int (eL D.int)) case.1)), some (.d (eDp depot)), some (.d (D.lst (List.map eBk books))), none, none, some (.d (D.int k_)), none, some (.own none (List.map (eP2 D.int (eT D.int)) answer2.2)), none, none, none]) rfl ?_
            with_reducible refine w_seq (w_ap9 (e_tup (a_cons (e_c (a_cons (e_tup (a_nil (And.intro ln0 (a_nil (And.intro ln2 ?_))))))))))
            obtain ⟨s84, h⟩ := h
            with_reducible refine y_appE (f := (eP2 D.int (eT D.int))) (xs := answer2.2) (y := (0, [])) s84 rfl ?_
            with_reducible refine w_mu9 (F := fun ds => some ds.reverse) (y_rev (f := (eP2 D.int (eT D.int))) (xs := (answer2.2 ++ [(0, [])]))) ?_
            exact hn _ _ _ h
          · replace h := h.2 c
            with_reducible refine w_next ?_
            exact hn _ _ _ h
        · intro r49 h
          with_reducible refine a_nil ?_
          obtain ⟨s85, h⟩ := h
          refine tr_sameW s85 ?_
          with_reducible refine k_truB (w_ntt (w_next ?_))
          obtain ⟨s86, h⟩ := h
          have s87 : PyData.strOk ("told" : Str) = true := by decide +kernel
          with_reducible refine w_ifT (p := answer2.1 = ("told" : Str)) (t_vw (vd_f (vd_f (vd_f (vd_f (vd_f (vd_f (vd_f (vd_f (vd_t (d' := ((eP2 D.str (eV (eP2 D.int (eT D.int)))) answer2)) (vq (f := (eP2 D.str (eL (eP2 D.int (eT D.int))))) answer2) (vd_f (vd_f (vd_f (vd_f vd_e))))))))))))) (tt_cmp (p := answer2.1 = ("told" : Str)) (fun _ hQ => e_op (e_op (e_v8 (e_c (y_t0 (e_c (o_eqS s86 s87 hQ))))))))) (fun c => ?_) (fun c => ?_)
          · replace h := h.1 c
            with_reducible refine w_seq ?_
            refine w_mvT (T := T) (d := ((eP2 D.str (eL (eP2 D.int (eT D.int)))) answer2)) rfl ?_
            with_reducible refine tr_i (tr_v (e_c (k_tt1 (k_mv (noLL_map (f := (eP2 D.int (eT D.int))) answer2.2) ?_))))
            refine set_lit (δ' := [some (.d (D.script script)), some (.d ((eR4 (eR3 D.int D.int (eL D.int)) (eL (eP2 D.int (eT D.int))) (eL (eP2 D.int (eT D.int))) (eL (eP2 D.int (eT D.int)))) case)), some (.d ((eR3 D.int D.int (eL D.int)) case.1)), some (.d (eDp depot)), some (.d (D.lst (List.map eBk books))), none, none, some (.d (D.int k_)), none, some (.own none (List.map (eP2 D.int (eT D.int)) answer2.2)), none, none, none]) rfl ?_
            with_reducible refine w_seq (w_ap9 (e_tup (a_cons (e_c (a_cons (e_tup (a_nil (And.intro ln0 (a_nil (And.intro ln2 ?_))))))))))
            obtain ⟨s88, h⟩ := h
            with_reducible refine y_appE (f := (eP2 D.int (eT D.int))) (xs := answer2.2) (y := (0, [])) s88 rfl ?_
            with_reducible refine w_mu9 (F := fun ds => some ds.reverse) (y_rev (f := (eP2 D.int (eT D.int))) (xs := (answer2.2 ++ [(0, [])]))) ?_
            exact hn _ _ _ h
          · replace h := h.2 c
            with_reducible refine w_next ?_
            exact hn _ _ _ h
      · intro answer3 h
        with_reducible refine And.intro (nv (f := (eP5 D.str D.str D.int D.str D.bl)) answer3) ?_
        intro T2
        refine set_lit (δ' := [some (.d (D.script script)), some (.d ((eR4 (eR3 D.int D.int (eL D.int)) (eL (eP2 D.int (eT D.int))) (eL (eP2 D.int (eT D.int))) (eL (eP2 D.int (eT D.int)))) case)), some (.d ((eR3 D.int D.int (eL D.int)) case.1)), some (.d (eDp depot)), some (.d (D.lst (List.map eBk books))), none, none, some (.d (D.int k_)), some (.tree T2 ((eP5 D.str D.str D.int D.str D.bl) answer3)), o3, none, none, none]) rfl ?_
        with_reducible refine w_seq (w_if (tt_vwE (vd_f (vd_d (d' := ((eW4 (eW3 D.int D.int (eV D.int)) (eV (eP2 D.int (eT D.int))) (eV (eP2 D.int (eT D.int))) (eV (eP2 D.int (eT D.int)))) case)) (vq (f := (eR4 (eR3 D.int D.int (eL D.int)) (eL (eP2 D.int (eT D.int))) (eL (eP2 D.int (eT D.int))) (eL (eP2 D.int (eT D.int))))) case) (vd_d (d' := ((eW3 D.int D.int (eV D.int)) case.1)) (vq (f := (eR3 D.int D.int (eL D.int))) case.1) (vd_f (vd_f (vd_f (vd_f (vd_d (d' := (D.int k_)) rfl (vd_t (d' := ((eP5 D.str D.str D.int D.str D.bl) answer3)) (vq (f := (eP5 D.str D.str D.int D.str D.bl)) answer3) (vd_f (vd_f (vd_f (vd_f vd_e))))))))))))) (t_not (t_truK (e_call (a_cons (e_v8 (a_cons (e_call (a_cons (e_v2 (a_cons ?_))))))))))))
        obtain ⟨s95, h⟩ := h
        with_reducible refine e_op (e_v1 (e_op (e_c (e_v7 (o_add (y_ixRw (f := (eV (eP2 D.int (eT D.int)))) (d0 := ((eW3 D.int D.int (eV D.int)) case.1)) (xs := ([case.2.1, case.2.2.1, case.2.2.2] : List (List (Int × (List Int))))) s95 rfl (a_nil ?_)))))))
        refine tr__law_due (plan := case.1) (rows := (gi ([case.2.1, case.2.2.1, case.2.2.2] : List (List (Int × (List Int)))) ((1 + k_) - 1))) hdV h ?_ ?_ (fun e h => And.intro h.1 (hx e h.2)) <;> clear h
        · intro r51 h
          with_reducible refine a_nil ?_
          obtain ⟨s96, h⟩ := h
          refine tr_same s96 ?_
          with_reducible refine k_truB (w_ntt (w_next ?_))
          obtain ⟨s97, h⟩ := h
          have s98 : PyData.strOk ("told" : Str) = true := by decide +kernel
          with_reducible refine w_ifT (p := answer3.1 = ("told" : Str)) (t_vw (vd_f (vd_f (vd_f (vd_f (vd_f (vd_f (vd_f (vd_f (vd_t (d' := ((eP5 D.str D.str D.int D.str D.bl) answer3)) (vq (f := (eP5 D.str D.str D.int D.str D.bl)) answer3) (vd_f (vd_f (vd_f (vd_f vd_e))))))))))))) (tt_cmp (p := answer3.1 = ("told" : Str)) (fun _ hQ => e_op (e_op (e_v8 (e_c (y_t0 (e_c (o_eqS s97 s98 hQ))))))))) (fun c => ?_) (fun c => ?_)
          · replace h := h.1 c
            with_reducible refine w_seq ?_
            refine w_mvT (T := T2) (d := ((eP5 D.str D.str D.int D.str D.bl) answer3)) rfl ?_
            with_reducible refine tr_i (tr_v (e_c (k_tt1 ?_)))
            exact False.elim h
          · replace h := h.2 c
            with_reducible refine w_next ?_
            exact hn _ _ _ h
        · intro r52 h
          with_reducible refine a_nil ?_
          obtain ⟨s99, h⟩ := h
          refine tr_same s99 ?_
          with_reducible refine k_truB (w_ntt (w_next ?_))
          obtain ⟨s100, h⟩ := h
          have s101 : PyData.strOk ("told" : Str) = true := by decide +kernel
          with_reducible refine w_ifT (p := answer3.1 = ("told" : Str)) (t_vw (vd_f (vd_f (vd_f (vd_f (vd_f (vd_f (vd_f (vd_f (vd_t (d' := ((eP5 D.str D.str D.int D.str D.bl) answer3)) (vq (f := (eP5 D.str D.str D.int D.str D.bl)) answer3) (vd_f (vd_f (vd_f (vd_f vd_e))))))))))))) (tt_cmp (p := answer3.1 = ("told" : Str)) (fun _ hQ => e_op (e_op (e_v8 (e_c (y_t0 (e_c (o_eqS s100 s101 hQ))))))))) (fun c => ?_) (fun c => ?_)
          · replace h := h.1 c
            with_reducible refine w_seq ?_
            refine w_mvT (T := T2) (d := ((eP5 D.str D.str D.int D.str D.bl) answer3)) rfl ?_
            with_reducible refine tr_i (tr_v (e_c (k_tt1 ?_)))
            exact False.elim h
          · replace h := h.2 c
            with_reducible refine w_next ?_
            exact hn _ _ _ h
  · intro rows2 k A Qe hk1 hk2 h
    try dsimp only at h
    with_reducible refine g_n6 (t_yes (w_tt (e_make (a_cons ?_))))
    obtain ⟨s102, h⟩ := h
    with_reducible refine w_lc_5 (y_it (fun _ hQ => e_v6 hQ) (f := (eP2 D.int (eT D.int))) (xs := rows2) hdL (y_lcM (f := (eP2 D.int (eT D.int))) (g := (eP2 D.int (eL D.int))) (fun (row : (Int × (List Int))) => (row.1, row.2)) s102 (fun row hx_3 _ hQ => g_n5 (e_tup (a_cons (e_op (e_v5 (e_c (y_t0 (a_cons (e_cb (a_cons (e_op (e_v5 (e_c (y_t1 (a_nil (y_list (f := D.int) (xs := row.2) hdT (a_nil (And.intro ln2 hQ)))))))))))))))))) (a_nil ?_)))
    refine tr_BookU_initU (stretches := (List.map (fun (row : (Int × (List Int))) => (row.1, row.2)) rows2)) hdL h ?_ (fun _ z => z); clear h; intro r53 h
    exact hk1 r53 h

end Pu
set_option Elab.async false
set_option linter.all false
set_option maxRecDepth 100000
set_option maxHeartbeats 4000000
set_option autoImplicit false
namespace Pu
open PySem PySem.Spec PyProof.Rows L2
def Plan (drivers period : Int) (m q : Int) (ns : List Int) : Prop := 1 ≤ m ∧ m ≤ period ∧ 1 ≤ q ∧ q ≤ ns.count 1 ∧ (ns.length : Int) ≤ drivers ∧ ∀ x ∈ ns, 1 ≤ x ∧ x ≤ m
def GoodDepot (p q : Int) (ns : List Int) : Prop := 1 ≤ p ∧ p ≤ 8 ∧ 1 ≤ q ∧ q ≤ 12 ∧ 1 ≤ (ns.length : Int) ∧ (ns.length : Int) ≤ 12 ∧ (∀ y ∈ ns, 1 ≤ y ∧ y ≤ p) ∧ q ≤ (ns.count 1 : Int)
def plc (m q : Int) (fs : List Int) : List Int := (List.range m.toNat).map fun (i : Nat) => (fs.count (1 + (i : Int)) : Int) - (if i = 0 then q else 0)
theorem plc_len {m q : Int} {fs : List Int} (h : 1 ≤ m) : ((plc m q fs).length : Int) = m := by
  unfold plc
  rw [List.length_map, List.length_range]
  omega
theorem plc_get {m q : Int} {fs : List Int} {i : Nat} (h : i < (plc m q fs).length) : (plc m q fs)[i] = (fs.count (1 + (i : Int)) : Int) - (if i = 0 then q else 0) := by
  simp only [plc, List.getElem_map, List.getElem_range]
theorem plc_nn {m q : Int} {fs : List Int} (hc : q ≤ fs.count 1) : ∀ y ∈ plc m q fs, 0 ≤ y := by
  intro y hy
  obtain ⟨i, hi, rfl⟩ := List.getElem_of_mem hy
  rw [plc_get hi]
  by_cases h : i = 0
  · subst h
    simp
    omega
  · rw [if_neg h]
    omega
theorem sum_le {ns : List Int} {b : Int} (hb : 0 ≤ b) : (∀ y ∈ ns, 0 ≤ y ∧ y ≤ b) → 0 ≤ ns.sum ∧ ns.sum ≤ b * ns.length := by
  induction ns with
  | nil => intro _; simp
  | cons n ns ih =>
    intro h
    have h1 := h n List.mem_cons_self
    have h2 := ih fun y hy => h y (List.mem_cons_of_mem _ hy)
    rw [List.sum_cons, List.length_cons]
    have : b * ((ns.length + 1 : Nat) : Int) = b * ns.length + b := by rw [Int.natCast_add, Int.mul_add]; simp
    omega
structure PL (m q : Int) (fs : List Int) : Prop where
  m1 : 1 ≤ m
  m8 : m ≤ 8
  q1 : 1 ≤ q
  qc : q ≤ fs.count 1
  n12 : (fs.length : Int) ≤ 12
  rg : ∀ x ∈ fs, 1 ≤ x ∧ x ≤ m
theorem PL.qn {m q : Int} {fs : List Int} (p : PL m q fs) : q ≤ fs.length := by
  have := p.qc
  have := List.count_le_length (a := 1) (l := fs)
  omega
theorem PL.good {m q : Int} {fs : List Int} (p : PL m q fs) : GoodDepot m q fs := by
  have := p.qn
  have := p.n12
  have := p.q1
  exact ⟨p.m1, p.m8, p.q1, by omega, by omega, p.n12, p.rg, p.qc⟩
theorem PL.sum {m q : Int} {fs : List Int} (p : PL m q fs) : 0 ≤ (plc m q fs).sum ∧ (plc m q fs).sum ≤ 96 := by
  have h := sum_le (ns := plc m q fs) (b := 12) (by decide) fun y hy => ⟨plc_nn p.qc y hy, by
    obtain ⟨i, hi, rfl⟩ := List.getElem_of_mem hy
    rw [plc_get hi]
    have h1 := List.count_le_length (a := 1 + (i : Int)) (l := fs)
    have h2 := p.n12
    have h3 := p.q1
    split <;> omega⟩
  have h1 := plc_len (q := q) (fs := fs) p.m1
  have := p.m8
  omega
def duep (m q : Int) (fs : List Int) (N : Int) : List Int := (plc m q fs).zipIdx.map fun p => p.1 + (if 1 + (p.2 : Int) = N % m + 1 then q else 0)
abbrev St0 := Int × List Int
def ascB : Int → Int → List Int → Bool
  | _, _, [] => true
  | least, size, x :: xs => decide (least ≤ x) && (decide (x < size) && ascB (x + 1) size xs)
def sflt : Int → Int → List St0 → Option (Int × Str)
  | _, _, [] => none
  | i, tot, r :: rs => if ¬ (1 ≤ r.1 ∧ r.1 ≤ 1000000000000000000000000000000) then some (i, "days") else if ascB 0 12 r.2 = false then some (i, "runners")
    else if 1000000000000000000000000000000 < tot + r.1 then some (i, "total") else sflt (i + 1) (tot + r.1) rs
def bflt (rows : List St0) : Option (Int × Str) := if 400 < rows.length then some (400, "stretches") else sflt 0 0 rows
theorem sflt1 {i tot : Int} {r : St0} {rs : List St0} (c : ¬ (1 ≤ r.1 ∧ r.1 ≤ 1000000000000000000000000000000)) : sflt i tot (r :: rs) = some (i, ("days" : Str)) := by unfold sflt; rw [if_pos c]
theorem sflt2 {i tot : Int} {r : St0} {rs : List St0} (c1 : 1 ≤ r.1 ∧ r.1 ≤ 1000000000000000000000000000000) (c : ascB 0 12 r.2 = false) : sflt i tot (r :: rs) = some (i, ("runners" : Str)) := by unfold sflt; rw [if_neg (fun z => z c1), if_pos c]
theorem sflt3 {i tot : Int} {r : St0} {rs : List St0} (c1 : 1 ≤ r.1 ∧ r.1 ≤ 1000000000000000000000000000000) (c2 : ascB 0 12 r.2 = true) (c : 1000000000000000000000000000000 < tot + r.1) : sflt i tot (r :: rs) = some (i, ("total" : Str)) := by
  unfold sflt; rw [if_neg (fun z => z c1), if_neg (by rw [c2]; decide), if_pos c]
theorem sflt4 {i tot : Int} {r : St0} {rs : List St0} (c1 : 1 ≤ r.1 ∧ r.1 ≤ 1000000000000000000000000000000) (c2 : ascB 0 12 r.2 = true) (c : ¬ 1000000000000000000000000000000 < tot + r.1) : sflt i tot (r :: rs) = sflt (i + 1) (tot + r.1) rs := by
  rw [sflt, if_neg (fun z => z c1), if_neg (by rw [c2]; decide), if_neg c]
theorem bflt1 {rows : List St0} (c : 400 < rows.length) : bflt rows = some (400, ("stretches" : Str)) := by unfold bflt; rw [if_pos c]
theorem bflt2 {rows : List St0} (c : ¬ 400 < rows.length) : bflt rows = sflt 0 0 rows := by unfold bflt; rw [if_neg c]
def jstep (acc : List St0) (r : St0) : List St0 := match acc.getLast? with
  | some l => if l.2 = r.2 then acc.dropLast ++ [(l.1 + r.1, r.2)] else acc ++ [r]
  | none => [r]
def jo (rows : List St0) : List St0 := rows.foldl jstep []
def sumD (rows : List St0) : Int := (rows.map (·.1)).sum
theorem jn_snoc (rows : List St0) (r : St0) : jo (rows ++ [r]) = jstep (jo rows) r := by unfold jo; rw [List.foldl_append]; rfl
theorem jstep_len (acc : List St0) (r : St0) : (jstep acc r).length ≤ acc.length + 1 := by
  unfold jstep
  split
  · split
    · rw [List.length_append, List.length_dropLast, List.length_singleton]; omega
    · rw [List.length_append]; simp
  · simp
theorem jn_len (rows : List St0) : (jo rows).length ≤ rows.length := by
  induction rows using snoc_ind with
  | h0 => simp [jo]
  | h1 xs x ih =>
    rw [jn_snoc, List.length_append]
    have := jstep_len (jo xs) x
    simp only [List.length_singleton]
    omega
theorem sumD_append (a b : List St0) : sumD (a ++ b) = sumD a + sumD b := by unfold sumD; rw [List.map_append, List.sum_append]
theorem sumD_one (r : St0) : sumD [r] = r.1 := by unfold sumD; simp
theorem snoc_of {α : Type} {xs : List α} {l : α} (h : xs.getLast? = some l) : xs = xs.dropLast ++ [l] := by
  rw [List.getLast?_eq_some_iff] at h
  obtain ⟨ys, rfl⟩ := h
  rw [List.dropLast_concat]
theorem jstep_sum (acc : List St0) (r : St0) : sumD (jstep acc r) = sumD acc + r.1 := by
  unfold jstep
  split
  · rename_i l e
    split
    · have e2 := congrArg sumD (snoc_of e)
      rw [sumD_append, sumD_one] at e2 ⊢
      omega
    · rw [sumD_append, sumD_one]
  · rename_i e
    rw [List.getLast?_eq_none_iff] at e
    subst e
    rw [sumD_one]
    simp [sumD]
theorem jn_sum (rows : List St0) : sumD (jo rows) = sumD rows := by
  induction rows using snoc_ind with
  | h0 => rfl
  | h1 xs x ih => rw [jn_snoc, jstep_sum, ih, sumD_append, sumD_one]
def isSt (rows : List St0) (k : Nat) : Bool := decide (k = 0) || decide ((rows.map (·.2))[k - 1]? ≠ (rows.map (·.2))[k]?)
def strt (rows : List St0) : List Nat := (List.range rows.length).filter (isSt rows)
def ends (rows : List St0) : List Nat := (strt rows).drop 1 ++ [rows.length]
def cutR (rows : List St0) (a b : Nat) : List St0 := (rows.drop a).take (b - a)
def GL (rows : List St0) : Prop := ∀ r ∈ rows, r.2.length ≤ 100
structure D3 where
  p : Int
  l : Int
  x : Int
def step1 (m b' d : Int) (inn : Bool) (s : D3) : D3 := if inn = true then ⟨s.p + d, s.l, b'⟩ else ⟨s.p, s.l + (b' - s.x + m - 1) / m, s.x + (b' - s.x + m - 1) / m * m⟩
def inG (g : List Int) (i : Nat) : Bool := decide ((i : Int) ∈ g)
def run (m : Int) (i : Nat) : List St0 → Int → D3 → D3
  | [], _, s => s
  | r :: rs, b, s => run m i rs (b + r.1) (step1 m (b + r.1) r.1 (inG r.2 i) s)
theorem sumD_cons (r : St0) (rs : List St0) : sumD (r :: rs) = r.1 + sumD rs := by simp [sumD]
theorem run_snoc (m : Int) (i : Nat) (r : St0) : ∀ (rows : List St0) (b : Int) (s : D3), run m i (rows ++ [r]) b s = step1 m (b + sumD rows + r.1) r.1 (inG r.2 i) (run m i rows b s)
  | [], b, s => by simp [run, sumD]
  | r0 :: rs, b, s => by
    rw [List.cons_append, run, run_snoc m i r rs, run, sumD_cons]
    congr 1
    omega
def st0 (fs : List Int) (i : Nat) : D3 := ⟨0, 0, fs.getD i 0⟩
def stA (m : Int) (fs : List Int) (rows : List St0) (i : Nat) : D3 := run m i rows 1 (st0 fs i)
theorem stA_snoc {m : Int} {fs : List Int} {rows : List St0} {r : St0} {i : Nat} : stA m fs (rows ++ [r]) i = step1 m (1 + sumD rows + r.1) r.1 (inG r.2 i) (stA m fs rows i) := run_snoc m i r rows 1 _
theorem lift_eq {m b' x : Int} (hm : 0 < m) : x + (b' - x + m - 1) / m * m = b' + (x - b') % m := by
  have h1 : (b' - x + m - 1) / m = - ((x - b') / m) := by
    have e := Int.mul_ediv_add_emod (x - b') m
    have h2 := Int.emod_nonneg (x - b') (show m ≠ 0 by omega)
    have h3 := Int.emod_lt_of_pos (x - b') hm
    have e2 : b' - x + m - 1 = (m - 1 - (x - b') % m) + m * (-((x - b') / m)) := by
      rw [Int.mul_neg]
      omega
    rw [e2, Int.add_mul_ediv_left _ _ (show m ≠ 0 by omega), Int.ediv_eq_zero_of_lt (by omega) (by omega)]
    omega
  have e := Int.mul_ediv_add_emod (x - b') m
  rw [h1, Int.neg_mul, Int.mul_comm]
  omega
def sumR (n : Nat) (f : Nat → Int) : Int := ((List.range n).map f).sum
theorem sumR_zero {f : Nat → Int} : sumR 0 f = 0 := rfl
theorem sumR_succ {n : Nat} {f : Nat → Int} : sumR (n + 1) f = sumR n f + f n := by
  unfold sumR
  rw [List.range_succ, List.map_append, List.sum_append]
  simp
theorem sumR_congr {n : Nat} {f g : Nat → Int} (h : ∀ i, i < n → f i = g i) : sumR n f = sumR n g := by
  induction n with
  | zero => rfl
  | succ n ih => rw [sumR_succ, sumR_succ, ih fun i hi => h i (by omega), h n (by omega)]
theorem sumR_add {n : Nat} {f g : Nat → Int} : sumR n (fun i => f i + g i) = sumR n f + sumR n g := by
  induction n with
  | zero => rfl
  | succ n ih => rw [sumR_succ, sumR_succ, sumR_succ, ih]; omega
theorem sumR_mul {n : Nat} {f : Nat → Int} {c : Int} : sumR n (fun i => c * f i) = c * sumR n f := by
  induction n with
  | zero => simp [sumR_zero]
  | succ n ih => rw [sumR_succ, sumR_succ, ih, Int.mul_add]
theorem sumR_one {n a : Nat} (h : a < n) (v : Int) : sumR n (fun i => if i = a then v else 0) = v := by
  have h0 : ∀ k : Nat, k ≤ a → sumR k (fun i => if i = a then v else 0) = 0 := by
    intro k
    induction k with
    | zero => intro _; rfl
    | succ k ih => intro hk; rw [sumR_succ, ih (by omega), if_neg (by omega)]; rfl
  induction n with
  | zero => omega
  | succ n ih =>
    rw [sumR_succ]
    by_cases c : n = a
    · subst c
      rw [h0 _ (Nat.le_refl _), if_pos rfl]; omega
    · rw [ih (by omega), if_neg c]; omega
theorem inG_cons {a : Int} {g : List Int} {i : Nat} : inG (a :: g) i = (decide ((i : Int) = a) || inG g i) := by
  unfold inG
  by_cases h : (i : Int) = a
  · rw [decide_eq_true h, decide_eq_true (by rw [h]; exact List.mem_cons_self)]; rfl
  · rw [decide_eq_false h, Bool.false_or]
    exact decide_eq_decide.mpr ⟨fun z => by rcases List.mem_cons.mp z with z | z; exact absurd z h; exact z, fun z => List.mem_cons_of_mem _ z⟩
theorem sumR_mem {n : Nat} : ∀ {g : List Int}, g.Nodup → (∀ x ∈ g, 0 ≤ x ∧ x < n) → sumR n (fun i => if inG g i = true then 1 else 0) = g.length
  | [], _, _ => by
    have : sumR n (fun i => if inG [] i = true then 1 else 0) = sumR n (fun i => 0 * (0 : Int)) := sumR_congr fun i _ => by simp [inG]
    rw [this, sumR_mul]
    simp
  | a :: g, hn, h => by
    rw [List.nodup_cons] at hn
    have ha := h a List.mem_cons_self
    have e : sumR n (fun i => if inG (a :: g) i = true then (1 : Int) else 0) = sumR n (fun i => (if i = a.toNat then (1 : Int) else 0) + (if inG g i = true then 1 else 0)) := by
      refine sumR_congr fun i _ => ?_
      rw [inG_cons]
      by_cases c : (i : Int) = a
      · have c2 : inG g i = false := by unfold inG; rw [decide_eq_false]; rw [c]; exact hn.1
        rw [decide_eq_true c, c2, if_pos (show i = a.toNat by omega)]
        rfl
      · rw [decide_eq_false c, if_neg (show ¬ i = a.toNat by omega), Bool.false_or]
        omega
    rw [e, sumR_add, sumR_one (by omega), sumR_mem hn.2 fun x hx => h x (List.mem_cons_of_mem _ hx), List.length_cons]
    omega
structure OkAt (m q : Int) (fs : List Int) (pre : List St0) (r : St0) : Prop where
  len : (r.2.length : Int) = q
  nd : r.2.Nodup
  at_ : ∀ x ∈ r.2, 0 ≤ x ∧ x < fs.length ∧ (stA m fs pre x.toNat).x = 1 + sumD pre
def Vld (m q : Int) (fs : List Int) (rows : List St0) : Prop := ∀ (pre : List St0) (r : St0) (post : List St0), rows = pre ++ r :: post → OkAt m q fs pre r
theorem Vld.snoc {m q : Int} {fs : List Int} {rows : List St0} {r : St0} (h : Vld m q fs rows) (o : OkAt m q fs rows r) : Vld m q fs (rows ++ [r]) := by
  intro pre r' post e
  rcases List.append_eq_append_iff.mp e with ⟨a, e1, e2⟩ | ⟨a, e1, e2⟩
  · cases a with
    | nil =>
      simp only [List.nil_append, List.cons.injEq] at e2
      rw [List.append_nil] at e1
      rw [e1, ← e2.1]
      exact o
    | cons b bs => simp at e2
  · cases a with
    | nil =>
      rw [List.nil_append] at e2
      simp only [List.cons.injEq] at e2
      rw [List.append_nil] at e1
      rw [← e1, e2.1]
      exact o
    | cons b bs =>
      rw [List.cons_append] at e2
      injection e2 with e3 e4
      exact h pre r' bs (by rw [e1, e3])
theorem Vld.init {m q : Int} {fs : List Int} {rows : List St0} {r : St0} (h : Vld m q fs (rows ++ [r])) : Vld m q fs rows ∧ OkAt m q fs rows r :=
  ⟨fun pre r' post e => h pre r' (post ++ [r]) (by rw [e]; simp), h rows r [] rfl⟩
theorem Vld.nil {m q : Int} {fs : List Int} : Vld m q fs [] := fun pre r post e => by simp at e
def wd (m x : Int) : Int := (x - 1) % m + 1
theorem wd_rg {m x : Int} (hm : 0 < m) : 1 ≤ wd m x ∧ wd m x ≤ m := by
  have h1 := Int.emod_nonneg (x - 1) (show m ≠ 0 by omega)
  have h2 := Int.emod_lt_of_pos (x - 1) hm
  unfold wd
  omega
theorem wd_lift {m b x : Int} : wd m (b + (x - b) % m) = wd m x := by
  unfold wd
  have e : b + (x - b) % m - 1 = (b - 1) + (x - b) % m := by omega
  rw [e, Int.add_emod, Int.emod_emod, ← Int.add_emod]
  have e2 : b - 1 + (x - b) = x - 1 := by omega
  rw [e2]
theorem wd_eq {m b x : Int} (hm : 0 < m) (h1 : b ≤ x) (h2 : x < b + m) (h : wd m x = wd m b) : x = b := by
  unfold wd at h
  have h3 : (x - 1) % m = (b - 1) % m := by omega
  have h4 := Int.emod_emod_of_dvd
  have e1 := Int.mul_ediv_add_emod (x - 1) m
  have e2 := Int.mul_ediv_add_emod (b - 1) m
  have e3 : m * ((x - 1) / m - (b - 1) / m) = x - b := by rw [Int.mul_sub]; omega
  have h5 : (x - 1) / m - (b - 1) / m = 0 := by
    have hk : ∀ k : Int, m * k = x - b → k = 0 := by
      intro k hk
      rcases Int.lt_trichotomy k 0 with c | c | c
      · have := Int.mul_le_mul_of_nonneg_left (show k ≤ -1 by omega) (show 0 ≤ m by omega)
        omega
      · exact c
      · have := Int.mul_le_mul_of_nonneg_left (show 1 ≤ k by omega) (show 0 ≤ m by omega)
        omega
    exact hk _ e3
  rw [h5] at e3
  omega
theorem st_rg {m q : Int} {fs : List Int} (p : PL m q fs) {i : Nat} (hi : i < fs.length) : ∀ rows : List St0, 1 + sumD rows ≤ (stA m fs rows i).x ∧ (stA m fs rows i).x < 1 + sumD rows + m := by
  have hm := p.m1
  intro rows
  induction rows using snoc_ind with
  | h0 =>
    have h := p.rg _ (List.getElem_mem hi)
    have e : (stA m fs [] i).x = fs[i] := by
      show fs.getD i 0 = _
      rw [List.getD_eq_getElem?_getD, List.getElem?_eq_getElem hi]; rfl
    rw [e]
    simp only [sumD, List.map_nil, List.sum_nil]
    omega
  | h1 xs r ih =>
    rw [stA_snoc, sumD_append, sumD_one]
    unfold step1
    split
    · simp only; omega
    · simp only
      rw [lift_eq (show 0 < m by omega)]
      have h1 := Int.emod_nonneg ((stA m fs xs i).x - (1 + sumD xs + r.1)) (show m ≠ 0 by omega)
      have h2 := Int.emod_lt_of_pos ((stA m fs xs i).x - (1 + sumD xs + r.1)) (show 0 < m by omega)
      omega
theorem in_at {m q : Int} {fs : List Int} {pre : List St0} {r : St0} (o : OkAt m q fs pre r) {i : Nat} (h : inG r.2 i = true) : (stA m fs pre i).x = 1 + sumD pre := by
  have := o.at_ _ (of_decide_eq_true h)
  rw [Int.toNat_natCast] at this
  exact this.2.2
def plf (q : Int) (fs : List Int) (c : Nat) : Int := (fs.count (1 + (c : Int)) : Int) - (if c = 0 then q else 0)
theorem count_sumR {fs : List Int} {v : Int} : (fs.count v : Int) = sumR fs.length (fun i => if fs.getD i 0 = v then 1 else 0) := by
  induction fs using snoc_ind with
  | h0 => rfl
  | h1 xs x ih =>
    rw [List.count_append, List.length_append, List.length_singleton, sumR_succ]
    have e : sumR xs.length (fun i => if (xs ++ [x]).getD i 0 = v then (1 : Int) else 0) = sumR xs.length (fun i => if xs.getD i 0 = v then 1 else 0) := sumR_congr fun i hi => by
      rw [List.getD_eq_getElem?_getD, List.getD_eq_getElem?_getD, List.getElem?_append_left hi]
    have e2 : (xs ++ [x]).getD xs.length 0 = x := by
      rw [List.getD_eq_getElem?_getD, List.getElem?_append_right (Nat.le_refl _)]; simp
    rw [e, e2, ← ih]
    by_cases h : x = v
    · subst h; simp
    · rw [if_neg h]; simp [List.count_singleton, h]
theorem st_cnt {m q : Int} {fs : List Int} (p : PL m q fs) : ∀ rows : List St0, Vld m q fs rows → ∀ c : Nat, (c : Int) < m → sumR fs.length (fun i => if wd m (stA m fs rows i).x = 1 + (c : Int) then 1 else 0) = plf q fs c + (if wd m (1 + sumD rows) = 1 + (c : Int) then q else 0) := by
  have hm := p.m1
  intro rows
  induction rows using snoc_ind with
  | h0 =>
    intro _ c hc
    have e : sumR fs.length (fun i => if wd m (stA m fs [] i).x = 1 + (c : Int) then (1 : Int) else 0) = sumR fs.length (fun i => if fs.getD i 0 = 1 + (c : Int) then 1 else 0) := sumR_congr fun i hi => by
      have h := p.rg _ (List.getElem_mem hi)
      have e : (stA m fs [] i).x = fs.getD i 0 := rfl
      have e2 : fs.getD i 0 = fs[i] := by rw [List.getD_eq_getElem?_getD, List.getElem?_eq_getElem hi]; rfl
      rw [e, e2]
      unfold wd
      rw [Int.emod_eq_of_lt (by omega) (by omega)]
      have : fs[i] - 1 + 1 = fs[i] := by omega
      rw [this]
    rw [e, ← count_sumR]
    have e3 : wd m (1 + sumD []) = 1 := by
      unfold wd
      simp only [sumD, List.map_nil, List.sum_nil]
      simp
    rw [e3]
    unfold plf
    by_cases h : c = 0
    · subst h; simp
    · rw [if_neg h, if_neg (by omega)]; omega
  | h1 xs r ih =>
    intro h c hc
    obtain ⟨h1, o⟩ := h.init
    have iv := ih h1 c hc
    let A : Int := if wd m (1 + sumD (xs ++ [r])) = 1 + (c : Int) then 1 else 0
    let B : Int := if wd m (1 + sumD xs) = 1 + (c : Int) then 1 else 0
    have es : 1 + sumD (xs ++ [r]) = 1 + sumD xs + r.1 := by rw [sumD_append, sumD_one]; omega
    have e : sumR fs.length (fun i => if wd m (stA m fs (xs ++ [r]) i).x = 1 + (c : Int) then (1 : Int) else 0) = sumR fs.length (fun i => (if wd m (stA m fs xs i).x = 1 + (c : Int) then 1 else 0) + (A - B) * (if inG r.2 i = true then 1 else 0)) := sumR_congr fun i _ => by
      rw [stA_snoc]
      unfold step1
      by_cases hi : inG r.2 i = true
      · rw [if_pos hi, if_pos hi]
        simp only
        rw [in_at o hi, ← es]
        show A = B + (A - B) * 1
        omega
      · rw [if_neg hi, if_neg hi]
        simp only
        rw [lift_eq (show 0 < m by omega), wd_lift]
        omega
    rw [e, sumR_add, sumR_mul, sumR_mem o.nd fun x hx => ⟨(o.at_ x hx).1, (o.at_ x hx).2.1⟩, iv, o.len]
    have hA : A * q = if wd m (1 + sumD (xs ++ [r])) = 1 + (c : Int) then q else 0 := by
      show (if _ then _ else _) * q = _
      split <;> omega
    have hB : B * q = if wd m (1 + sumD xs) = 1 + (c : Int) then q else 0 := by
      show (if _ then _ else _) * q = _
      split <;> omega
    rw [← hA, ← hB, Int.sub_mul]
    omega
theorem st_here {m q : Int} {fs : List Int} (p : PL m q fs) {rows : List St0} (hv : Vld m q fs rows) : q ≤ sumR fs.length (fun i => if (stA m fs rows i).x = 1 + sumD rows then 1 else 0) := by
  have hm := p.m1
  have hw := wd_rg (m := m) (x := 1 + sumD rows) (by omega)
  have h := st_cnt p rows hv (wd m (1 + sumD rows) - 1).toNat (by omega)
  have e : (1 : Int) + ((wd m (1 + sumD rows) - 1).toNat : Int) = wd m (1 + sumD rows) := by omega
  rw [e, if_pos rfl] at h
  have e2 : sumR fs.length (fun i => if (stA m fs rows i).x = 1 + sumD rows then (1 : Int) else 0) = sumR fs.length (fun i => if wd m (stA m fs rows i).x = wd m (1 + sumD rows) then 1 else 0) := sumR_congr fun i hi => by
    have hr := st_rg p hi rows
    by_cases c : (stA m fs rows i).x = 1 + sumD rows
    · rw [if_pos c, c, if_pos rfl]
    · rw [if_neg c, if_neg]
      intro z
      exact c (wd_eq (by omega) hr.1 hr.2 z)
  have hp : 0 ≤ plf q fs (wd m (1 + sumD rows) - 1).toNat := by
    have hl := plc_len (q := q) (fs := fs) p.m1
    have hlt : (wd m (1 + sumD rows) - 1).toNat < (plc m q fs).length := by omega
    have := plc_nn (m := m) p.qc _ (List.getElem_mem hlt)
    rw [plc_get] at this
    exact this
  rw [e2, h]
  omega
def hereL (n : Nat) (f : Nat → Int) (b : Int) : List Int := ((List.range n).filter fun i => decide (f i = b)).map Int.ofNat
theorem hereL_len {n : Nat} {f : Nat → Int} {b : Int} : ((hereL n f b).length : Int) = sumR n (fun i => if f i = b then 1 else 0) := by
  unfold hereL
  rw [List.length_map]
  induction n with
  | zero => rfl
  | succ n ih =>
    rw [List.range_succ, List.filter_append, List.length_append, sumR_succ, Int.natCast_add, ih]
    by_cases c : f n = b
    · rw [if_pos c, List.filter_cons_of_pos (by simpa using c)]; simp
    · rw [if_neg c, List.filter_cons_of_neg (by simpa using c)]; simp
theorem hereL_mem {n : Nat} {f : Nat → Int} {b x : Int} (h : x ∈ hereL n f b) : 0 ≤ x ∧ x < n ∧ f x.toNat = b := by
  unfold hereL at h
  obtain ⟨i, hi, rfl⟩ := List.mem_map.mp h
  obtain ⟨h1, h2⟩ := List.mem_filter.mp hi
  have := List.mem_range.mp h1
  refine ⟨Int.natCast_nonneg i, Int.ofNat_lt.mpr this, of_decide_eq_true h2⟩
theorem hereL_nd {n : Nat} {f : Nat → Int} {b : Int} : (hereL n f b).Nodup := by
  unfold hereL
  rw [List.nodup_iff_pairwise_ne, List.pairwise_map]
  refine List.Pairwise.imp (fun {a b} (h : a ≠ b) => fun z => h (Int.ofNat.inj z)) ?_
  exact List.Pairwise.filter _ List.nodup_range
theorem perm_erase {α : Type} : ∀ {xs : List α} {j : Nat} (h : j < xs.length), (xs[j] :: xs.eraseIdx j).Perm xs
  | [], j, h => absurd h (Nat.not_lt_zero j)
  | x :: xs, 0, _ => List.Perm.refl _
  | x :: xs, j + 1, h => by
    have hj : j < xs.length := by simpa using h
    have ih := perm_erase hj
    show (xs[j] :: x :: xs.eraseIdx j).Perm (x :: xs)
    exact (List.Perm.swap _ _ _).trans (List.Perm.cons _ ih)
theorem asc_of_sorted : ∀ (l s : Int) (xs : List Int), xs.Pairwise (· ≤ ·) → xs.Nodup → (∀ x ∈ xs, l ≤ x ∧ x < s) → ascB l s xs = true
  | _, _, [], _, _, _ => rfl
  | l, s, x :: xs, hp, hn, h => by
    rw [List.pairwise_cons] at hp
    rw [List.nodup_cons] at hn
    have hx := h x List.mem_cons_self
    have ih := asc_of_sorted (x + 1) s xs hp.2 hn.2 fun y hy => by
      have h1 := hp.1 y hy
      have h2 := h y (List.mem_cons_of_mem _ hy)
      have h3 : y ≠ x := fun z => hn.1 (z ▸ hy)
      omega
    show (decide (l ≤ x) && (decide (x < s) && ascB (x + 1) s xs)) = true
    rw [decide_eq_true hx.1, decide_eq_true hx.2, ih]
    rfl
def goneL (m b' : Int) (crew : List Int) (n : Nat) (f : Nat → Int) : List Int := (List.range n).map fun i => if inG crew i = true then b' else f i + (b' - f i + m - 1) / m * m
def Good (rows : List St0) : Prop := ∀ r ∈ rows, 1 ≤ r.1 ∧ ascB 0 12 r.2 = true ∧ r.2.length ≤ 12
theorem sumD_nn : ∀ {rows : List St0}, Good rows → (rows.length : Int) ≤ sumD rows
  | [], _ => by simp [sumD]
  | r :: rs, h => by
    have h1 := h r List.mem_cons_self
    have h2 := sumD_nn (rows := rs) fun x hx => h x (List.mem_cons_of_mem _ hx)
    have : sumD (r :: rs) = r.1 + sumD rs := by simp [sumD]
    rw [this, List.length_cons]
    omega
def xsL (m : Int) (fs : List Int) (rows : List St0) : List Int := (List.range fs.length).map fun i => (stA m fs rows i).x
theorem okAt_of {m q : Int} {fs : List Int} {rows : List St0} {crew : List Int} {span : Int} (h1 : (crew.length : Int) = q) (h2 : crew.Nodup) (h3 : ∀ y ∈ crew, y ∈ hereL fs.length (fun i => (stA m fs rows i).x) (1 + sumD rows)) : OkAt m q fs rows (span, crew) :=
  ⟨h1, h2, fun x hx => hereL_mem (h3 x hx)⟩
def fb1 (q : Int) (n : Nat) (b : Int) (f : Nat → Int) (g : List Int) : Option Str :=
  if g.any (fun x => decide ((n : Int) ≤ x)) = true then some "driver" else if (g.length : Int) ≠ q then some "count" else if g.any (fun x => decide (f x.toNat ≠ b)) = true then some "away" else none
def mixR (n k : Nat) (new old : Nat → Int) : List Int := (List.range n).map fun i => if i < k then new i else old i
theorem mix_set {n k : Nat} {new old : Nat → Int} (h : k < n) : (mixR n k new old).set k (new k) = mixR n (k + 1) new old := by
  unfold mixR
  apply List.ext_getElem
  · simp
  · intro i h1 h2
    rw [List.getElem_set]
    simp only [List.getElem_map, List.getElem_range]
    by_cases c : k = i
    · subst c; rw [if_pos rfl, if_pos (by omega)]
    · rw [if_neg c]
      by_cases c2 : i < k
      · rw [if_pos c2, if_pos (by omega)]
      · rw [if_neg c2, if_neg (by omega)]
theorem mix_keep {n k : Nat} {new old : Nat → Int} (h : new k = old k) : mixR n k new old = mixR n (k + 1) new old := by
  unfold mixR
  refine List.map_congr_left fun i _ => ?_
  by_cases c : i < k
  · rw [if_pos c, if_pos (by omega)]
  · by_cases c2 : i = k
    · subst c2; rw [if_neg c, if_pos (by omega), h]
    · rw [if_neg c, if_neg (by omega)]
theorem mix_zero {n : Nat} {new old : Nat → Int} : mixR n 0 new old = (List.range n).map old := by
  unfold mixR
  exact List.map_congr_left fun i _ => if_neg (by omega)
theorem mix_full {n : Nat} {new old : Nat → Int} : mixR n n new old = (List.range n).map new := by
  unfold mixR
  exact List.map_congr_left fun i hi => if_pos (List.mem_range.mp hi)
theorem mix_len {n k : Nat} {new old : Nat → Int} : (mixR n k new old).length = n := by unfold mixR; rw [List.length_map, List.length_range]
def psF (m : Int) (fs : List Int) (rows : List St0) (i : Nat) : Int := (stA m fs rows i).p
def lsF (m : Int) (fs : List Int) (rows : List St0) (i : Nat) : Int := (stA m fs rows i).l
def xsF (m : Int) (fs : List Int) (rows : List St0) (i : Nat) : Int := (stA m fs rows i).x
def arr (n : Nat) (f : Nat → Int) : List Int := (List.range n).map f
def fbad (m q : Int) (fs : List Int) : List St0 → List St0 → Option (Int × Str)
  | _, [] => none
  | pre, r :: rs => match fb1 q fs.length (1 + sumD pre) (xsF m fs pre) r.2 with
    | some s => some (pre.length, s)
    | none => fbad m q fs (pre ++ [r]) rs
def lgF (m : Int) (fs : List Int) (rows : List St0) (i : Nat) : Int := (xsF m fs rows i - fs.getD i 0 - psF m fs rows i) / m
theorem stx (m : Int) (fs : List Int) (pre : List St0) (r : St0) (i : Nat) :
    (inG r.2 i = true → psF m fs (pre ++ [r]) i = psF m fs pre i + r.1 ∧ lsF m fs (pre ++ [r]) i = lsF m fs pre i ∧ xsF m fs (pre ++ [r]) i = 1 + sumD pre + r.1) ∧
    (inG r.2 i = false → psF m fs (pre ++ [r]) i = psF m fs pre i ∧ lsF m fs (pre ++ [r]) i = lsF m fs pre i + (1 + sumD pre + r.1 - xsF m fs pre i + m - 1) / m ∧ xsF m fs (pre ++ [r]) i = xsF m fs pre i + (1 + sumD pre + r.1 - xsF m fs pre i + m - 1) / m * m) := by
  unfold psF lsF xsF
  rw [stA_snoc]
  constructor
  · intro hi
    rw [hi]
    exact ⟨rfl, rfl, rfl⟩
  · intro hi
    rw [hi]
    exact ⟨rfl, rfl, rfl⟩
theorem sumD_snoc {pre : List St0} {r : St0} : 1 + sumD (pre ++ [r]) = 1 + sumD pre + r.1 := by rw [sumD_append]; unfold sumD; simp; omega
theorem asc_all : ∀ (l s : Int) (xs : List Int), ascB l s xs = true → (∀ x ∈ xs, l ≤ x) ∧ xs.Nodup
  | _, _, [], _ => ⟨fun x hx => (by cases hx), List.nodup_nil⟩
  | l, s, x :: xs, h => by
    have h' : (decide (l ≤ x) && (decide (x < s) && ascB (x + 1) s xs)) = true := h
    rw [Bool.and_eq_true, Bool.and_eq_true] at h'
    obtain ⟨a1, a2, a3⟩ := h'
    have a1 := of_decide_eq_true a1
    obtain ⟨b1, b2⟩ := asc_all (x + 1) s xs a3
    refine ⟨fun y hy => ?_, List.nodup_cons.mpr ⟨fun z => ?_, b2⟩⟩
    · rcases List.mem_cons.mp hy with rfl | hy
      · exact a1
      · have := b1 y hy; omega
    · have := b1 x z; omega
theorem fb1_str {q : Int} {n : Nat} {b : Int} {f : Nat → Int} {g : List Int} {s : Str} (h : fb1 q n b f g = some s) : PyData.strOk s = true := by
  unfold fb1 at h
  split at h
  · injection h with h; rw [← h]; decide +kernel
  split at h
  · injection h with h; rw [← h]; decide +kernel
  split at h
  · injection h with h; rw [← h]; decide +kernel
  · cases h
theorem fbad_str {m q : Int} {fs : List Int} : ∀ (rs pre : List St0) {a : Int} {s : Str}, fbad m q fs pre rs = some (a, s) → PyData.strOk s = true
  | [], _, a, s, h => by cases h
  | r :: rs, pre, a, s, h => by
    unfold fbad at h
    split at h
    · rename_i t e
      injection h with h
      injection h with h1 h2
      rw [← h2]
      exact fb1_str e
    · exact fbad_str rs _ h
theorem sflt_none : ∀ (rows : List St0) (i tot : Int), 0 ≤ tot → Good rows → tot + sumD rows ≤ 1000000000000000000000000000000 → sflt i tot rows = none
  | [], _, _, _, _, _ => rfl
  | r :: rs, i, tot, h0, hg, hs => by
    have h1 := hg r List.mem_cons_self
    have h2 : Good rs := fun x hx => hg x (List.mem_cons_of_mem _ hx)
    have h3 := sumD_nn h2
    have e : sumD (r :: rs) = r.1 + sumD rs := by simp [sumD]
    rw [e] at hs
    rw [sflt4 (by omega) h1.2.1 (by omega)]
    exact sflt_none rs _ _ (by omega) h2 (by omega)
theorem good_bflt {rows : List St0} (hl : rows.length ≤ 400) (hg : Good rows) (hs : sumD rows ≤ 1000000000000000000000000000000) : bflt rows = none := by
  rw [bflt2 (by omega)]
  exact sflt_none rows 0 0 (Int.le_refl _) hg (by omega)
structure Two where
  m : Int
  q : Int
  fs : List Int
  rows : List St0
def Two.ok (t : Two) : Prop := PL t.m t.q t.fs ∧ t.rows.length ≤ 400 ∧ Good t.rows ∧ sumD t.rows ≤ 1000000000000000000000000000000 ∧ Vld t.m t.q t.fs t.rows
theorem Vld.take {m q : Int} {fs : List Int} {rows : List St0} (h : Vld m q fs rows) (k : Nat) : Vld m q fs (rows.take k) := by
  intro pre r post e
  exact h pre r (post ++ rows.drop k) (by rw [← List.cons_append, ← List.append_assoc, ← e, List.take_append_drop])
def hstep (s : List St0 × Int) (r : St0) : List St0 × Int := (if 0 < s.2 then s.1 ++ [(if s.2 < r.1 then s.2 else r.1, r.2)] else s.1, s.2 - r.1)
def tstep (s : List St0 × Int) (r : St0) : List St0 × Int := (if s.2 < r.1 then s.1 ++ [(r.1 - (if s.2 > 0 then s.2 else 0), r.2)] else s.1, s.2 - r.1)
def hd (k : Int) (rows : List St0) : List St0 := (rows.foldl hstep ([], k)).1
def tl (k : Int) (rows : List St0) : List St0 := (rows.foldl tstep ([], k)).1
theorem Good.init {rows : List St0} {r : St0} (h : Good (rows ++ [r])) : Good rows ∧ 1 ≤ r.1 := ⟨fun x hx => h x (List.mem_append_left _ hx), (h r (by simp)).1⟩
theorem OkAt.days {m q : Int} {fs : List Int} {pre : List St0} {r : St0} (o : OkAt m q fs pre r) (d : Int) : OkAt m q fs pre (d, r.2) := ⟨o.len, o.nd, o.at_⟩
theorem OkAt.same {m q : Int} {fs : List Int} {pre pre' : List St0} {r : St0} (o : OkAt m q fs pre r) (h1 : ∀ i, stA m fs pre' i = stA m fs pre i) (h2 : sumD pre' = sumD pre) : OkAt m q fs pre' r :=
  ⟨o.len, o.nd, fun x hx => by rw [h1, h2]; exact o.at_ x hx⟩
theorem sumD_sn (ys : List St0) (y : St0) : sumD (ys ++ [y]) = sumD ys + y.1 := by rw [sumD_append]; simp [sumD]
theorem jstep_good {acc : List St0} {r : St0} (h : Good acc) (h1 : 1 ≤ r.1 ∧ ascB 0 12 r.2 = true ∧ r.2.length ≤ 12) : Good (jstep acc r) := by
  unfold jstep
  cases hg : acc.getLast? with
  | none => exact fun x hx => by rw [List.mem_singleton.mp hx]; exact h1
  | some l =>
    simp only
    by_cases c : l.2 = r.2
    · rw [if_pos c]
      intro x hx
      obtain ⟨ini, hi⟩ := List.getLast?_eq_some_iff.mp hg
      have hl := h l (by rw [hi]; simp)
      rcases List.mem_append.mp hx with hx | hx
      · exact h x ((List.dropLast_sublist _).subset hx)
      · rw [List.mem_singleton.mp hx]
        exact ⟨by show 1 ≤ l.1 + r.1; omega, h1.2⟩
    · rw [if_neg c]
      intro x hx
      rcases List.mem_append.mp hx with hx | hx
      · exact h x hx
      · rw [List.mem_singleton.mp hx]; exact h1
theorem jn_good {rows : List St0} (h : Good rows) : Good (jo rows) := by
  induction rows using snoc_ind with
  | h0 => exact h
  | h1 xs r ih =>
    rw [jn_snoc]
    exact jstep_good (ih h.init.1) (h r (by simp))
def stF (m : Int) (fs : List Int) (h : List St0) : List Int := arr fs.length (fun i => xsF m fs h i - sumD h)
def spt (m q : Int) (fs : List Int) : List Int := (List.range (m + 1).toNat).map fun (w : Nat) => (fs.count (w : Int) : Int) - (if w = 1 then q else 0)
def cstep (m : Int) (s : List St0 × Int) (r : St0) : List St0 × Int := (if 0 < (s.2 + r.1) / m - s.2 / m then s.1 ++ [((s.2 + r.1) / m - s.2 / m, r.2)] else s.1, s.2 + r.1)
def cw (m : Int) (rows : List St0) : List St0 := (rows.foldl (cstep m) ([], 0)).1
theorem cw2 (m : Int) (rows : List St0) : (rows.foldl (cstep m) ([], 0)).2 = sumD rows := by
  induction rows using snoc_ind with
  | h0 => simp [sumD]
  | h1 xs r ih => rw [List.foldl_append, sumD_append]; show (xs.foldl (cstep m) ([], 0)).2 + r.1 = _; rw [ih]; simp [sumD]
theorem cw_snoc (m : Int) (rows : List St0) (r : St0) : cw m (rows ++ [r]) = if 0 < (sumD rows + r.1) / m - sumD rows / m then cw m rows ++ [((sumD rows + r.1) / m - sumD rows / m, r.2)] else cw m rows := by
  unfold cw
  rw [List.foldl_append, ← cw2 m rows]
  rfl
def tms (rows : List St0) (i : Nat) : Int := sumD (rows.filter fun r => inG r.2 i)
theorem cw_len {m : Int} (rows : List St0) : (cw m rows).length ≤ rows.length := by
  induction rows using snoc_ind with
  | h0 => exact Nat.le_refl _
  | h1 xs r ih =>
    rw [cw_snoc]
    split <;> simp only [List.length_append, List.length_singleton] <;> omega
theorem cw_mem {m : Int} {rows : List St0} {x : St0} (h : x ∈ cw m rows) : ∃ r ∈ rows, x.2 = r.2 := by
  induction rows using snoc_ind with
  | h0 => cases h
  | h1 xs r ih =>
    rw [cw_snoc] at h
    split at h
    · rcases List.mem_append.mp h with h | h
      · obtain ⟨r', hr, e⟩ := ih h
        exact ⟨r', List.mem_append_left _ hr, e⟩
      · rw [List.mem_singleton.mp h]
        exact ⟨r, by simp, rfl⟩
    · obtain ⟨r', hr, e⟩ := ih h
      exact ⟨r', List.mem_append_left _ hr, e⟩
theorem inG_app {a : List Int} {x : Int} {i : Nat} : inG (a ++ [x]) i = (inG a i || decide ((i : Int) = x)) := by
  unfold inG
  simp [List.mem_append]
theorem good_nil : Good [] := fun _ z => by cases z
theorem arr_congr {n : Nat} {f g : Nat → Int} (h : ∀ i, i < n → f i = g i) : arr n f = arr n g := by
  unfold arr
  exact List.map_congr_left fun i hi => h i (List.mem_range.mp hi)
theorem arr_len {n : Nat} {f : Nat → Int} : (arr n f).length = n := by unfold arr; rw [List.length_map, List.length_range]
theorem arr_get {n : Nat} {f : Nat → Int} {i : Nat} {z : Int} (h : (arr n f)[i]? = some z) : i < n ∧ z = f i := by
  unfold arr at h
  obtain ⟨h1, h2⟩ := List.getElem?_eq_some_iff.mp h
  rw [List.getElem_map, List.getElem_range] at h2
  rw [List.length_map, List.length_range] at h1
  exact ⟨h1, h2.symm⟩
theorem set_arr {n : Nat} {f : Nat → Int} {i : Nat} {v : Int} : (arr n f).set i v = arr n (fun j => if j = i then v else f j) := by
  unfold arr
  apply List.ext_getElem
  · simp
  · intro j h1 h2
    rw [List.getElem_set, List.getElem_map, List.getElem_map, List.getElem_range]
    by_cases hj : i = j
    · rw [if_pos hj, if_pos hj.symm]
    · rw [if_neg hj, if_neg (fun z => hj z.symm)]
theorem cnt_step {n : Nat} {f : Nat → Int} {pre : List Int} {y z v : Int} (hy : 0 ≤ y) (hn : y ∉ pre) (hz : (arr n fun i => if inG pre i = true then f i + v else f i)[y.toNat]? = some z) :
    (arr n fun i => if inG pre i = true then f i + v else f i).set y.toNat (z + v) = arr n fun i => if inG (pre ++ [y]) i = true then f i + v else f i := by
  obtain ⟨h1, h2⟩ := arr_get hz
  have hyy : ((y.toNat : Nat) : Int) = y := by omega
  have hnp : inG pre y.toNat = false := by unfold inG; rw [hyy]; exact decide_eq_false hn
  rw [hnp] at h2
  rw [set_arr]
  refine arr_congr fun i hi => ?_
  simp only [inG_app]
  by_cases hi2 : i = y.toNat
  · subst hi2
    rw [if_pos rfl, hyy, decide_eq_true rfl, Bool.or_true, if_pos rfl, h2]
    rfl
  · rw [if_neg hi2, decide_eq_false (fun z => hi2 (by omega)), Bool.or_false]
theorem cnt_zero {n : Nat} {f : Nat → Int} {v : Int} : (arr n fun i => if inG [] i = true then f i + v else f i) = arr n f := rfl
structure CS (m q : Int) (fs : List Int) (rows L : List St0) : Prop where
  len : L.length ≤ 40
  all : ∀ r ∈ L, 1 ≤ r.1 ∧ (r.2.length : Int) = q ∧ ascB 0 fs.length r.2 = true ∧ ∀ x ∈ r.2, 0 ≤ x ∧ x < fs.length
  sum : sumD L = sumD rows / m
  tm : ∀ i, i < fs.length → tms L i = (fs.getD i 0 + psF m fs rows i - 1) / m
  last : ∀ l, L.getLast? = some l → ∀ i, i < fs.length → inG l.2 i = true → (fs.getD i 0 + psF m fs rows i - 1) % m ≤ sumD rows % m
def dF (m : Int) (fs : List Int) (rows : List St0) (i : Nat) : Int := wd m (xsF m fs rows i)
def cvS (r : St0) : Int × Tp Int := (r.1, ⟨r.2⟩)
end Pu
set_option Elab.async false
set_option linter.all false
set_option maxRecDepth 100000
set_option maxHeartbeats 2000000
set_option autoImplicit false
namespace Pu
open PySem PySem.Spec PyProof.Rows L2
theorem ty_sub {α : Type} {a : α} {k : α → Prop} (h : k a) : bnd a k := h
theorem ty_if {p : Prop} {A B : Prop} (h1 : p → A) (h2 : ¬ p → B) : ifP p A B := ⟨h1, h2⟩
theorem ty_ifT {p : Prop} {A B : Prop} (h : p) (h1 : A) : ifP p A B := ⟨fun _ => h1, fun z => absurd h z⟩
theorem ty_ifF {p : Prop} {A B : Prop} (h : ¬ p) (h1 : B) : ifP p A B := ⟨fun z => absurd z h, fun _ => h1⟩
theorem ty_jn {τ : Type} {F : τ → Prop} {K : τ} (h : F K) : jn F K := h
section
variable {α β : Type} {xs : List α}
theorem forK_map {body : α → (List β → Prop) → (List β → Prop)} {K : List β → Prop} (v : α → β) (hl : xs.length ≤ szl)
    (hb : ∀ (pre : List α) (x : α) (post : List α) (k : List β → Prop) (row : List β), xs = pre ++ x :: post → row.length < szl → row = pre.map v → k (row ++ [v x]) → body x k row) (h : K (xs.map v)) : forK xs body K [] := by
  refine forK_ind (J := fun pre (k : List β → Prop) => ∀ row : List β, row = pre.map v → k row) ?_ ?_ _ rfl
  · rintro row rfl
    exact h
  · rintro pre x post k e hk row rfl
    refine hb pre x post k _ e ?_ rfl (hk _ (by simp))
    have := congrArg List.length e
    simp at this ⊢
    omega
theorem forK_all {body : α → Prop → Prop} {K : Prop} (P : α → Prop) (hb : ∀ (pre : List α) (x : α) (post : List α) (k : Prop), xs = pre ++ x :: post → (∀ y ∈ pre, P y) → (P x → k) → body x k) (h : (∀ y ∈ xs, P y) → K) : forK xs body K := by
  refine forK_ind (J := fun pre k => (∀ y ∈ pre, P y) → k) h ?_ (fun _ z => by cases z)
  intro pre x post k e hk hp
  exact hb pre x post k e hp fun px => hk fun y hy => by
    rcases List.mem_append.mp hy with hy | hy
    · exact hp y hy
    · simp at hy; subst hy; exact px
theorem forK_fold {σ : Type} {body : α → (σ → Prop) → (σ → Prop)} {K : σ → Prop} (v : σ → α → σ) {s0 : σ}
    (hb : ∀ (pre : List α) (x : α) (post : List α) (k : σ → Prop), xs = pre ++ x :: post → k (v (pre.foldl v s0) x) → body x k (pre.foldl v s0)) (h : K (xs.foldl v s0)) : forK xs body K s0 := by
  refine forK_ind (J := fun pre (k : σ → Prop) => ∀ s : σ, s = pre.foldl v s0 → k s) ?_ ?_ _ rfl
  · rintro s rfl
    exact h
  · rintro pre x post k e hk s rfl
    exact hb pre x post k e (hk _ (by rw [List.foldl_append]; rfl))
theorem lcK_map {body : α → (Option β → Prop) → Prop} {K : List β → Prop} (v : α → β) (hb : ∀ (pre : List α) (x : α) (post : List α) (k : Option β → Prop), xs = pre ++ x :: post → k (some (v x)) → body x k) (h : K (xs.map v)) : lcK body K xs [] := by
  refine lcK_ind (I := fun pre es => es = pre.map v) rfl (fun es he => by subst he; exact h) ?_
  rintro pre x post es k e rfl h1 _
  exact hb pre x post k e (h1 _ (by simp))
end
theorem rg_map {β : Type} (n : Int) (v : Int → β) : (rg 0 n).map v = (List.range n.toNat).map fun (i : Nat) => v (i : Int) := by
  unfold rg
  rw [List.map_map, Int.sub_zero]
  refine List.map_congr_left fun i _ => ?_
  show v (0 + (i : Int)) = _
  rw [Int.zero_add]
theorem rg_arr (n : Int) (v : Int → Int) : (rg 0 n).map v = arr n.toNat fun i => v (i : Int) := rg_map n v
theorem rg_split {a b : Int} {pre : List Int} {x : Int} {post : List Int} (e : rg a b = pre ++ x :: post) : x = a + pre.length ∧ x < b ∧ pre = rg a x := by
  have hl := congrArg List.length e
  rw [rg_len, List.length_append, List.length_cons] at hl
  have hx : (rg a b)[pre.length]? = some x := by rw [e]; simp
  have h1 : pre.length < (b - a).toNat := by omega
  unfold rg at hx
  rw [List.getElem?_map, List.getElem?_range h1] at hx
  have hx' : x = a + pre.length := (Option.some.inj hx).symm
  refine ⟨hx', by omega, ?_⟩
  have h2 := congrArg (List.take pre.length) e
  rw [List.take_left] at h2
  rw [← h2]
  unfold rg
  rw [← List.map_take, List.take_range, Nat.min_eq_left (by omega)]
  congr 2
  omega
theorem gi_arr {n : Nat} {f : Nat → Int} {i : Int} (h0 : 0 ≤ i) (h1 : i < n) : gi (arr n f) i = f i.toNat := by
  unfold gi arr
  rw [List.getD_eq_getElem?_getD, List.getElem?_map, List.getElem?_range (by omega)]
  rfl
theorem ok_arr {n : Nat} {f : Nat → Int} {i : Int} : ixOk (arr n f) i ↔ 0 ≤ i ∧ i < n := by unfold ixOk; rw [arr_len]
theorem fs_arr (fs : List Int) : fs = arr fs.length fun i => fs.getD i 0 := by
  apply List.ext_getElem
  · rw [arr_len]
  · intro i h1 h2
    simp only [arr, List.getElem_map, List.getElem_range]
    rw [List.getD_eq_getElem?_getD, List.getElem?_eq_getElem h1]
    rfl
theorem filter_rg (n : Int) (p : Int → Bool) : (rg 0 n).filter p = ((List.range n.toNat).filter fun (i : Nat) => p (i : Int)).map Int.ofNat := by
  unfold rg
  rw [List.filter_map, Int.sub_zero]
  have e1 : (List.range n.toNat).filter (p ∘ fun i : Nat => 0 + (i : Int)) = (List.range n.toNat).filter fun (i : Nat) => p (i : Int) := by
    refine List.filter_congr fun i _ => ?_
    show p (0 + (i : Int)) = _
    rw [Int.zero_add]
  rw [e1]
  refine List.map_congr_left fun i _ => ?_
  show 0 + (i : Int) = _
  rw [Int.zero_add]
  rfl
theorem szl_eq : szl = 16777216 := rfl
end Pu
namespace Pu
open PySem PySem.Spec PyProof.Rows L2
theorem ty_take {n : Int} {Q : Int → Prop} (h : ∀ r : Int, 0 ≤ r → r < n → Q r) : takeT n Q := h
theorem ty_ok {n : Int} (h1 : 1 ≤ n) (h2 : n < 2 ^ 190) : takeOk n := ⟨h1, by omega⟩
theorem ty_b62 {n : Int} (h1 : -(2 ^ 60) ≤ n) (h2 : n < 2 ^ 60) : b62 n := ⟨by omega, by omega⟩
theorem ty_b62n {n : Nat} (h2 : n < 2 ^ 60) : b62 (n : Int) := ⟨by omega, by omega⟩
theorem ty_div {n : Int} (h1 : 0 < n) (h2 : n < 2 ^ 100) : divT n := ⟨h1, by omega⟩
theorem ty_mulL {x y : Int} (h1 : -(2 ^ 60) < x) (h2 : x < 2 ^ 60) : mulT x y := .inl ⟨by omega, by omega⟩
theorem ty_mulR {x y : Int} (h1 : -(2 ^ 60) < y) (h2 : y < 2 ^ 60) : mulT x y := .inr ⟨by omega, by omega⟩
end Pu
namespace Pu
theorem forK_cons {α τ : Type} {x : α} {xs : List α} {b : α → τ → τ} {K : τ} : forK (x :: xs) b K = b x (forK xs b K) := rfl
end Pu
namespace Pu
open PySem PySem.Spec PyProof.Rows L2
abbrev allS (n : Nat) (ds : List D) : Prop := ∀ d ∈ ds, okS n d
theorem allS_nil {n : Nat} : allS n [] := fun _ z => by cases z
theorem allS_cons {n : Nat} {d : D} {ds : List D} (h : okS n d) (h2 : allS n ds) : allS n (d :: ds) := fun x hx => by
  rcases List.mem_cons.mp hx with rfl | hx
  · exact h
  · exact h2 x hx
theorem allS_map {α : Type} {n : Nat} {f : α → D} {xs : List α} (h : ∀ x ∈ xs, okS n (f x)) : allS n (xs.map f) := fun d hd => by
  obtain ⟨x, hx, rfl⟩ := List.mem_map.mp hd
  exact h x hx
theorem okS_tup {n : Nat} {ds : List D} (hl : ds.length ≤ szl) (h : allS n ds) : okS (n + 1) (.tup ds) := ⟨hl, h⟩
theorem okS_tupI {n : Nat} {xs : List Int} (hl : xs.length ≤ szl) : okS (n + 2) (.tup (xs.map D.int)) := ⟨by rw [List.length_map]; exact hl, okS_ints xs⟩
theorem okS_rows {n : Nat} {xs : List St0} (hl : xs.length ≤ szl) (h : ∀ r ∈ xs, r.2.length ≤ szl) : okS (n + 4) (.tup (xs.map eSg)) :=
  ⟨by rw [List.length_map]; exact hl, allS_map fun r hr => okS_tup (by simp only [List.length_cons, List.length_nil]; decide) (allS_cons trivial (allS_cons (okS_tupI (h r hr)) allS_nil))⟩
theorem okS_t2 {n : Nat} {d0 d1 : D} (h0 : okS n d0) (h1 : okS n d1) : okS (n + 1) (.tup [d0, d1]) := okS_tup (by simp only [List.length_cons, List.length_nil]; decide) (allS_cons h0 (allS_cons h1 allS_nil))
theorem okS_t5 {n : Nat} {d0 d1 d2 d3 d4 : D} (h0 : okS n d0) (h1 : okS n d1) (h2 : okS n d2) (h3 : okS n d3) (h4 : okS n d4) : okS (n + 1) (.tup [d0, d1, d2, d3, d4]) := okS_tup (by simp only [List.length_cons, List.length_nil]; decide) (allS_cons h0 (allS_cons h1 (allS_cons h2 (allS_cons h3 (allS_cons h4 allS_nil)))))
theorem sameT_of {a b : D} (h : okS 6 a) (e : a = b) : sameT a b := ⟨h, e⟩
end Pu
set_option maxRecDepth 100000
set_option maxHeartbeats 4000000
set_option autoImplicit false
namespace Pu
open PySem PySem.Spec PyProof.Rows L2
set_option hygiene false in
local macro_rules | `(tactic| infer_instance) => `(tactic| (first
  | (with_reducible refine ty_take (fun r hr0 hr1 => ?_))
  | (with_reducible refine ty_sub ?_)
  | (with_reducible refine ty_jn ?_)
  | (with_reducible refine ty_if (fun c => ?_) (fun c => ?_))
  | (with_reducible refine And.intro ?_ ?_)
  | (with_reducible refine ty_ok ?_ ?_)
  | (with_reducible refine ty_b62 ?_ ?_)
  | (with_reducible refine ty_div ?_ ?_)))

theorem ins_mem {α : Type} {xs : List α} {i : Int} {y x : α} : x ∈ ins xs i y ↔ x = y ∨ x ∈ xs := by
  unfold ins
  rw [List.append_assoc, List.mem_append, List.mem_append, List.mem_singleton]
  constructor
  · rintro (h | h | h)
    · exact .inr (List.mem_of_mem_take h)
    · exact .inl h
    · exact .inr (List.mem_of_mem_drop h)
  · rintro (h | h)
    · exact .inr (.inl h)
    · rw [← List.take_append_drop i.toNat xs] at h
      rcases List.mem_append.mp h with h | h
      · exact .inl h
      · exact .inr (.inr h)
theorem ins_len {α : Type} {xs : List α} {i : Int} {y : α} : (ins xs i y).length = xs.length + 1 := by
  unfold ins
  simp only [List.length_append, List.length_take, List.length_drop, List.length_cons, List.length_nil]
  omega
theorem ins_cnt {xs : List Int} {i y : Int} : xs.count 1 ≤ (ins xs i y).count 1 := insCount i.toNat
theorem d_ins {q n k lo : Int} (h3 : 1 ≤ q) (h4 : q ≤ n) (h5 : n ≤ 12) (h6 : 1 ≤ lo) (h7 : 1 ≤ k) (h8 : k ≤ 8) (Q : List Int → Prop) (h : ∀ fs : List Int, fs.length = n.toNat → (∀ x ∈ fs, 1 ≤ x ∧ x ≤ k + lo - 1) → q ≤ fs.count 1 → Q fs) :
    forK (rg 0 (n - q)) (fun (k_ : Int) (kk : (List Int) → Prop) (firsts2 : (List Int)) => takeOk ((firsts2.length : Int) + 1) ∧ takeT ((firsts2.length : Int) + 1) (fun (r4 : Int) => takeOk k ∧ takeT k (fun (r5 : Int) => (firsts2.length < szl ∧ 0 ≤ r4 ∧ r4 < 2 ^ 63) ∧ kk (ins firsts2 r4 (lo + r5))))) Q (List.replicate q.toNat 1) := by
  have hz := szl_eq
  refine forK_ind (J := fun pre (kk : List Int → Prop) => ∀ fs : List Int, fs.length = q.toNat + pre.length → (∀ x ∈ fs, 1 ≤ x ∧ x ≤ k + lo - 1) → q ≤ fs.count 1 → kk fs) ?_ ?_ _ ?_ ?_ ?_
  · intro fs h1 h2 h3'
    rw [rg_len] at h1
    exact h fs (by omega) h2 h3'
  · intro pre x post kk e hk' fs h1 h2 h3'
    obtain ⟨e1, e2, _⟩ := rg_split e
    repeat' (first | infer_instance | fail)
    all_goals (try omega)
    refine hk' _ ?_ ?_ ?_
    · rw [ins_len, List.length_append, List.length_singleton]; omega
    · intro y hy
      rcases ins_mem.mp hy with rfl | hy
      · omega
      · exact h2 y hy
    · exact Int.le_trans h3' (by exact_mod_cast ins_cnt)
  · simp
  · intro x hx
    rw [List.eq_of_mem_replicate hx]
    omega
  · rw [List.count_replicate_self]; omega
theorem depot_t {drivers period : Int} (h1 : 1 ≤ drivers) (h2 : drivers ≤ 12) (h3 : 1 ≤ period) (h4 : period ≤ 8) {Q : Int × Int × List Int → Prop} {X : Exn → Prop} (h : ∀ m q fs, PL m q fs → (fs.length : Int) ≤ drivers → m ≤ period → Q (m, q, fs)) : t__law_depot drivers period Q X := by
  unfold t__law_depot
  repeat' (first | infer_instance | (refine d_ins (lo := 1) ?_ ?_ ?_ ?_ ?_ ?_ _ (fun fs e1 e2 e3 => ?_)) | fail)
  all_goals first
    | omega
    | (unfold mn; split <;> omega)
    | (unfold mn at hr1; split at hr1 <;> omega)
    | (refine h _ _ _ ⟨?_, ?_, ?_, e3, ?_, fun x hx => by have := e2 x hx; omega⟩ ?_ ?_ <;> first | omega | (unfold mn at hr1; split at hr1 <;> omega))
    | skip
theorem great_t {most : Int} (h1 : 0 ≤ most) (h2 : most < 2 ^ 140) {Q : Int → Prop} {X : Exn → Prop} (h : ∀ r, 0 ≤ r → r ≤ most → Q r) : t__law_great most Q X := by
  have hm : ∀ x y : Int, 0 ≤ x → 0 ≤ y → 0 ≤ mn x y ∧ mn x y ≤ x := fun x y _ _ => by unfold mn; split <;> omega
  unfold t__law_great
  repeat' (first | infer_instance | fail)
  all_goals first
    | exact h _ (hm _ _ h1 (by assumption)).1 (hm _ _ h1 (by assumption)).2
    | skip
  intro z hz
  repeat' (first | infer_instance | fail)
  all_goals first
    | omega
    | exact h _ (by omega) (by omega)
    | skip
  refine forK_ind (J := fun _ (k : Int → Prop) => ∀ g : Int, 0 ≤ g → k g) ?_ ?_ _ (by omega)
  · intro g hg
    exact ⟨by omega, h _ (Int.emod_nonneg _ (by omega)) (Int.le_of_lt_add_one (Int.emod_lt_of_pos _ (by omega)))⟩
  · intro pre x post k e hk g hg
    repeat' (first | infer_instance | fail)
    exact hk _ (by omega)
theorem span_t {great : Int} (h1 : 0 ≤ great) (h2 : great < 2 ^ 140) {Q : Int → Prop} {X : Exn → Prop} (h : ∀ r, 1 ≤ r → r ≤ 1 + great ∨ r ≤ 20 → Q r) : t__law_span great Q X := by
  unfold t__law_span
  repeat' (first | infer_instance | (with_reducible refine great_t ?_ ?_ (fun r hr0 hr1 => ?_)) | fail)
  all_goals first
    | omega
    | exact h _ (by omega) (by omega)
    | skip
theorem en_cons {α : Type} {k : Int} {x : α} {xs : List α} : en k (x :: xs) = (k, x) :: en (k + 1) xs := by
  unfold en
  rw [List.zipIdx_cons, List.map_cons]
  congr 1
  · show (k + ((0 : Nat) : Int), x) = _
    rw [Int.natCast_zero, Int.add_zero]
  · have e : List.zipIdx xs (0 + 1) = (List.zipIdx xs).map fun p => (p.1, p.2 + 1) := by
      rw [List.zipIdx_succ]
    rw [e, List.map_map]
    refine List.map_congr_left fun p _ => ?_
    show (k + ((p.2 + 1 : Nat) : Int), p.1) = (k + 1 + (p.2 : Int), p.1)
    congr 1
    omega
theorem asc_t {size : Int} {Q : Bool → Prop} {X : Exn → Prop} : ∀ (ds : List Int), Q (ascB 0 size ds) → t_ascending ds size Q X := by
  have key : ∀ (ds : List Int) (l : Int), Q (ascB l size ds) → forK ds (fun (driver : Int) (k : Int → Prop) (least : Int) => ifP (¬ ((least ≤ driver ∧ driver < size))) (Q false) (bnd (driver + 1) (fun (least2 : Int) => k least2))) (fun (least : Int) => Q true) l := by
    intro ds
    induction ds with
    | nil => intro l h; exact h
    | cons d ds ih =>
      intro l h
      have h' : Q (decide (l ≤ d) && (decide (d < size) && ascB (d + 1) size ds)) := h
      refine ty_if (fun c => ?_) (fun c => ?_)
      · have e : (decide (l ≤ d) && (decide (d < size) && ascB (d + 1) size ds)) = false := by
          by_cases c1 : l ≤ d
          · have c2 : ¬ d < size := fun z => c ⟨c1, z⟩
            rw [decide_eq_false c2, Bool.false_and, Bool.and_false]
          · rw [decide_eq_false c1, Bool.false_and]
        rw [e] at h'
        exact h'
      · have c' := Decidable.not_not.mp c
        refine ty_sub (ih _ ?_)
        rw [decide_eq_true c'.1, decide_eq_true c'.2, Bool.true_and, Bool.true_and] at h'
        exact h'
  intro ds h
  exact key ds 0 h
theorem chkst_t {rows : List St0} {Q : Unit → Prop} {X : Exn → Prop} (h1 : bflt rows = none → Q ()) (h2 : ∀ a s, bflt rows = some (a, s) → X ⟨23, [.int a, .str s]⟩) : t_check_stretches rows Q X := by
  unfold t_check_stretches
  refine ty_if (fun c => ?_) (fun c => ?_)
  · exact h2 _ _ (bflt1 (by omega))
  rw [bflt2 (by omega)] at h1 h2
  have key : ∀ (rs : List St0) (i tot : Int), (sflt i tot rs = none → Q ()) → (∀ a s, sflt i tot rs = some (a, s) → X ⟨23, [.int a, .str s]⟩) → forK (en i rs) (fun (r1 : (Int × (Int × (List Int)))) (k : Int → Prop) (total : Int) => ifP (¬ ((1 ≤ r1.2.1 ∧ r1.2.1 ≤ 1000000000000000000000000000000))) (X ⟨23, [(D.int r1.1), (D.str ("days" : Str))]⟩) (t_ascending r1.2.2 12 (fun (r2 : Bool) => ifP (r2 = true) (bnd (total + r1.2.1) (fun (total2 : Int) => ifP (1000000000000000000000000000000 < total2) (X ⟨23, [(D.int r1.1), (D.str ("total" : Str))]⟩) (k total2))) (X ⟨23, [(D.int r1.1), (D.str ("runners" : Str))]⟩)) X)) (fun (total : Int) => Q ()) tot := by
    intro rs
    induction rs with
    | nil => intro i tot g1 _; exact g1 rfl
    | cons r rs ih =>
      intro i tot g1 g2
      rw [en_cons]
      refine ty_if (fun c => ?_) (fun c => ?_)
      · exact g2 _ _ (sflt1 c)
      have c' := Decidable.not_not.mp c
      refine asc_t _ (ty_if (fun c2 => ?_) (fun c2 => ?_))
      · refine ty_sub (ty_if (fun c3 => ?_) (fun c3 => ?_))
        · exact g2 _ _ (sflt3 c' c2 c3)
        · rw [sflt4 c' c2 c3] at g1 g2
          exact ih _ _ g1 g2
      · exact g2 _ _ (sflt2 c' (by simpa using c2))
  exact key rows 0 0 h1 h2
theorem jstep_eq {acc : List St0} {r : St0} : jstep acc r = if acc ≠ [] ∧ (lastD acc).2 = r.2 then setLast acc ((lastD acc).1 + r.1, r.2) else acc ++ [r] := by
  unfold jstep
  cases e : acc.getLast? with
  | none =>
    rw [List.getLast?_eq_none_iff] at e
    subst e
    rfl
  | some l =>
    have hne : acc ≠ [] := fun z => by subst z; cases e
    have el : lastD acc = l := by
      unfold lastD
      rw [List.getLastD_eq_getLast?, e]
      rfl
    simp only [el]
    by_cases c : l.2 = r.2
    · rw [if_pos c, if_pos ⟨hne, c⟩]
      rfl
    · rw [if_neg c, if_neg (fun z => c z.2)]
theorem foldl_jo (rows : List St0) : rows.foldl jstep [] = jo rows := rfl
theorem join_t {rows : List St0} (hl : rows.length ≤ szl) {Q : List St0 → Prop} {X : Exn → Prop} (h : Q (jo rows)) : t_join_neighbours rows Q X := by
  unfold t_join_neighbours
  refine forK_fold (v := jstep) ?_ h
  intro pre x post k e hk
  refine ⟨fun z => z, ty_if (fun c => ⟨c.1, c.1, ?_⟩) (fun c => ⟨?_, ?_⟩)⟩
  · rw [jstep_eq, if_pos c] at hk
    exact hk
  · have h1 := jn_len pre
    have := congrArg List.length e
    rw [List.length_append, List.length_cons] at this
    rw [foldl_jo]
    omega
  · rw [jstep_eq, if_neg c] at hk
    exact hk
theorem map_eta (rows : List St0) : List.map (fun (r : St0) => (r.1, r.2)) rows = rows := by
  induction rows with
  | nil => rfl
  | cons r rs ih => rw [List.map_cons, ih]
theorem book_t {rows : List St0} {Q : Bk → Prop} {X : Exn → Prop} (h1 : bflt rows = none → Q ⟨jo rows, sumD rows⟩) (h2 : ∀ a s, bflt rows = some (a, s) → X ⟨23, [.int a, .str s]⟩) : t_BookU_initU rows Q X := by
  have hz := szl_eq
  unfold t_BookU_initU
  refine chkst_t (fun e => ?_) h2
  have hl : rows.length ≤ 400 := by
    unfold bflt at e
    split at e
    · cases e
    · omega
  refine ⟨by omega, ?_⟩
  rw [map_eta]
  refine join_t (by omega) ⟨?_, ?_⟩
  · have := jn_len rows
    omega
  · have := h1 e
    rw [← jn_sum rows] at this
    exact this
theorem bookg_t {rows : List St0} (hl : rows.length ≤ 400) (hg : Good rows) (hs : sumD rows ≤ 1000000000000000000000000000000) {Q : Bk → Prop} {X : Exn → Prop} (h : Q ⟨jo rows, sumD rows⟩) : t_BookU_initU rows Q X := book_t (fun _ => h) fun a s e => by
  rw [good_bflt hl hg hs] at e
  cases e
theorem dep_t {p q : Int} {fs : List Int} (g : GoodDepot p q fs) {Q : Dp → Prop} {X : Exn → Prop} (h : Q ⟨p, q, fs⟩) : t_DepotU_initU p q fs Q X := by
  obtain ⟨g1, g2, g3, g4, g5, g6, g7, g8⟩ := g
  unfold t_DepotU_initU t_check_period_and_quota
  refine ty_ifF (fun z => z ⟨g1, g2⟩) (ty_ifF (fun z => z ⟨g3, g4⟩) ?_)
  unfold t_check_firsts
  refine ty_ifF (fun z => z ⟨g5, g6⟩) ?_
  refine forK_all (P := fun _ => True) ?_ (fun _ => ty_sub (ty_ifF (by omega) h))
  intro pre x post k e _ hk
  have hx : x.2 ∈ fs := by
    have : x ∈ en 0 fs := by rw [e]; simp
    unfold en at this
    obtain ⟨y, hy, rfl⟩ := List.mem_map.mp this
    exact List.fst_mem_of_mem_zipIdx hy
  exact ty_ifF (fun z => z (g7 _ hx)) (hk trivial)
theorem filt_any {g : List Int} {p : Int → Bool} : (g.filter p) ≠ [] ↔ g.any p = true := by
  rw [List.any_eq_true]
  constructor
  · intro h
    obtain ⟨a, as, e⟩ := List.exists_cons_of_ne_nil h
    have : a ∈ g.filter p := by rw [e]; exact List.mem_cons_self
    exact ⟨a, (List.mem_filter.mp this).1, (List.mem_filter.mp this).2⟩
  · rintro ⟨x, hx, hp⟩ e
    have : x ∈ g.filter p := List.mem_filter.mpr ⟨hx, hp⟩
    rw [e] at this
    cases this
theorem any_congr {g : List Int} {p q : Int → Bool} (h : ∀ x ∈ g, p x = q x) : g.any p = g.any q := by
  induction g with
  | nil => rfl
  | cons a g ih => rw [List.any_cons, List.any_cons, h a List.mem_cons_self, ih fun x hx => h x (List.mem_cons_of_mem _ hx)]
theorem chkr_t {dp : Dp} {at_ b : Int} {g : List Int} {f : Nat → Int} (hg0 : ∀ x ∈ g, 0 ≤ x) (hgl : g.length ≤ 1000) {Q : Unit → Prop} {X : Exn → Prop} (h1 : fb1 dp.q dp.f.length b f g = none → Q ()) (h2 : ∀ s, fb1 dp.q dp.f.length b f g = some s → X ⟨23, [.int at_, .str s]⟩) :
    t_check_runners dp at_ g (arr dp.f.length f) b Q X := by
  have hz := szl_eq
  unfold t_check_runners g_Depot_size
  refine ⟨by omega, ty_if (fun c => ?_) (fun c => ?_)⟩
  · have c1 := filt_any.mp c
    exact h2 _ (by unfold fb1; rw [if_pos c1])
  have c1 : ¬ g.any (fun x => decide ((dp.f.length : Int) ≤ x)) = true := fun z => c (filt_any.mpr z)
  refine ty_if (fun c2 => ?_) (fun c2 => ?_)
  · exact h2 _ (by unfold fb1; rw [if_neg c1, if_pos c2])
  have hlt : ∀ x ∈ g, x < dp.f.length := fun x hx => by
    have : ¬ (dp.f.length : Int) ≤ x := fun z => c1 (List.any_eq_true.mpr ⟨x, hx, decide_eq_true z⟩)
    omega
  have hok : ∀ x ∈ g, gi (arr dp.f.length f) x = f x.toNat := fun x hx => gi_arr (hg0 x hx) (hlt x hx)
  have e : g.any (fun x => decide (gi (arr dp.f.length f) x ≠ b)) = g.any (fun x => decide (f x.toNat ≠ b)) := any_congr fun x hx => by rw [hok x hx]
  refine ⟨by omega, fun x hx => ok_arr.mpr ⟨hg0 x hx, hlt x hx⟩, ty_if (fun c3 => ?_) (fun c3 => ?_)⟩
  · have c4 := filt_any.mp c3
    rw [e] at c4
    exact h2 _ (by unfold fb1; rw [if_neg c1, if_neg c2, if_pos c4])
  · have c4 : ¬ g.any (fun x => decide (f x.toNat ≠ b)) = true := fun z => c3 (filt_any.mpr (by rw [e]; exact z))
    exact h1 (by unfold fb1; rw [if_neg c1, if_neg c2, if_neg c4])
theorem mix_arr0 {n : Nat} {new old : Nat → Int} : arr n old = mixR n 0 new old := mix_zero.symm
theorem mix_arrN {n : Nat} {new old : Nat → Int} : mixR n n new old = arr n new := mix_full
theorem mix_gi {n k : Nat} {new old : Nat → Int} (h : k < n) : gi (mixR n k new old) (k : Int) = old k := by
  unfold mixR gi
  rw [List.getD_eq_getElem?_getD, List.getElem?_map, Int.toNat_natCast, List.getElem?_range h]
  show (if k < k then _ else _) = _
  rw [if_neg (by omega)]
theorem mix_st {n k : Nat} {new old : Nat → Int} {v : Int} (h : k < n) (hv : v = new k) : st (mixR n k new old) (k : Int) v = mixR n (k + 1) new old := by
  unfold st
  rw [Int.toNat_natCast, hv, mix_set h]
theorem mix_ok {n k j : Nat} {new old : Nat → Int} (h : k < n) : ixOk (mixR n j new old) (k : Int) := by
  unfold ixOk
  rw [mix_len]
  omega
theorem mixW_t {dp : Dp} (hm : 1 ≤ dp.p) (hm8 : dp.p ≤ 8) (hn : dp.f.length ≤ 1000) {fs : List Int} {pre : List St0} {r : St0} {b : Int} (hb : b = 1 + sumD pre + r.1) {K : List Int → List Int → List Int → Prop}
    (h : K (arr dp.f.length (psF dp.p fs (pre ++ [r]))) (arr dp.f.length (lsF dp.p fs (pre ++ [r]))) (arr dp.f.length (xsF dp.p fs (pre ++ [r])))) :
    forK (rg 0 (g_Depot_size dp)) (fun (driver : Int) (k : (List Int) → (List Int) → (List Int) → Prop) (passes3 : (List Int)) (longs3 : (List Int)) (nexts2 : (List Int)) => ifP (driver ∈ r.2) (ixOk passes3 driver ∧ ixOk passes3 driver ∧ ixOk nexts2 driver ∧ k (st passes3 driver ((gi passes3 driver) + r.1)) longs3 (st nexts2 driver b)) (ixOk nexts2 driver ∧ sd_long_runs dp (gi nexts2 driver) b ∧ bnd (g_long_runs dp (gi nexts2 driver) b) (fun (runs : Int) => ixOk longs3 driver ∧ ixOk longs3 driver ∧ ixOk nexts2 driver ∧ mulT runs dp.p ∧ ixOk nexts2 driver ∧ k passes3 (st longs3 driver ((gi longs3 driver) + runs)) (st nexts2 driver ((gi nexts2 driver) + (runs * dp.p))))))
      K (arr dp.f.length (psF dp.p fs pre)) (arr dp.f.length (lsF dp.p fs pre)) (arr dp.f.length (xsF dp.p fs pre)) := by
  refine forK_ind (J := fun pr (k : List Int → List Int → List Int → Prop) => ∀ a b c, a = mixR dp.f.length pr.length (psF dp.p fs (pre ++ [r])) (psF dp.p fs pre) → b = mixR dp.f.length pr.length (lsF dp.p fs (pre ++ [r])) (lsF dp.p fs pre) → c = mixR dp.f.length pr.length (xsF dp.p fs (pre ++ [r])) (xsF dp.p fs pre) → k a b c) ?_ ?_ _ _ _ mix_arr0 mix_arr0 mix_arr0
  · rintro a b c rfl rfl rfl
    have e : (rg 0 (g_Depot_size dp)).length = dp.f.length := by rw [rg_len]; unfold g_Depot_size; omega
    rw [e, mix_arrN, mix_arrN, mix_arrN]
    exact h
  · rintro pr x post k e hk a c d rfl rfl rfl
    obtain ⟨hx, hxn, _⟩ := rg_split e
    have hxn' : pr.length < dp.f.length := by unfold g_Depot_size at hxn; omega
    have hx' : x = (pr.length : Int) := by omega
    subst hx'
    have s1 := stx dp.p fs pre r pr.length
    have hin : inG r.2 pr.length = decide ((pr.length : Int) ∈ r.2) := rfl
    simp only [List.length_append, List.length_cons, List.length_nil, Nat.zero_add] at hk
    refine ty_if (fun c => ?_) (fun c => ?_)
    · obtain ⟨g1, g2, g3⟩ := s1.1 (hin.trans (decide_eq_true c))
      rw [mix_gi hxn', mix_st hxn' g1.symm, mix_st hxn' (by rw [g3, hb]), mix_keep g2]
      exact ⟨mix_ok hxn', mix_ok hxn', mix_ok hxn', hk _ _ _ rfl rfl rfl⟩
    · obtain ⟨g1, g2, g3⟩ := s1.2 (hin.trans (decide_eq_false c))
      rw [mix_gi hxn', mix_gi hxn']
      refine ⟨mix_ok hxn', ty_div (by omega) (by omega), ty_sub ⟨mix_ok hxn', mix_ok hxn', mix_ok hxn', ty_mulR (by omega) (by omega), mix_ok hxn', ?_⟩⟩
      rw [mix_keep g1, mix_st hxn' (by rw [g2, hb]; rfl), mix_st hxn' (by rw [g3, hb]; rfl)]
      exact hk _ _ _ rfl rfl rfl
theorem arr0 {n : Nat} : arr n (fun _ => (0 : Int)) = List.replicate n 0 := by
  unfold arr
  apply List.ext_getElem <;> simp
theorem ps0 {m : Int} {fs : List Int} (n : Nat) : List.replicate n (0 : Int) = arr n (psF m fs []) := arr0.symm
theorem ls0 {m : Int} {fs : List Int} (n : Nat) : List.replicate n (0 : Int) = arr n (lsF m fs []) := arr0.symm
theorem xs0 {m : Int} {fs : List Int} : fs = arr fs.length (xsF m fs []) := fs_arr fs
theorem walk_t {dp : Dp} (p : PL dp.p dp.q dp.f) {J : List St0} {N : Int} (hJ : J.length ≤ 1000) (hg : ∀ r ∈ J, r.2.length ≤ 100 ∧ ∀ x ∈ r.2, 0 ≤ x) {Q : Af → Prop} {X : Exn → Prop}
    (h1 : fbad dp.p dp.q dp.f [] J = none → Q ⟨N, arr dp.f.length (psF dp.p dp.f J), arr dp.f.length (lsF dp.p dp.f J), arr dp.f.length (xsF dp.p dp.f J), dp⟩) (h2 : ∀ a s, fbad dp.p dp.q dp.f [] J = some (a, s) → X ⟨23, [.int a, .str s]⟩) : t_walk dp ⟨J, N⟩ Q X := by
  have hm := p.m1
  have hm8 := p.m8
  have hn := p.n12
  have hsz : g_Depot_size dp = dp.f.length := rfl
  unfold t_walk
  refine ⟨⟨by omega, by omega⟩, ty_sub ⟨⟨by omega, by omega⟩, ty_sub ?_⟩⟩
  have key : ∀ (rs pre : List St0), J = pre ++ rs → fbad dp.p dp.q dp.f [] J = fbad dp.p dp.q dp.f pre rs → forK (en pre.length rs) (fun (r1 : (Int × (Int × (List Int)))) (k : (List Int) → (List Int) → (List Int) → Int → Prop) (passes2 : (List Int)) (longs2 : (List Int)) (nexts : (List Int)) (behind : Int) => t_check_runners dp r1.1 r1.2.2 nexts behind (fun (r3 : Unit) => bnd (behind + r1.2.1) (fun (behind2 : Int) => b62 (g_Depot_size dp) ∧ forK (rg 0 (g_Depot_size dp)) (fun (driver : Int) (k : (List Int) → (List Int) → (List Int) → Prop) (passes3 : (List Int)) (longs3 : (List Int)) (nexts2 : (List Int)) => ifP (driver ∈ r1.2.2) (ixOk passes3 driver ∧ ixOk passes3 driver ∧ ixOk nexts2 driver ∧ k (st passes3 driver ((gi passes3 driver) + r1.2.1)) longs3 (st nexts2 driver behind2)) (ixOk nexts2 driver ∧ sd_long_runs dp (gi nexts2 driver) behind2 ∧ bnd (g_long_runs dp (gi nexts2 driver) behind2) (fun (runs : Int) => ixOk longs3 driver ∧ ixOk longs3 driver ∧ ixOk nexts2 driver ∧ mulT runs dp.p ∧ ixOk nexts2 driver ∧ k passes3 (st longs3 driver ((gi longs3 driver) + runs)) (st nexts2 driver ((gi nexts2 driver) + (runs * dp.p)))))) (fun (passes3 : (List Int)) (longs3 : (List Int)) (nexts2 : (List Int)) => k passes3 longs3 nexts2 behind2) passes2 longs2 nexts)) (fun e => noLL e.ds = true ∧ X e))
      (fun (passes2 : (List Int)) (longs2 : (List Int)) (nexts : (List Int)) (behind : Int) => t_AfterU_initU dp N passes2 longs2 nexts (fun (r2 : Af) => Q r2) (fun e => noLL e.ds = true ∧ X e)) (arr dp.f.length (psF dp.p dp.f pre)) (arr dp.f.length (lsF dp.p dp.f pre)) (arr dp.f.length (xsF dp.p dp.f pre)) (1 + sumD pre) := by
    intro rs
    induction rs with
    | nil =>
      intro pre e1 e2
      rw [List.append_nil] at e1
      subst e1
      exact h1 (by rw [e2]; rfl)
    | cons r rs ih =>
      intro pre e1 e2
      have hr := hg r (by rw [e1]; simp)
      have hfb : fbad dp.p dp.q dp.f pre (r :: rs) = match fb1 dp.q dp.f.length (1 + sumD pre) (xsF dp.p dp.f pre) r.2 with
        | some s => some ((pre.length : Int), s)
        | none => fbad dp.p dp.q dp.f (pre ++ [r]) rs := rfl
      rw [en_cons, forK_cons]
      show t_check_runners dp _ r.2 _ _ _ _
      refine chkr_t (dp := dp) hr.2 (by omega) (fun eq1 => ?_) (fun s eq1 => ⟨rfl, h2 _ _ (by rw [e2, hfb, eq1])⟩)
      refine ty_sub ⟨by rw [hsz]; exact ty_b62n (by omega), ?_⟩
      refine mixW_t (pre := pre) (r := r) (fs := dp.f) hm hm8 (by omega) rfl ?_
      have f := ih (pre ++ [r]) (by rw [e1, List.append_assoc]; rfl) (by rw [e2, hfb, eq1])
      rw [List.length_append, List.length_singleton] at f
      rw [← sumD_snoc]
      exact f
  have f := key J [] rfl rfl
  have e0 : (1 : Int) + sumD [] = 1 := rfl
  rw [e0, ← ps0, ← ls0, ← xs0] at f
  exact f
theorem here_eq {n : Nat} {f : Nat → Int} {b : Int} : g__law_here (arr n f) b = hereL n f b := by
  unfold g__law_here
  rw [filter_rg, arr_len]
  unfold hereL
  rw [Int.toNat_natCast]
  congr 1
  refine List.filter_congr fun i hi => ?_
  rw [gi_arr (by omega) (by have := List.mem_range.mp hi; omega), Int.toNat_natCast]
theorem here_sd {n : Nat} {f : Nat → Int} {b : Int} (hn : n ≤ 1000) : sd__law_here (arr n f) b := by
  have hz := szl_eq
  unfold sd__law_here
  rw [arr_len]
  refine ⟨ty_b62n (by omega), by rw [rg_len]; omega, fun i hi => ?_⟩
  have := rg_mem.mp hi
  exact ok_arr.mpr ⟨by omega, by omega⟩
theorem choose_t {here : List Int} {many : Int} (h0 : 0 ≤ many) (h1 : many ≤ here.length) (h2 : here.length ≤ 1000) (nd : here.Nodup) {Q : List Int → Prop} {X : Exn → Prop}
    (h : ∀ crew : List Int, (crew.length : Int) = many → crew.Nodup → (∀ x ∈ crew, x ∈ here) → crew.Pairwise (· ≤ ·) → Q crew) : t__law_choose here many Q X := by
  have hz := szl_eq
  unfold t__law_choose
  refine ⟨ty_b62 (by omega) (by omega), ?_⟩
  refine forK_ind (J := fun pre (k : List Int → List Int → Prop) => ∀ rest got, (got ++ rest).Perm here → got.length = pre.length → k rest got) ?_ ?_ _ _ (by simp) rfl
  · intro rest got hp hl
    rw [rg_len] at hl
    have hs := srt_perm got
    have hnd : (got ++ rest).Nodup := hp.symm.nodup nd
    refine h _ ?_ ?_ ?_ (srt_sorted got)
    · rw [hs.length_eq, hl]; omega
    · exact hs.symm.nodup (List.nodup_append.mp hnd).1
    · intro x hx
      exact hp.subset (List.mem_append_left _ (hs.subset hx))
  · intro pre x post k e hk rest got hp hl
    obtain ⟨e1, e2, _⟩ := rg_split e
    have hlen := hp.length_eq
    rw [List.length_append] at hlen
    refine ⟨ty_ok (by omega) (by omega), ty_take fun r hr0 hr1 => ?_⟩
    have hr : r.toNat < rest.length := by omega
    have eg : gi rest r = rest[r.toNat] := by
      have := gi_nat hr
      rw [show ((r.toNat : Nat) : Int) = r by omega] at this
      exact this
    refine ⟨⟨⟨by omega, by omega⟩, by omega⟩, by omega, hk _ _ ?_ (by simp [hl])⟩
    rw [List.append_assoc, eg]
    exact (List.Perm.append_left got (perm_erase hr)).trans hp
theorem gone_t {m span start : Int} {crew : List Int} {n : Nat} {f : Nat → Int} (hm : 1 ≤ m) (hm8 : m ≤ 8) (hn : n ≤ 1000) (hf : ∀ i, i < n → f i < start + span + m) {Q : List Int → Prop} {X : Exn → Prop}
    (h : Q (arr n fun i => if inG crew i = true then start + span else f i + (start + span - f i + m - 1) / m * m)) : t__law_gone (arr n f) crew span start m Q X := by
  have hz := szl_eq
  unfold t__law_gone
  rw [arr_len]
  refine ⟨ty_b62n (by omega), forK_map (v := fun x => if inG crew x.toNat = true then start + span else f x.toNat + (start + span - f x.toNat + m - 1) / m * m) (by rw [rg_len]; omega) ?_ ?_⟩
  · intro pre x post k row e hl _ hk
    obtain ⟨e1, e2, _⟩ := rg_split e
    have hx : x.toNat < n := by omega
    have hin : inG crew x.toNat = decide (x ∈ crew) := by unfold inG; rw [show ((x.toNat : Nat) : Int) = x by omega]
    have hfx := hf _ hx
    rw [gi_arr (by omega) (by omega)]
    refine ⟨ok_arr.mpr ⟨by omega, by omega⟩, ty_sub (ty_jn (ty_if (fun c => ?_) (fun c => ?_)))⟩
    · rw [hin, decide_eq_true c] at hk
      exact ty_sub ⟨hl, hk⟩
    · rw [hin, decide_eq_false c] at hk
      refine ty_if (fun c2 => ?_) (fun c2 => ?_)
      · refine ⟨ty_div (by omega) (by omega), ty_mulL (by omega) (by omega), ty_sub ⟨hl, ?_⟩⟩
        rw [Int.mul_comm]
        exact hk
      · have e0 : (start + span - f x.toNat + m - 1) / m = 0 := Int.ediv_eq_zero_of_lt (by omega) (by omega)
        rw [e0, Int.zero_mul, Int.add_zero] at hk
        exact ⟨hl, hk⟩
  · rw [rg_arr]
    exact h
theorem xs_snoc {m : Int} {fs : List Int} {rows : List St0} {r : St0} {n : Nat} : (arr n fun i => if inG r.2 i = true then 1 + sumD rows + r.1 else xsF m fs rows i + (1 + sumD rows + r.1 - xsF m fs rows i + m - 1) / m * m) = arr n (xsF m fs (rows ++ [r])) := by
  refine arr_congr fun i _ => ?_
  unfold xsF
  rw [stA_snoc]
  unfold step1
  split <;> rfl
theorem psF_snoc' {m : Int} {fs : List Int} {pre : List St0} {r : St0} {i : Nat} : psF m fs (pre ++ [r]) i = if inG r.2 i = true then psF m fs pre i + r.1 else psF m fs pre i := by
  unfold psF
  rw [stA_snoc]
  unfold step1
  split <;> rfl
theorem cnt_ind {n : Nat} {f : Nat → Int} {v : Int} {crew : List Int} {body : Int → (List Int → Prop) → List Int → Prop} (nd : crew.Nodup) {K : List Int → Prop}
    (hb : ∀ (i : Int) (k : List Int → Prop) (c : List Int), i ∈ crew → c.length = n → k (st c i (gi c i + v)) → body i k c) (hr : ∀ x ∈ crew, 0 ≤ x ∧ x < n)
    (h : K (arr n fun i => if inG crew i = true then f i + v else f i)) : forK crew body K (arr n f) := by
  refine forK_ind (J := fun pre (k : List Int → Prop) => ∀ c, c = (arr n fun i => if inG pre i = true then f i + v else f i) → k c) ?_ ?_ _ cnt_zero.symm
  · rintro c rfl
    exact h
  · rintro pre y post k e hk c rfl
    have hy := hr y (by rw [e]; simp)
    have hnp : y ∉ pre := by
      rw [e] at nd
      exact fun z => (List.nodup_append.mp nd).2.2 y z y (by simp) rfl
    refine hb y k _ (by rw [e]; simp) arr_len (hk _ ?_)
    have hz : (arr n fun i => if inG pre i = true then f i + v else f i)[y.toNat]? = some (gi (arr n fun i => if inG pre i = true then f i + v else f i) y) := gi_get (ok_arr.mpr hy)
    exact cnt_step hy.1 hnp hz
theorem cnt_t {n : Nat} {f : Nat → Int} {v : Int} {crew : List Int} (nd : crew.Nodup) (hr : ∀ x ∈ crew, 0 ≤ x ∧ x < n) {K : List Int → Prop}
    (h : K (arr n fun i => if inG crew i = true then f i + v else f i)) : forK crew (fun (i : Int) (k : (List Int) → Prop) (c : (List Int)) => ixOk c i ∧ ixOk c i ∧ k (st c i ((gi c i) + v))) K (arr n f) := by
  refine cnt_ind nd (fun i k c hi hc hk => ?_) hr h
  have := hr i hi
  have ok : ixOk c i := ⟨this.1, by rw [hc]; exact this.2⟩
  exact ⟨ok, ok, hk⟩
theorem cnt_ps {m : Int} {fs : List Int} {pre : List St0} {r : St0} {n : Nat} : (arr n fun i => if inG r.2 i = true then psF m fs pre i + r.1 else psF m fs pre i) = arr n (psF m fs (pre ++ [r])) :=
  arr_congr fun i _ => psF_snoc'.symm
theorem draw_ok {m q : Int} {fs : List Int} (p : PL m q fs) {rows : List St0} {crew : List Int} {span : Int} (hg : Good rows) (hv : Vld m q fs rows) (hs : 1 ≤ span) (h1 : (crew.length : Int) = q) (h2 : crew.Nodup)
    (h3 : ∀ y ∈ crew, y ∈ hereL fs.length (xsF m fs rows) (1 + sumD rows)) (h4 : crew.Pairwise (· ≤ ·)) : Good (rows ++ [(span, crew)]) ∧ Vld m q fs (rows ++ [(span, crew)]) ∧ ∀ x ∈ crew, 0 ≤ x ∧ x < fs.length := by
  have hn := p.n12
  have hr : ∀ x ∈ crew, 0 ≤ x ∧ x < fs.length := fun x hx => ⟨(hereL_mem (h3 x hx)).1, (hereL_mem (h3 x hx)).2.1⟩
  refine ⟨fun r hr' => ?_, hv.snoc (okAt_of h1 h2 h3), hr⟩
  rcases List.mem_append.mp hr' with hr' | hr'
  · exact hg r hr'
  · simp only [List.mem_singleton] at hr'
    subst hr'
    exact ⟨hs, asc_of_sorted 0 12 crew h4 h2 fun y hy => by have := hr y hy; omega, by simp only; have := p.qn; omega⟩
theorem here_len {m q : Int} {fs : List Int} (p : PL m q fs) {rows : List St0} (hv : Vld m q fs rows) : q ≤ (hereL fs.length (xsF m fs rows) (1 + sumD rows)).length ∧ (hereL fs.length (xsF m fs rows) (1 + sumD rows)).length ≤ fs.length := by
  refine ⟨by rw [hereL_len]; exact st_here p hv, ?_⟩
  unfold hereL
  rw [List.length_map]
  have := List.length_filter_le (fun i => decide (xsF m fs rows i = 1 + sumD rows)) (List.range fs.length)
  rw [List.length_range] at this
  exact this
theorem mx_ge {a b : Int} : a ≤ mx a b ∧ b ≤ mx a b ∧ (mx a b = a ∨ mx a b = b) := by unfold mx; split <;> omega
theorem asc_of_lt {l n : Int} {xs : List Int} (h : xs.Pairwise (· < ·)) (h2 : ∀ x ∈ xs, l ≤ x ∧ x < n) : ascB l n xs = true := by
  refine asc_of_sorted l n xs (h.imp fun z => by omega) ?_ h2
  exact h.imp fun z => by omega
theorem asc_len {l n : Int} {xs : List Int} (h : ascB l n xs = true) : (xs.length : Int) ≤ mx 0 (n - l) := by
  induction xs generalizing l with
  | nil => exact (mx_ge (a := 0) (b := n - l)).1
  | cons x xs ih =>
    have h' : (decide (l ≤ x) && (decide (x < n) && ascB (x + 1) n xs)) = true := h
    rw [Bool.and_eq_true, Bool.and_eq_true] at h'
    have h1 := of_decide_eq_true h'.1
    have h2 := of_decide_eq_true h'.2.1
    have h3 := ih h'.2.2
    have h4 := mx_ge (a := 0) (b := n - (x + 1))
    have h5 := mx_ge (a := 0) (b := n - l)
    rw [List.length_cons]
    omega
theorem good_of {v : Int} {crew : List Int} (h1 : 1 ≤ v) (h2 : ascB 0 12 crew = true) : Good [(v, crew)] := fun r hr => by
  simp only [List.mem_singleton] at hr
  subst hr
  have := asc_len h2
  have h3 : mx 0 (12 - 0) = 12 := rfl
  exact ⟨h1, h2, by simp only; omega⟩
theorem good_app {a b : List St0} (h1 : Good a) (h2 : Good b) : Good (a ++ b) := fun r hr => by
  rcases List.mem_append.mp hr with hr | hr
  · exact h1 r hr
  · exact h2 r hr
def BkOk (rows : List St0) : Prop := Good rows ∧ sumD rows ≤ 1000000000000000000000000000000 ∧ rows.length ≤ 400
theorem era_len {α : Type} {xs : List α} {i : Int} (h : ixOk xs i) : (era xs i).length + 1 = xs.length := by
  have h1 := h.1
  have h2 := h.2
  unfold era
  rw [List.length_eraseIdx]
  rw [if_pos (by omega)]
  omega
theorem st_len {α : Type} {xs : List α} {i : Int} {y : α} : (st xs i y).length = xs.length := by unfold st; rw [List.length_set]
theorem at_split {α : Type} [Inhabited α] {xs : List α} {i : Int} (h : ixOk xs i) : ∃ a b, xs = a ++ gi xs i :: b ∧ (a.length : Int) = i ∧ (∀ y, st xs i y = a ++ y :: b) ∧ era xs i = a ++ b ∧ (∀ y, ins xs i y = a ++ y :: gi xs i :: b) := by
  have h1 := h.1
  have h2 := h.2
  have hi : i.toNat < xs.length := by omega
  have eg : gi xs i = xs[i.toNat] := by
    have := gi_nat hi
    rw [show ((i.toNat : Nat) : Int) = i by omega] at this
    exact this
  refine ⟨xs.take i.toNat, xs.drop (i.toNat + 1), ?_, ?_, fun y => ?_, ?_, fun y => ?_⟩
  · rw [eg]
    exact (by rw [← List.drop_eq_getElem_cons, List.take_append_drop])
  · rw [List.length_take]; omega
  · unfold st
    rw [List.set_eq_take_append_cons_drop, if_pos hi]
  · unfold era
    rw [List.eraseIdx_eq_take_drop_succ]
  · unfold ins
    rw [eg, ← List.drop_eq_getElem_cons, List.append_assoc]
    rfl
theorem good_split {a b : List St0} {r : St0} (h : Good (a ++ r :: b)) : Good a ∧ Good b ∧ (1 ≤ r.1 ∧ ascB 0 12 r.2 = true ∧ r.2.length ≤ 12) :=
  ⟨fun x hx => h x (by simp [hx]), fun x hx => h x (by simp [hx]), h r (by simp)⟩
theorem good_mid {a b : List St0} {v : Int} {crew : List Int} (ha : Good a) (hb : Good b) (h1 : 1 ≤ v) (h2 : ascB 0 12 crew = true) : Good (a ++ (v, crew) :: b) := by
  have := good_app ha (good_app (good_of h1 h2) hb)
  exact this
theorem sumD_mid {a b : List St0} {r : St0} : sumD (a ++ r :: b) = sumD a + r.1 + sumD b := by rw [sumD_append, sumD_cons]; omega
def mir (m : Int) (fs : List Int) (rows : List St0) : List Int := arr fs.length fun i => (sumD rows + 1 - xsF m fs rows i) % m + 1
theorem BkOk.jo {rows : List St0} (h : BkOk rows) : BkOk (Pu.jo rows) := ⟨jn_good h.1, by rw [jn_sum]; exact h.2.1, Nat.le_trans (jn_len rows) h.2.2⟩
theorem BkOk.walk {rows : List St0} (h : BkOk rows) : ∀ r ∈ rows, (r.2.length ≤ 100 ∧ ∀ x ∈ r.2, 0 ≤ x) ∧ r.2.Nodup := fun r hr => by
  obtain ⟨g1, g2, g3⟩ := h.1 r hr
  obtain ⟨a1, a2⟩ := asc_all 0 12 r.2 g2
  exact ⟨⟨by omega, a1⟩, a2⟩
def wreas (have_ : Int → Int) (need : List Int) : List (Str × Int × Int × Int) := (en 1 need).filterMap fun r => if have_ r.1 ≠ r.2 then some (("weekday" : Str), r.1, have_ r.1, r.2) else none
theorem joined_t {rows : List St0} (hl : rows.length ≤ szl) {Q : List St0 → Prop} {X : Exn → Prop} (h : Q (jo rows)) : t__law_joined rows Q X := by
  unfold t__law_joined
  refine forK_fold (v := jstep) ?_ h
  intro pre x post k e hk
  refine ⟨fun z => z, ty_if (fun c => ⟨c.1, c.1, ?_⟩) (fun c => ⟨?_, ?_⟩)⟩
  · rw [jstep_eq, if_pos c] at hk
    exact hk
  · have h1 := jn_len pre
    have := congrArg List.length e
    rw [List.length_append, List.length_cons] at this
    rw [foldl_jo]
    omega
  · rw [jstep_eq, if_neg c] at hk
    exact hk
def dspt (m q : Int) (fs : List Int) (N : Int) : List Int := arr (m + 1).toNat fun w => ((fs.count (w : Int) : Nat) : Int) - (if w = 1 then q else 0) + (if (w : Int) = N % m + 1 then q else 0)
def mkF' (fs ps : List Int) (i : Nat) : Int := fs.getD i 0 + ps.getD i 0
def marksL (fs ps : List Int) : List Int := arr fs.length (mkF' fs ps)
abbrev Rs := Str × List Int
def sumRs (q N : Int) (ps : List Int) : List Rs := if ps.sum ≠ q * N then [(("sum" : Str), [ps.sum, q * N])] else []
def wdHave (m : Int) (ms : List Int) (c : Int) : Int := ((ms.filter fun (p : Int) => decide (wd m p = c)).length : Int)
def wdRs (m q N : Int) (fs ms : List Int) : List Rs := (rg 1 (m + 1)).filterMap fun c => if wdHave m ms c ≠ gi (dspt m q fs N) c then some (("weekday" : Str), [c, wdHave m ms c, gi (dspt m q fs N) c]) else none
def beRs (N : Int) (ps ms : List Int) : List Rs := (rg 0 ms.length).filterMap fun i => if 0 < gi ps i ∧ N + 1 < gi ms i then some (("beyond" : Str), [i, gi ms i]) else none
def leHave (ms : List Int) (c : Int) : Int := ((ms.filter fun (p : Int) => decide (p ≤ c)).length : Int)
def rmF (m q : Int) (fs : List Int) (c : Int) : Int := (slT (plc m q fs) c).sum
def eaRs (m q : Int) (fs ms : List Int) (cs : List Int) : List Rs := cs.filterMap fun c => if rmF m q fs c < leHave ms c then some (("early" : Str), [c, leHave ms c, rmF m q fs c]) else none
def comRs (m q : Int) (fs : List Int) (N : Int) (ps : List Int) : List Rs := sumRs q N ps ++ wdRs m q N fs (marksL fs ps) ++ beRs N ps (marksL fs ps)
def reas (m q : Int) (fs : List Int) (N : Int) (ps : List Int) : List Rs := comRs m q fs N ps ++ eaRs m q fs (marksL fs ps) (rg 1 (mn m N + 1))
def verdR (rs : List Rs) : Rs := match rs with | [] => (("possible" : Str), []) | r :: _ => r
def verd (m q : Int) (fs : List Int) (N : Int) (ps : List Int) : Rs := verdR (reas m q fs N ps)
structure Row (fs ps : List Int) : Prop where
  len : ps.length = fs.length
  nn : ∀ x ∈ ps, 0 ≤ x
theorem gi_mem0 {α : Type} [Inhabited α] {xs : List α} {i : Int} (h : ixOk xs i) : gi xs i ∈ xs := by
  have h1 : i.toNat < xs.length := by have := h.1; have := h.2; omega
  have := gi_nat h1
  rw [Int.toNat_of_nonneg h.1] at this
  rw [this]
  exact List.getElem_mem h1
theorem bookd_t {m q : Int} {fs : List Int} (p : PL m q fs) {many great : Int} (h0 : 0 ≤ many) (h1 : many ≤ 1000) (g0 : 0 ≤ great) (g1 : great ≤ 1000000000000000000000000000000) {Q : List St0 × List Int × List Int × Int → Prop} {X : Exn → Prop}
    (h : ∀ rows : List St0, (rows.length : Int) = many → Good rows → sumD rows ≤ many * (great + 20) → Vld m q fs rows → Q (rows, arr fs.length (psF m fs rows), arr fs.length (xsF m fs rows), sumD rows)) : t__law_book (m, q, fs) many great Q X := by
  have hz := szl_eq
  have hm1 := p.m1
  have hm8 := p.m8
  have hn12 := p.n12
  have hq1 := p.q1
  unfold t__law_book
  dsimp only
  refine ⟨⟨by omega, by omega⟩, ty_sub ⟨ty_b62 (by omega) (by omega), ?_⟩⟩
  refine forK_ind (J := fun pre (k : List Int → List Int → List St0 → Int → Prop) => ∀ a b rows c, rows.length = pre.length → Good rows → sumD rows ≤ (pre.length : Int) * (great + 20) → Vld m q fs rows → a = arr fs.length (xsF m fs rows) → b = arr fs.length (psF m fs rows) → c = 1 + sumD rows → k a b rows c) ?_ ?_ _ _ _ _ rfl good_nil ?_ Vld.nil xs0 (by rw [Int.toNat_natCast, ← ps0]) rfl
  · rintro a b rows c e1 e2 e3 e4 rfl rfl rfl
    rw [rg_len, show (((many - 0).toNat : Nat) : Int) = many by omega] at e3
    rw [rg_len] at e1
    rw [show 1 + sumD rows - 1 = sumD rows by omega]
    exact h rows (by omega) e2 e3 e4
  · rintro pre x post k e hk a b rows c e1 e2 e3 e4 rfl rfl rfl
    obtain ⟨hx, hxm, _⟩ := rg_split e
    have hs0 := sumD_nn e2
    obtain ⟨hh, hhl⟩ := here_len p e4
    refine ⟨here_sd (by omega), ?_⟩
    rw [here_eq]
    refine choose_t (by omega) hh (by omega) hereL_nd fun crew hc1 hc2 hc3 hc4 => ?_
    refine span_t (by omega) (by omega) fun r hr1 hr2 => ⟨by rw [e1]; omega, ?_⟩
    obtain ⟨g1', g2, g3⟩ := draw_ok p e2 e4 (span := r) (by omega) hc1 hc2 hc3 hc4
    refine cnt_t hc2 g3 (gone_t hm1 hm8 (by omega) (fun i hi => ?_) (ty_sub ?_))
    · have := (st_rg p hi rows).2
      show (stA m fs rows i).x < _
      omega
    · refine hk _ _ _ _ (by simp [e1]) g1' ?_ g2 (xs_snoc (r := (_, crew))) (cnt_ps (r := (_, crew))) (by rw [sumD_snoc])
      rw [List.length_append, List.length_singleton, sumD_sn]
      have : ((pre.length + 1 : Nat) : Int) * (great + 20) = (pre.length : Int) * (great + 20) + (great + 20) := by
        rw [show ((pre.length + 1 : Nat) : Int) = (pre.length : Int) + 1 by omega, Int.add_mul, Int.one_mul]
      rw [this]
      simp only
      omega
  · simp [sumD]
theorem ty_inv18 {α : Type} {P : α → Prop} {F : (α → Prop) → Prop} {K : α → Prop} (hF : ∀ k : α → Prop, (∀ x, P x → k x) → F k) (hK : ∀ x, P x → K x) : jn F K := hF K hK
theorem closin_eq {m s d : Int} (hm : 1 ≤ m) (hd : 0 ≤ d) : g__law_closings_in (1 + s) (1 + s + d) m = (s + d) / m - s / m := by
  unfold g__law_closings_in
  have e1 : (1 + s + m - 1) / m = s / m + 1 := by
    rw [show 1 + s + m - 1 = s + 1 * m by omega, Int.add_mul_ediv_right _ _ (show m ≠ 0 by omega)]
  rw [e1]
  have h1 := Int.ediv_mul_add_emod s m
  have h2 := Int.emod_nonneg s (show m ≠ 0 by omega)
  have h3 := Int.emod_lt_of_pos s (show 0 < m by omega)
  have e2 : m * (s / m + 1) = s / m * m + m := by rw [Int.mul_add, Int.mul_comm, Int.mul_one]
  rw [e2]
  by_cases c : 1 + s + d ≤ s / m * m + m
  · rw [if_pos c]
    have g1 := Int.ediv_le_ediv (show 0 < m by omega) (show s ≤ s + d by omega)
    have g2 : (s + d) / m < s / m + 1 := Int.ediv_lt_of_lt_mul (show 0 < m by omega) (by rw [Int.add_mul, Int.one_mul]; omega)
    omega
  · rw [if_neg c]
    have g1 : (1 + s + d - 1 - (s / m * m + m)) / m = (s + d) / m + (-(s / m + 1)) := by
      rw [← Int.add_mul_ediv_right _ _ (show m ≠ 0 by omega)]
      congr 1
      rw [Int.neg_mul, Int.add_mul, Int.one_mul]
      omega
    rw [g1]
    omega
theorem closin_sd {m s e : Int} (hm : 1 ≤ m) (hm8 : m ≤ 8) : sd__law_closings_in s e m :=
  ⟨ty_div (by omega) (by omega), ty_mulL (by omega) (by omega), fun _ => ty_div (by omega) (by omega)⟩
theorem clos18_t {dp : Dp} {N : Int} (h0 : 0 ≤ N) (h1 : N ≤ 1000000000000000000000000000000) (hm : 1 ≤ dp.p) (hm8 : dp.p ≤ 8) {Q : Int → Prop} {X : Exn → Prop} (h : Q (N / dp.p)) : t_Depot_closings dp N Q X := by
  unfold t_Depot_closings t_check_days
  exact ty_ifF (fun z => z ⟨h0, h1⟩) ⟨ty_div (by omega) (by omega), h⟩
theorem seenx_t {dp : Dp} (p : PL dp.p dp.q dp.f) {J : List St0} {N : Int} (hb : BkOk J) {Q : List St0 → Prop} {X : Exn → Prop} (h : fbad dp.p dp.q dp.f [] J = none → Q (jo (cw dp.p J))) (h2 : ∀ a s, fbad dp.p dp.q dp.f [] J = some (a, s) → X ⟨23, [.int a, .str s]⟩) : t_crews_seen dp ⟨J, N⟩ Q X := by
  have hz := szl_eq
  have hm := p.m1
  have hm8 := p.m8
  have hl := hb.2.2
  unfold t_crews_seen
  refine walk_t p (by omega) (fun r hr => (hb.walk r hr).1) (fun hnone => ?_) h2
  refine forK_ind (J := fun pre (k : List St0 → Int → Prop) => k (cw dp.p pre) (sumD pre)) ?_ ?_
  · exact join_t (by have := cw_len (m := dp.p) J; dsimp only; omega) (h hnone)
  · intro pre x post k e hk
    rw [cw_snoc, sumD_append, sumD_one] at hk
    have hg1 : Good (pre ++ x :: post) := by have := hb.1; dsimp only at e; rw [e] at this; exact this
    have hs := hb.2.1
    dsimp only at e
    rw [e, sumD_mid] at hs
    obtain ⟨ga, gb, gr⟩ := good_split hg1
    have n1 := sumD_nn ga
    have n2 := sumD_nn gb
    refine clos18_t (by omega) (by omega) hm hm8 (clos18_t (by omega) (by omega) hm hm8 (ty_sub (ty_jn (ty_if (fun c => ⟨?_, ty_sub ?_⟩) (fun c => ty_sub ?_)))))
    · have := cw_len (m := dp.p) pre
      have := congrArg List.length e
      rw [List.length_append, List.length_cons] at this
      omega
    · rw [if_pos c] at hk; exact hk
    · rw [if_neg c] at hk; exact hk
def rf18 (a : Int) (s : Str) : Str × Str × Int × Str × Bool := (("refused" : Str), ("BadBook" : Str), a, s, true)
theorem ask18_t {m q N : Int} {fs : List Int} (p : PL m q fs) {J : List St0} (hb : BkOk J) {Q0 : Str × List St0 → Prop} {Q1 : Str × Str × Int × Str × Bool → Prop} {X : Exn → Prop} (h : fbad m q fs [] J = none → Q0 (("told" : Str), jo (cw m J))) (h2 : ∀ a s, fbad m q fs [] J = some (a, s) → Q1 (rf18 a s)) : t__law_ask ⟨m, q, fs⟩ ⟨J, N⟩ Q0 Q1 X := by
  unfold t__law_ask
  exact ty_sub (seenx_t (dp := ⟨m, q, fs⟩) p hb h (fun a s e => Or.inl ⟨rfl, a, s, rfl, h2 a s e⟩))
theorem due18_t {m q : Int} {fs : List Int} (p : PL m q fs) {rows : List St0} (hr0 : BkOk rows) {Q0 : Str × List St0 → Prop} {Q1 : Str × Str × Int × Str × Bool → Prop} {X : Exn → Prop} (h1 : fbad m q fs [] (jo rows) = none → Q0 (("told" : Str), jo (cw m (jo rows)))) (h2 : ∀ a s, fbad m q fs [] (jo rows) = some (a, s) → Q1 (rf18 a s)) : t__law_due (m, q, fs) rows Q0 Q1 X := by
  have hz := szl_eq
  unfold t__law_due
  have hb := hr0.jo
  refine joined_t (by have := hr0.2.2; omega) ?_
  generalize jo rows = J at *
  have hl := hb.2.2
  have hm1 := p.m1
  have hm8 := p.m8
  have hn := p.n12
  refine ⟨ty_b62n (by omega), ?_⟩
  dsimp only
  refine forK_ind (J := fun pre (k : List Int → Int → List St0 → Prop) => ∀ a b c, fbad m q fs [] J = fbad m q fs (J.take pre.length) (J.drop pre.length) → a = arr fs.length (xsF m fs (J.take pre.length)) → b = 1 + sumD (J.take pre.length) → c = jo (cw m (J.take pre.length)) → k a b c) ?_ ?_ _ _ _ (by rw [List.length_nil, List.take_zero, List.drop_zero]) (by rw [List.length_nil, List.take_zero]; exact xs0) (by rw [List.length_nil, List.take_zero]; rfl) (by rw [List.length_nil, List.take_zero]; rfl)
  · rintro a b c e1 rfl rfl rfl
    rw [rg_len] at e1 ⊢
    rw [show ((J.length : Int) - 0).toNat = J.length by omega] at e1 ⊢
    rw [List.take_length]
    refine h1 ?_
    rw [e1, List.drop_length]
    rfl
  · rintro pre x post k e hk a b c e1 rfl rfl rfl
    obtain ⟨hx, hxm, _⟩ := rg_split e
    have hx' : x = (pre.length : Int) := by omega
    subst hx'
    have hj : pre.length < J.length := by omega
    have eg : gi J (pre.length : Int) = J[pre.length] := gi_nat hj
    have ok : ixOk J (pre.length : Int) := ⟨by omega, by omega⟩
    obtain ⟨⟨r1, r2⟩, r3⟩ := hb.walk J[pre.length] (List.getElem_mem hj)
    have hgood := hb.1 J[pre.length] (List.getElem_mem hj)
    have ed : J.drop pre.length = J[pre.length] :: J.drop (pre.length + 1) := List.drop_eq_getElem_cons hj
    rw [eg]
    generalize hr : J[pre.length] = r at *
    have htk : (J.take pre.length).length = pre.length := by rw [List.length_take]; omega
    have hfb : fbad m q fs (J.take pre.length) (r :: J.drop (pre.length + 1)) = match fb1 q fs.length (1 + sumD (J.take pre.length)) (xsF m fs (J.take pre.length)) r.2 with
        | some s => some (((J.take pre.length).length : Int), s)
        | none => fbad m q fs (J.take pre.length ++ [r]) (J.drop (pre.length + 1)) := rfl
    rw [ed, hfb, htk] at e1
    have et : J.take (pre.length + 1) = J.take pre.length ++ [r] := by rw [List.take_add_one, List.getElem?_eq_getElem hj, hr]; rfl
    have hxs := fun {i : Nat} (hi : i < fs.length) => st_rg p hi (J.take pre.length)
    generalize hP : J.take pre.length = P at *
    rw [arr_len]
    refine ⟨ok, ty_sub ⟨by omega, ty_if (fun c => ?_) (fun c => ?_)⟩⟩
    · refine h2 _ _ ?_
      rw [e1]
      have : fb1 q fs.length (1 + sumD P) (xsF m fs P) r.2 = some ("driver" : Str) := by unfold fb1; rw [if_pos (filt_any.mp c)]
      rw [this]
    have c1 : ¬ r.2.any (fun x => decide ((fs.length : Int) ≤ x)) = true := fun z => c (filt_any.mpr z)
    refine ty_if (fun c2 => ?_) (fun c2 => ?_)
    · refine h2 _ _ ?_
      rw [e1]
      have : fb1 q fs.length (1 + sumD P) (xsF m fs P) r.2 = some ("count" : Str) := by unfold fb1; rw [if_neg c1, if_pos c2]
      rw [this]
    have hlt : ∀ x ∈ r.2, x < fs.length := fun x hx => by
      have : ¬ (fs.length : Int) ≤ x := fun z => c1 (List.any_eq_true.mpr ⟨x, hx, decide_eq_true z⟩)
      omega
    have hok : ∀ x ∈ r.2, gi (arr fs.length (xsF m fs P)) x = xsF m fs P x.toNat := fun x hx => gi_arr (r2 x hx) (hlt x hx)
    have ea : r.2.any (fun x => decide (gi (arr fs.length (xsF m fs P)) x ≠ 1 + sumD P)) = r.2.any (fun x => decide (xsF m fs P x.toNat ≠ 1 + sumD P)) := any_congr fun x hx => by rw [hok x hx]
    refine ⟨by omega, fun x hx => ok_arr.mpr ⟨r2 x hx, hlt x hx⟩, ty_if (fun c3 => ?_) (fun c3 => ?_)⟩
    · refine h2 _ _ ?_
      rw [e1]
      have : fb1 q fs.length (1 + sumD P) (xsF m fs P) r.2 = some ("away" : Str) := by unfold fb1; rw [if_neg c1, if_neg c2, if_pos (by rw [← ea]; exact filt_any.mp c3)]
      rw [this]
    have hnone : fb1 q fs.length (1 + sumD P) (xsF m fs P) r.2 = none := by
      unfold fb1
      rw [if_neg c1, if_neg c2, if_neg (fun z => c3 (filt_any.mpr (by rw [ea]; exact z)))]
    have hr1 := hgood.1
    refine ⟨ok, closin_sd hm1 hm8, ty_sub ?_⟩
    rw [closin_eq hm1 (by omega)]
    have hcl := cw_len (m := m) P
    have hjl := jn_len (cw m P)
    have hstep : jo (cw m (P ++ [r])) = if 0 < (sumD P + r.1) / m - sumD P / m then jstep (jo (cw m P)) ((sumD P + r.1) / m - sumD P / m, r.2) else jo (cw m P) := by
      rw [cw_snoc]
      by_cases c : 0 < (sumD P + r.1) / m - sumD P / m
      · rw [if_pos c, if_pos c, jn_snoc]
      · rw [if_neg c, if_neg c]
    refine ty_inv18 (P := fun got => got = jo (cw m (P ++ [r]))) (fun k hk' => ⟨fun _ z => z, ty_if (fun c => ⟨c.2.1, c.2.1, hk' _ ?_⟩) (fun c => ty_if (fun c4 => ⟨by omega, hk' _ ?_⟩) (fun c4 => hk' _ ?_))⟩) ?_
    · rw [hstep, if_pos c.1, jstep_eq, if_pos c.2]
    · rw [hstep, if_pos c4, jstep_eq, if_neg (fun z => c ⟨c4, z⟩)]
    · rw [hstep, if_neg c4]
    rintro got rfl
    refine ⟨ok, gone_t hm1 hm8 (by omega) (fun i hi => ?_) ⟨ok, ty_sub (hk _ _ _ ?_ ?_ ?_ ?_)⟩⟩
    · have := (hxs hi).2
      show (stA m fs P i).x < _
      omega
    · rw [List.length_append, List.length_singleton, et]
      rw [e1, hnone]
    · rw [List.length_append, List.length_singleton, et]
      exact xs_snoc
    · rw [List.length_append, List.length_singleton, et, sumD_snoc]
    · rw [List.length_append, List.length_singleton, et]
theorem bk_st {rows : List St0} (hb : BkOk rows) {i : Int} (ok : ixOk rows i) {c : List Int} (hc : ascB 0 12 c = true) : BkOk (st rows i ((gi rows i).1, c)) := by
  obtain ⟨A, B, eg, eA, es, ee, ei⟩ := at_split ok
  obtain ⟨g, s, l⟩ := hb
  rw [es]
  generalize gi rows i = r at *
  subst eg
  obtain ⟨g1, g2, g3⟩ := good_split g
  refine ⟨good_mid g1 g2 g3.1 hc, ?_, ?_⟩
  · rw [sumD_mid] at s ⊢; exact s
  · rw [List.length_append, List.length_cons] at l ⊢; exact l
theorem asc_rng {l n : Int} {c : List Int} (h : ascB l n c = true) : ∀ x ∈ c, l ≤ x ∧ x < n := by
  induction c generalizing l with
  | nil => intro x hx; cases hx
  | cons y ys ih =>
    unfold ascB at h
    simp only [Bool.and_eq_true, decide_eq_true_eq] at h
    intro x hx
    rcases List.mem_cons.mp hx with rfl | hx
    · exact ⟨h.1, h.2.1⟩
    · have := ih h.2.2 x hx
      exact ⟨by omega, this.2⟩
def Cw18 (way : Int) (n : Nat) (c : List Int) : Prop := (∀ x ∈ c, 0 ≤ x ∧ x < 12) ∧ c.length ≤ n ∧ (way ≠ 0 → 1 ≤ c.length)
theorem ty_inv18b {α β : Type} {P : α → β → Prop} {F : (α → β → Prop) → Prop} {K : α → β → Prop} (hF : ∀ k : α → β → Prop, (∀ x y, P x y → k x y) → F k) (hK : ∀ x y, P x y → K x y) : jn F K := hF K hK
theorem cw18_st {way : Int} {n : Nat} {c : List Int} {i v : Int} (h : Cw18 way n c) (hv : 0 ≤ v ∧ v < 12) : Cw18 way n (st c i v) :=
  ⟨fun x hx => by
    unfold st at hx
    rcases List.mem_or_eq_of_mem_set hx with hx | rfl
    · exact h.1 x hx
    · exact hv, by rw [st_len]; exact h.2.1, fun z => by rw [st_len]; exact h.2.2 z⟩
theorem changed18_t {m q : Int} {fs : List Int} (p : PL m q fs) {rows : List St0} (hb : BkOk rows) (hv : Vld m q fs rows) {Q : List St0 → Prop} {X : Exn → Prop} (h : ∀ rows : List St0, BkOk rows → Q rows) : t__law_changed (m, q, fs) rows Q X := by
  have hz := szl_eq
  have hl := hb.2.2
  have hn := p.n12
  have hq := p.q1
  have hqn := p.qn
  unfold t__law_changed
  refine ty_if (fun c => ty_take fun r1 a0 a1 => h _ ⟨fun r hr => ?_, ?_, ?_⟩) (fun c => ?_)
  · simp only [List.mem_singleton] at hr
    subst hr
    refine ⟨Int.le_refl 1, ?_, Nat.le_of_ble_eq_true rfl⟩
    show ascB 0 12 [r1] = true
    unfold ascB ascB
    simp only [Bool.and_eq_true, decide_eq_true_eq]
    exact ⟨a0, a1, trivial⟩
  · have : sumD [((1 : Int), [r1])] = 1 := by simp [sumD]
    rw [this]
    decide
  · exact Nat.le_of_ble_eq_true rfl
  have hne : 0 < rows.length := by
    cases rows with
    | nil => exact absurd rfl c
    | cons y ys => exact Nat.succ_pos _
  refine ⟨ty_ok (by omega) (by omega), ty_take fun at_ a0 a1 => ?_⟩
  have ok : ixOk rows at_ := ⟨a0, a1⟩
  have hgr := hb.1 _ (gi_mem0 ok)
  have hlen : ((gi rows at_).2.length : Int) = q := by
    obtain ⟨A, B, eg, _⟩ := at_split ok
    exact (hv A (gi rows at_) B eg).len
  have asc : ∀ x, ixOk rows x → ascB 0 12 (gi rows x).2 = true := fun x hx => (hb.1 _ (gi_mem0 hx)).2.1
  have c0 : Cw18 1 12 (gi rows at_).2 := ⟨asc_rng hgr.2.1, hgr.2.2, fun _ => by omega⟩
  refine ⟨ok, ty_sub (ty_take fun way w0 w1 => ?_)⟩
  generalize hcr : (gi rows at_).2 = crew at *
  refine ty_inv18 (P := Cw18 way 12) (fun k hk => ty_if (fun c => ⟨ty_ok (by omega) (by omega), ty_take fun r7 b0 b1 => ⟨⟨⟨b0, b1⟩, by omega⟩, hk _ ?_⟩⟩) (fun c => hk _ ⟨c0.1, c0.2.1, fun _ => c0.2.2 (by decide)⟩)) (fun crew2 h2 => ?_)
  · have := era_len (xs := crew) (i := r7) ⟨b0, b1⟩
    exact ⟨fun x hx => c0.1 x (List.mem_of_mem_eraseIdx hx), by omega, fun z => absurd c z⟩
  refine ty_inv18 (P := Cw18 way 13) (fun k hk => ty_if (fun c => ty_take fun r6 b0 b1 => ⟨by have := h2.2.1; omega, hk _ ?_⟩) (fun c => hk _ ⟨h2.1, by have := h2.2.1; omega, h2.2.2⟩)) (fun crew3 h3 => ?_)
  · refine ⟨fun x hx => ?_, ?_, fun _ => ?_⟩
    · rcases List.mem_append.mp hx with hx | hx
      · exact h2.1 x hx
      · simp only [List.mem_singleton] at hx; subst hx; exact ⟨b0, b1⟩
    · have := h2.2.1; rw [List.length_append, List.length_singleton]; omega
    · rw [List.length_append, List.length_singleton]; omega
  refine ty_inv18 (P := Cw18 way 13) (fun k hk => ty_if (fun c => ⟨ty_ok (by dsimp only; omega) (by dsimp only; omega), ty_take fun r4 b0 b1 => ⟨ty_ok (by have := h3.2.2 (by omega); omega) (by have := h3.2.1; omega), ty_take fun r5 d0 d1 => ⟨⟨d0, d1⟩, hk _ (cw18_st h3 ⟨b0, by dsimp only at b1; omega⟩)⟩⟩⟩) (fun c => hk _ h3)) (fun crew4 h4 => ?_)
  refine ty_inv18 (P := Cw18 way 13) (fun k hk => ty_if (fun c => ty_take fun r2 b0 b1 => ⟨ty_ok (by have := h4.2.2 (by omega); omega) (by have := h4.2.1; omega), ty_take fun r3 d0 d1 => ⟨⟨d0, d1⟩, hk _ (cw18_st h4 ⟨b0, b1⟩)⟩⟩) (fun c => hk _ h4)) (fun crew5 h5 => ?_)
  refine ty_inv18b (P := fun got crew6 => BkOk got ∧ ixOk got at_ ∧ (∀ x ∈ crew6, 0 ≤ x ∧ x < 12) ∧ crew6.length ≤ 13) (fun k hk => ty_if (fun c => ⟨ty_ok (by omega) (by omega), ty_take fun a2 b0 b1 => ?_⟩) (fun c => hk _ _ ⟨hb, ok, h5.1, h5.2.1⟩)) (fun got crew6 h6 => ?_)
  · have ok2 : ixOk rows a2 := ⟨b0, b1⟩
    have hg2 := hb.1 _ (gi_mem0 ok2)
    refine ⟨ok2, ty_sub ⟨ok2, ok, ok2, hk _ _ ⟨bk_st hb ok2 (by rw [← hcr]; exact asc _ ok), ?_, asc_rng hg2.2.1, by omega⟩⟩⟩
    exact ⟨a0, by rw [st_len]; exact a1⟩
  · obtain ⟨e1, e2, e3, e4⟩ := h6
    exact ⟨e2, by omega, e2, h _ (bk_st e1 e2 (asc_of_lt (ssrt_lt _) fun x hx => e3 x (ssrt_mem.mp hx)))⟩
theorem case18_t {Q : ((Int × Int × List Int) × List St0 × List St0 × List St0) → Prop} {X : Exn → Prop} (h : ∀ m q fs b0 b1 b2, PL m q fs → BkOk b0 → BkOk b1 → BkOk b2 → Q ((m, q, fs), b0, b1, b2)) : t__law_case Q X := by
  have hz := szl_eq
  unfold t__law_case
  refine ty_inv18 (P := fun pl => PL pl.1 pl.2.1 pl.2.2) (fun k hk => ty_take fun r _ _ => ty_if (fun _ => depot_t (by decide) (by decide) (by decide) (by decide) fun m q fs p _ _ => hk _ p) (fun _ => depot_t (by decide) (by decide) (by decide) (by decide) fun m q fs p _ _ => hk _ p)) ?_
  rintro ⟨m, q, fs⟩ p
  dsimp only at p
  refine forK_ind (J := fun pre (k : List (List St0) → Prop) => ∀ books : List (List St0), books.length = pre.length → (∀ b ∈ books, BkOk b ∧ Vld m q fs b) → k books) ?_ ?_ _ rfl (fun b hb => by cases hb)
  · intro books e1 e2
    rw [rg_len] at e1
    have e1' : books.length = 2 := e1
    have ok0 : ixOk books 0 := ⟨by omega, by omega⟩
    have ok1 : ixOk books 1 := ⟨by omega, by omega⟩
    have g0 := e2 _ (gi_mem0 ok0)
    have g1 := e2 _ (gi_mem0 ok1)
    exact ⟨ok0, ok1, ok0, changed18_t p g0.1 g0.2 fun c hc => h _ _ _ _ _ _ p g0.1 g1.1 hc⟩
  · intro pre x post k e hk books e1 e2
    obtain ⟨_, hx, _⟩ := rg_split e
    have hlen := congrArg List.length e
    rw [rg_len, List.length_append, List.length_cons] at hlen
    refine ty_take fun many m0 m1 => ty_inv18 (P := fun n : Int => 0 ≤ n ∧ n ≤ 60) (fun k' hk' => ty_if (fun _ => hk' _ ⟨by decide, by decide⟩) (fun _ => hk' _ ⟨m0, by omega⟩)) (fun n hn => bookd_t p hn.1 (by omega) (by decide) (by decide) fun rows r1 r2 r3 r4 => ⟨by omega, hk _ ?_ ?_⟩)
    · rw [List.length_append, List.length_append, e1]; rfl
    · intro b hb
      rcases List.mem_append.mp hb with hb | hb
      · exact e2 b hb
      · simp only [List.mem_singleton] at hb
        subst hb
        exact ⟨⟨r2, by omega, by omega⟩, r4⟩
theorem s18_ref : PyData.strOk ("refused" : Str) = true := by decide +kernel
theorem s18_told : PyData.strOk ("told" : Str) = true := by decide +kernel
theorem s18_bb : PyData.strOk ("BadBook" : Str) = true := by decide +kernel
theorem jstep_mem18 {acc : List St0} {r x : St0} (h : x ∈ jstep acc r) : (∃ y ∈ acc, x.2 = y.2) ∨ x.2 = r.2 := by
  rw [jstep_eq] at h
  split at h
  · rename_i c
    unfold setLast at h
    rcases List.mem_append.mp h with h | h
    · exact .inl ⟨x, (List.dropLast_sublist _).subset h, rfl⟩
    · simp only [List.mem_singleton] at h; rw [h]; exact .inr rfl
  · rcases List.mem_append.mp h with h | h
    · exact .inl ⟨x, h, rfl⟩
    · simp only [List.mem_singleton] at h; rw [h]; exact .inr rfl
theorem jo_mem18 (rows : List St0) : ∀ {x : St0}, x ∈ jo rows → ∃ y ∈ rows, x.2 = y.2 := by
  induction rows using snoc_ind with
  | h0 => intro x h; cases h
  | h1 rows r ih =>
    intro x h
    rw [jn_snoc] at h
    rcases jstep_mem18 h with ⟨y, hy, e⟩ | e
    · obtain ⟨z, hz, e2⟩ := ih hy
      exact ⟨z, by simp [hz], e.trans e2⟩
    · exact ⟨r, by simp, e⟩
theorem both18_t {m q N : Int} {fs : List Int} (p : PL m q fs) {rows : List St0} (hb : BkOk rows) {G : Prop} (hG : G) {A : Str × List St0 → Str × List St0 → Prop} {B : Str × List St0 → Str × Str × Int × Str × Bool → Prop} {C : Str × Str × Int × Str × Bool → Str × List St0 → Prop} {D : Str × Str × Int × Str × Bool → Str × Str × Int × Str × Bool → Prop} {X1 X2 X3 : Exn → Prop}
    (hA : ∀ v : List St0, v.length ≤ 1000 → (∀ r ∈ v, r.2.length ≤ 12) → A (("told" : Str), v) (("told" : Str), v)) (hD : ∀ a s, PyData.strOk s = true → D (rf18 a s) (rf18 a s)) :
    t__law_ask ⟨m, q, fs⟩ ⟨jo rows, N⟩ (fun a => G ∧ t__law_due (m, q, fs) rows (A a) (B a) X1) (fun a => G ∧ t__law_due (m, q, fs) rows (C a) (D a) X2) X3 :=
  ask18_t p hb.jo (fun e => ⟨hG, due18_t p hb (fun _ => hA _ (by have := jn_len (cw m (jo rows)); have := cw_len (m := m) (jo rows); have := hb.jo.2.2; omega) fun r hr => by
      obtain ⟨r1, h1, e1⟩ := jo_mem18 _ hr
      obtain ⟨r2, h2, e2⟩ := cw_mem h1
      rw [e1, e2]
      exact (hb.jo.1 r2 h2).2.2) (fun a s e' => by rw [e] at e'; cases e')⟩) (fun a s e => ⟨hG, due18_t p hb (fun e' => by rw [e] at e'; cases e') (fun a' s' e' => by
      rw [e] at e'
      cases e'
      exact hD a s (fbad_str _ _ e))⟩)
theorem ok18 {v : List St0} (h : v.length ≤ 1000) (h2 : ∀ r ∈ v, r.2.length ≤ 12) : okS 6 (eP2 D.str (eL (eP2 D.int (eT D.int))) (("told" : Str), v)) := by
  have hz := szl_eq
  have h5 : okS 5 (.tup (v.map eSg)) := okS_rows (n := 1) (by omega) fun r hr => by have := h2 r hr; omega
  exact okS_t2 (d0 := .str ("told" : Str)) s18_told h5
theorem okr18 {a : Int} {s : Str} (h : PyData.strOk s = true) : okS 6 (eP5 D.str D.str D.int D.str D.bl (rf18 a s)) := okS_t5 (d0 := .str ("refused" : Str)) s18_ref s18_bb trivial h trivial
theorem gi_map18 {α β : Type} [Inhabited α] [Inhabited β] {f : α → β} {xs : List α} {i : Int} (c : ixOk xs i) : gi (xs.map f) i = f (gi xs i) := by
  have c1 := c.1
  have c2 := c.2
  unfold gi
  rw [List.getD_eq_getElem?_getD, List.getElem?_map, List.getD_eq_getElem?_getD, List.getElem?_eq_getElem (by omega)]
  rfl
theorem PL_min {m q : Int} {fs : List Int} (p : PL m q fs) {k : Int} (h1 : 1 ≤ k) (h8 : k ≤ 8) : PL k q (fs.map fun f => mn k f) := by
  refine ⟨h1, h8, p.q1, ?_, by rw [List.length_map]; exact p.n12, ?_⟩
  · refine Int.le_trans p.qc (Int.ofNat_le.mpr ?_)
    rw [List.count_eq_countP, List.count_eq_countP, List.countP_map]
    refine List.countP_mono_left fun x _ hx => ?_
    have : x = 1 := by simpa using hx
    subst this
    show (mn k 1 == 1) = true
    unfold mn
    split
    · rfl
    · rw [show k = 1 by omega]; rfl
  · intro x hx
    obtain ⟨y, hy, rfl⟩ := List.mem_map.mp hx
    have := p.rg y hy
    unfold mn
    split <;> omega
theorem law_t (script : List Int) : t_law script (fun b => b = true) (fun _ => False) := by
  have hz := szl_eq
  unfold t_law
  refine case18_t fun m q fs b0 b1 b2 p k0 k1 k2 => ?_
  dsimp only
  have hm := p.m1
  have hn := p.n12
  have z1 := Int.emod_nonneg m (show (8 : Int) ≠ 0 by omega)
  have z2 := Int.emod_lt_of_pos m (show (0 : Int) < 8 by omega)
  have hL : ∀ b ∈ [b0, b1, b2], BkOk b := fun b hb => by
    simp only [List.mem_cons, List.not_mem_nil, or_false] at hb
    rcases hb with rfl | rfl | rfl <;> assumption
  have hl3 : ([b0, b1, b2] : List (List St0)).length = 3 := rfl
  generalize ([b0, b1, b2] : List (List St0)) = L at *
  refine dep_t p.good ⟨by omega, lcK_map (v := fun rows => (⟨jo rows, sumD rows⟩ : Bk)) (fun pre rows post k e hk => ?_) ?_⟩
  · have hb := hL rows (by rw [e]; simp)
    have em : List.map (fun (row : (Int × (List Int))) => (row.1, row.2)) rows = rows := List.map_id' rows
    rw [em]
    have := hb.2.2
    exact ⟨by omega, bookg_t hb.2.2 hb.1 hb.2.1 hk⟩
  have atb : ∀ x : Int, 0 ≤ x → x < 3 → ixOk (L.map fun rows => (⟨jo rows, sumD rows⟩ : Bk)) x ∧ gi (L.map fun rows => (⟨jo rows, sumD rows⟩ : Bk)) x = ⟨jo (gi L x), sumD (gi L x)⟩ ∧ (1 ≤ 1 + x ∧ ixOk L x) ∧ BkOk (gi L x) := fun x h0 h1 => by
    have ok : ixOk L x := ⟨h0, by omega⟩
    exact ⟨⟨h0, by rw [List.length_map]; omega⟩, gi_map18 ok, ⟨by omega, ok⟩, hL _ (gi_mem0 ok)⟩
  generalize (L.map fun rows => (⟨jo rows, sumD rows⟩ : Bk)) = books at *
  refine forK_all (P := fun _ => True) ?_ (fun _ => ty_sub ⟨by omega, ty_sub ?_⟩)
  · intro pre x post k e _ hk
    have hx : x ∈ ([0, 1, 2, 0, 2, 1] : List Int) := by rw [e]; simp
    have hx2 : 0 ≤ x ∧ x < 3 := by
      simp only [List.mem_cons, List.not_mem_nil, or_false] at hx
      omega
    obtain ⟨a1, a2, a3, a4⟩ := atb x hx2.1 hx2.2
    refine ⟨a1, ?_⟩
    rw [a2, show 1 + x - 1 = x by omega]
    generalize gi L x = rows at *
    refine both18_t p a4 a3 (fun v v1 v2 => ⟨⟨ok18 v1 v2, ?_⟩, s18_told, ty_ifT rfl ⟨by dsimp only; omega, hk trivial⟩⟩) (fun a s hs => ⟨sameT_of (okr18 hs) rfl, s18_ref, ty_ifF (show ¬ ("refused" : Str) = ("told" : Str) by decide) (hk trivial)⟩)
    exact (vq (f := eP2 D.str (eL (eP2 D.int (eT D.int)))) _).symm
  · have p2 := PL_min p (k := m % 8 + 1) (by omega) (by omega)
    refine forK_all (P := fun _ => True) ?_ (fun _ => rfl)
    intro pre x post k e _ hk
    obtain ⟨hx1, hx2, _⟩ := rg_split e
    obtain ⟨a1, a2, a3, a4⟩ := atb x (by omega) hx2
    have inner : ∀ {X1 X2 X3 : Exn → Prop}, t__law_ask ⟨m, q, fs⟩ (gi books x) (fun (r7 : (Str × (List (Int × (List Int))))) => (1 ≤ (1 + x) ∧ ixOk L ((1 + x) - 1)) ∧ t__law_due (m, q, fs) (gi L ((1 + x) - 1)) (fun (r9 : (Str × (List (Int × (List Int))))) => sameT ((eP2 D.str (eL (eP2 D.int (eT D.int)))) r7) ((eP2 D.str (eL (eP2 D.int (eT D.int)))) r9) ∧ k) (fun (r10 : (Str × Str × Int × Str × Bool)) => sameT ((eP2 D.str (eL (eP2 D.int (eT D.int)))) r7) ((eP5 D.str D.str D.int D.str D.bl) r10) ∧ k) X1) (fun (r11 : (Str × Str × Int × Str × Bool)) => (1 ≤ (1 + x) ∧ ixOk L ((1 + x) - 1)) ∧ t__law_due (m, q, fs) (gi L ((1 + x) - 1)) (fun (r13 : (Str × (List (Int × (List Int))))) => sameT ((eP5 D.str D.str D.int D.str D.bl) r11) ((eP2 D.str (eL (eP2 D.int (eT D.int)))) r13) ∧ k) (fun (r14 : (Str × Str × Int × Str × Bool)) => sameT ((eP5 D.str D.str D.int D.str D.bl) r11) ((eP5 D.str D.str D.int D.str D.bl) r14) ∧ k) X2) X3 := fun {X1 X2 X3} => by
      rw [a2, show 1 + x - 1 = x by omega]
      exact both18_t p a4 a3 (fun v v1 v2 => ⟨sameT_of (ok18 v1 v2) rfl, hk trivial⟩) (fun a s hs => ⟨sameT_of (okr18 hs) rfl, hk trivial⟩)
    refine dep_t p2.good ⟨a1, ?_⟩
    have a3' : 1 ≤ 1 + x ∧ ixOk L (1 + x - 1) := by rw [show 1 + x - 1 = x by omega]; exact a3
    have a4' : BkOk (gi L (1 + x - 1)) := by rw [show 1 + x - 1 = x by omega]; exact a4
    have a2' : gi books x = ⟨jo (gi L (1 + x - 1)), sumD (gi L (1 + x - 1))⟩ := by rw [show 1 + x - 1 = x by omega]; exact a2
    rw [a2'] at inner ⊢
    exact both18_t p2 a4' a3' (fun v v1 v2 => ⟨sameT_of (ok18 v1 v2) rfl, a1, inner⟩) (fun a s hs => ⟨sameT_of (okr18 hs) rfl, a1, inner⟩)
theorem pure_law : ∀ ns : List Int, ns.length ≤ 63 → w_law [.script ns] (fun d => d = .bl true) (fun _ => False) := fun ns h =>
  tr_law h (law_t ns) (fun r hr => by rw [hr]) (fun _ z => z)
end Pu
set_option Elab.async false
set_option maxRecDepth 100000
set_option maxHeartbeats 2000000
set_option autoImplicit false
namespace Pu
open PySem PySem.Spec PyProof.Rows L2
theorem all_mk {P : Program} {w : World} {K : PySem.W.Frag} {h : Heap} {mg : Str → Option Value} {fa : Addr} (pure_law : ∀ ns : List Int, ns.length ≤ 63 → w_law [.script ns] (fun d => d = .bl true) (fun _ => False)) (X : K.In h) (G : h.Ns mainGlobals mg) (hfa : mg "law" = some (.ref fa))
    {a__law_take a__law_depot a__law_changed a__law_choose a__law_great a__law_span a__law_gone a__law_here a__law_book a__law_case a_check_period_and_quota a_check_firsts a_DepotU_initU a__law_pool a_ascending a_check_stretches a_join_neighbours a_BookU_initU a_AfterU_initU a_Depot_size a_check_runners a_long_runs a_walk a_check_days a_Depot_closings a_crews_seen a__law_ask a__law_number a__law_same a__law_joined a__law_closings_in a__law_due a_law a_BadDepotU_initU a_BadBookU_initU a_OutOfRangeU_initU A_Depot A_After A_Book A_OutagainError A_OutOfRange A_BadDepot A_BadBook A_BadCrews A_NoBook p_Depot_size  : Addr} {oc__law_take kV__law_take dc__law_take pm__law_take cd__law_take ct__law_take oc__law_depot kV__law_depot dc__law_depot pm__law_depot cd__law_depot ct__law_depot oc__law_changed kV__law_changed dc__law_changed pm__law_changed cd__law_changed ct__law_changed oc__law_choose kV__law_choose dc__law_choose pm__law_choose cd__law_choose ct__law_choose oc__law_great kV__law_great dc__law_great pm__law_great cd__law_great ct__law_great oc__law_span kV__law_span dc__law_span pm__law_span cd__law_span ct__law_span oc__law_gone kV__law_gone dc__law_gone pm__law_gone cd__law_gone ct__law_gone oc__law_here kV__law_here dc__law_here pm__law_here cd__law_here ct__law_here oc__law_book kV__law_book dc__law_book pm__law_book cd__law_book ct__law_book oc__law_case kV__law_case dc__law_case pm__law_case cd__law_case ct__law_case oc_check_period_and_quota kV_check_period_and_quota dc_check_period_and_quota pm_check_period_and_quota cd_check_period_and_quota ct_check_period_and_quota oc_check_firsts kV_check_firsts dc_check_firsts pm_check_firsts cd_check_firsts ct_check_firsts oc_DepotU_initU kV_DepotU_initU dc_DepotU_initU pm_DepotU_initU cd_DepotU_initU ct_DepotU_initU oc__law_pool kV__law_pool dc__law_pool pm__law_pool cd__law_pool ct__law_pool oc_ascending kV_ascending dc_ascending pm_ascending cd_ascending ct_ascending oc_check_stretches kV_check_stretches dc_check_stretches pm_check_stretches cd_check_stretches ct_check_stretches oc_join_neighbours kV_join_neighbours dc_join_neighbours pm_join_neighbours cd_join_neighbours ct_join_neighbours oc_BookU_initU kV_BookU_initU dc_BookU_initU pm_BookU_initU cd_BookU_initU ct_BookU_initU oc_AfterU_initU kV_AfterU_initU dc_AfterU_initU pm_AfterU_initU cd_AfterU_initU ct_AfterU_initU oc_Depot_size kV_Depot_size dc_Depot_size pm_Depot_size cd_Depot_size ct_Depot_size oc_check_runners kV_check_runners dc_check_runners pm_check_runners cd_check_runners ct_check_runners oc_long_runs kV_long_runs dc_long_runs pm_long_runs cd_long_runs ct_long_runs oc_walk kV_walk dc_walk pm_walk cd_walk ct_walk oc_check_days kV_check_days dc_check_days pm_check_days cd_check_days ct_check_days oc_Depot_closings kV_Depot_closings dc_Depot_closings pm_Depot_closings cd_Depot_closings ct_Depot_closings oc_crews_seen kV_crews_seen dc_crews_seen pm_crews_seen cd_crews_seen ct_crews_seen oc__law_ask kV__law_ask dc__law_ask pm__law_ask cd__law_ask ct__law_ask oc__law_number kV__law_number dc__law_number pm__law_number cd__law_number ct__law_number oc__law_same kV__law_same dc__law_same pm__law_same cd__law_same ct__law_same oc__law_joined kV__law_joined dc__law_joined pm__law_joined cd__law_joined ct__law_joined oc__law_closings_in kV__law_closings_in dc__law_closings_in pm__law_closings_in cd__law_closings_in ct__law_closings_in oc__law_due kV__law_due dc__law_due pm__law_due cd__law_due ct__law_due oc_law kV_law dc_law pm_law cd_law ct_law oc_BadDepotU_initU kV_BadDepotU_initU dc_BadDepotU_initU pm_BadDepotU_initU cd_BadDepotU_initU ct_BadDepotU_initU oc_BadBookU_initU kV_BadBookU_initU dc_BadBookU_initU pm_BadBookU_initU cd_BadBookU_initU ct_BadBookU_initU oc_OutOfRangeU_initU kV_OutOfRangeU_initU dc_OutOfRangeU_initU pm_OutOfRangeU_initU cd_OutOfRangeU_initU ct_OutOfRangeU_initU : Value} {od__law_take an__law_take od__law_depot an__law_depot od__law_changed an__law_changed od__law_choose an__law_choose od__law_great an__law_great od__law_span an__law_span od__law_gone an__law_gone od__law_here an__law_here od__law_book an__law_book od__law_case an__law_case od_check_period_and_quota an_check_period_and_quota od_check_firsts an_check_firsts od_DepotU_initU an_DepotU_initU od__law_pool an__law_pool od_ascending an_ascending od_check_stretches an_check_stretches od_join_neighbours an_join_neighbours od_BookU_initU an_BookU_initU od_AfterU_initU an_AfterU_initU od_Depot_size an_Depot_size od_check_runners an_check_runners od_long_runs an_long_runs od_walk an_walk od_check_days an_check_days od_Depot_closings an_Depot_closings od_crews_seen an_crews_seen od__law_ask an__law_ask od__law_number an__law_number od__law_same an__law_same od__law_joined an__law_joined od__law_closings_in an__law_closings_in od__law_due an__law_due od_law an_law od_BadDepotU_initU an_BadDepotU_initU od_BadBookU_initU an_BadBookU_initU od_OutOfRangeU_initU an_OutOfRangeU_initU : Option Addr} {sl__law_take sl__law_depot sl__law_changed sl__law_choose sl__law_great sl__law_span sl__law_gone sl__law_here sl__law_book sl__law_case sl_check_period_and_quota sl_check_firsts sl_DepotU_initU sl__law_pool sl_ascending sl_check_stretches sl_join_neighbours sl_BookU_initU sl_AfterU_initU sl_Depot_size sl_check_runners sl_long_runs sl_walk sl_check_days sl_Depot_closings sl_crews_seen sl__law_ask sl__law_number sl__law_same sl__law_joined sl__law_closings_in sl__law_due sl_law sl_BadDepotU_initU sl_BadBookU_initU sl_OutOfRangeU_initU : Array (Option Value)} {rest_Depot_size : List Value} {nm_BadDepot q_BadDepot : Str} {N_BadDepot : Addr} {bs_BadDepot bm_BadDepot : List Value} {sn_BadDepot : List Str} {sub_BadDepot : List Value} {ab_BadDepot : Bool} {col_BadDepot : Option Bool} {dd_BadDepot : Option Addr} {k0_BadDepot k1_BadDepot k2_BadDepot k3_BadDepot k5_BadDepot : Option Value} {nm_BadBook q_BadBook : Str} {N_BadBook : Addr} {bs_BadBook bm_BadBook : List Value} {sn_BadBook : List Str} {sub_BadBook : List Value} {ab_BadBook : Bool} {col_BadBook : Option Bool} {dd_BadBook : Option Addr} {k0_BadBook k1_BadBook k2_BadBook k3_BadBook k5_BadBook : Option Value} {nm_OutOfRange q_OutOfRange : Str} {N_OutOfRange : Addr} {bs_OutOfRange bm_OutOfRange : List Value} {sn_OutOfRange : List Str} {sub_OutOfRange : List Value} {ab_OutOfRange : Bool} {col_OutOfRange : Option Bool} {dd_OutOfRange : Option Addr} {k0_OutOfRange k1_OutOfRange k2_OutOfRange k3_OutOfRange k5_OutOfRange : Option Value} {t_Depot_MOST_PERIOD : Tok} {t_Depot_MOST_DRIVERS : Tok} {t_MOST_QUOTA : Tok} {t_MOST_STRETCHES : Tok} {t_MOST_DAYS : Tok}
    (h_lk__law_take : K.lookup a__law_take = some ⟨oc__law_take, od__law_take, .func (PySem.W.fnOf "_law_take" "_law_take" (defArgs s__law_take) (defBody s__law_take) (defScope s__law_take) .none kV__law_take dc__law_take pm__law_take an__law_take cd__law_take ct__law_take), sl__law_take⟩)
    (h_co__law_take : PySem.W.codeIn K cd__law_take "_law_take" = true)
    (h_kp__law_take : PySem.W.keepIn K (.ref a__law_take) = true)
    (h_ns__law_take : PySem.W.nsIn K mainGlobals "_law_take" = some (some (.ref a__law_take)))
    (h_lk__law_depot : K.lookup a__law_depot = some ⟨oc__law_depot, od__law_depot, .func (PySem.W.fnOf "_law_depot" "_law_depot" (defArgs s__law_depot) (defBody s__law_depot) (defScope s__law_depot) .none kV__law_depot dc__law_depot pm__law_depot an__law_depot cd__law_depot ct__law_depot), sl__law_depot⟩)
    (h_co__law_depot : PySem.W.codeIn K cd__law_depot "_law_depot" = true)
    (h_kp__law_depot : PySem.W.keepIn K (.ref a__law_depot) = true)
    (h_ns__law_depot : PySem.W.nsIn K mainGlobals "_law_depot" = some (some (.ref a__law_depot)))
    (h_lk__law_changed : K.lookup a__law_changed = some ⟨oc__law_changed, od__law_changed, .func (PySem.W.fnOf "_law_changed" "_law_changed" (defArgs s__law_changed) (defBody s__law_changed) (defScope s__law_changed) .none kV__law_changed dc__law_changed pm__law_changed an__law_changed cd__law_changed ct__law_changed), sl__law_changed⟩)
    (h_co__law_changed : PySem.W.codeIn K cd__law_changed "_law_changed" = true)
    (h_kp__law_changed : PySem.W.keepIn K (.ref a__law_changed) = true)
    (h_ns__law_changed : PySem.W.nsIn K mainGlobals "_law_changed" = some (some (.ref a__law_changed)))
    (h_lk__law_choose : K.lookup a__law_choose = some ⟨oc__law_choose, od__law_choose, .func (PySem.W.fnOf "_law_choose" "_law_choose" (defArgs s__law_choose) (defBody s__law_choose) (defScope s__law_choose) .none kV__law_choose dc__law_choose pm__law_choose an__law_choose cd__law_choose ct__law_choose), sl__law_choose⟩)
    (h_co__law_choose : PySem.W.codeIn K cd__law_choose "_law_choose" = true)
    (h_kp__law_choose : PySem.W.keepIn K (.ref a__law_choose) = true)
    (h_ns__law_choose : PySem.W.nsIn K mainGlobals "_law_choose" = some (some (.ref a__law_choose)))
    (h_lk__law_great : K.lookup a__law_great = some ⟨oc__law_great, od__law_great, .func (PySem.W.fnOf "_law_great" "_law_great" (defArgs s__law_great) (defBody s__law_great) (defScope s__law_great) .none kV__law_great dc__law_great pm__law_great an__law_great cd__law_great ct__law_great), sl__law_great⟩)
    (h_co__law_great : PySem.W.codeIn K cd__law_great "_law_great" = true)
    (h_kp__law_great : PySem.W.keepIn K (.ref a__law_great) = true)
    (h_ns__law_great : PySem.W.nsIn K mainGlobals "_law_great" = some (some (.ref a__law_great)))
    (h_lk__law_span : K.lookup a__law_span = some ⟨oc__law_span, od__law_span, .func (PySem.W.fnOf "_law_span" "_law_span" (defArgs s__law_span) (defBody s__law_span) (defScope s__law_span) .none kV__law_span dc__law_span pm__law_span an__law_span cd__law_span ct__law_span), sl__law_span⟩)
    (h_co__law_span : PySem.W.codeIn K cd__law_span "_law_span" = true)
    (h_kp__law_span : PySem.W.keepIn K (.ref a__law_span) = true)
    (h_ns__law_span : PySem.W.nsIn K mainGlobals "_law_span" = some (some (.ref a__law_span)))
    (h_lk__law_gone : K.lookup a__law_gone = some ⟨oc__law_gone, od__law_gone, .func (PySem.W.fnOf "_law_gone" "_law_gone" (defArgs s__law_gone) (defBody s__law_gone) (defScope s__law_gone) .none kV__law_gone dc__law_gone pm__law_gone an__law_gone cd__law_gone ct__law_gone), sl__law_gone⟩)
    (h_co__law_gone : PySem.W.codeIn K cd__law_gone "_law_gone" = true)
    (h_kp__law_gone : PySem.W.keepIn K (.ref a__law_gone) = true)
    (h_ns__law_gone : PySem.W.nsIn K mainGlobals "_law_gone" = some (some (.ref a__law_gone)))
    (h_lk__law_here : K.lookup a__law_here = some ⟨oc__law_here, od__law_here, .func (PySem.W.fnOf "_law_here" "_law_here" (defArgs s__law_here) (defBody s__law_here) (defScope s__law_here) .none kV__law_here dc__law_here pm__law_here an__law_here cd__law_here ct__law_here), sl__law_here⟩)
    (h_co__law_here : PySem.W.codeIn K cd__law_here "_law_here" = true)
    (h_kp__law_here : PySem.W.keepIn K (.ref a__law_here) = true)
    (h_ns__law_here : PySem.W.nsIn K mainGlobals "_law_here" = some (some (.ref a__law_here)))
    (h_lk__law_book : K.lookup a__law_book = some ⟨oc__law_book, od__law_book, .func (PySem.W.fnOf "_law_book" "_law_book" (defArgs s__law_book) (defBody s__law_book) (defScope s__law_book) .none kV__law_book dc__law_book pm__law_book an__law_book cd__law_book ct__law_book), sl__law_book⟩)
    (h_co__law_book : PySem.W.codeIn K cd__law_book "_law_book" = true)
    (h_kp__law_book : PySem.W.keepIn K (.ref a__law_book) = true)
    (h_ns__law_book : PySem.W.nsIn K mainGlobals "_law_book" = some (some (.ref a__law_book)))
    (h_lk__law_case : K.lookup a__law_case = some ⟨oc__law_case, od__law_case, .func (PySem.W.fnOf "_law_case" "_law_case" (defArgs s__law_case) (defBody s__law_case) (defScope s__law_case) .none kV__law_case dc__law_case pm__law_case an__law_case cd__law_case ct__law_case), sl__law_case⟩)
    (h_co__law_case : PySem.W.codeIn K cd__law_case "_law_case" = true)
    (h_kp__law_case : PySem.W.keepIn K (.ref a__law_case) = true)
    (h_ns__law_case : PySem.W.nsIn K mainGlobals "_law_case" = some (some (.ref a__law_case)))
    (h_lk_check_period_and_quota : K.lookup a_check_period_and_quota = some ⟨oc_check_period_and_quota, od_check_period_and_quota, .func (PySem.W.fnOf "check_period_and_quota" "check_period_and_quota" (defArgs s_check_period_and_quota) (defBody s_check_period_and_quota) (defScope s_check_period_and_quota) .none kV_check_period_and_quota dc_check_period_and_quota pm_check_period_and_quota an_check_period_and_quota cd_check_period_and_quota ct_check_period_and_quota), sl_check_period_and_quota⟩)
    (h_co_check_period_and_quota : PySem.W.codeIn K cd_check_period_and_quota "check_period_and_quota" = true)
    (h_kp_check_period_and_quota : PySem.W.keepIn K (.ref a_check_period_and_quota) = true)
    (h_ns_check_period_and_quota : PySem.W.nsIn K mainGlobals "check_period_and_quota" = some (some (.ref a_check_period_and_quota)))
    (h_lk_check_firsts : K.lookup a_check_firsts = some ⟨oc_check_firsts, od_check_firsts, .func (PySem.W.fnOf "check_firsts" "check_firsts" (defArgs s_check_firsts) (defBody s_check_firsts) (defScope s_check_firsts) .none kV_check_firsts dc_check_firsts pm_check_firsts an_check_firsts cd_check_firsts ct_check_firsts), sl_check_firsts⟩)
    (h_co_check_firsts : PySem.W.codeIn K cd_check_firsts "check_firsts" = true)
    (h_kp_check_firsts : PySem.W.keepIn K (.ref a_check_firsts) = true)
    (h_ns_check_firsts : PySem.W.nsIn K mainGlobals "check_firsts" = some (some (.ref a_check_firsts)))
    (h_lk_DepotU_initU : K.lookup a_DepotU_initU = some ⟨oc_DepotU_initU, od_DepotU_initU, .func (PySem.W.fnOf "__init__" "Depot.__init__" (defArgs s_DepotU_initU) (defBody s_DepotU_initU) (defScope s_DepotU_initU) .none kV_DepotU_initU dc_DepotU_initU pm_DepotU_initU an_DepotU_initU cd_DepotU_initU ct_DepotU_initU), sl_DepotU_initU⟩)
    (h_co_DepotU_initU : PySem.W.codeIn K cd_DepotU_initU "Depot.__init__" = true)
    (h_kp_DepotU_initU : PySem.W.keepIn K (.ref a_DepotU_initU) = true)
    (h_mk_Depot : PySem.W.makesIn K A_Depot = true)
    (h_ini_Depot : PySem.W.findIn K (.ref A_Depot) "__init__" = some (some (.ref a_DepotU_initU)))
    (h_fn_DepotU_initU : PySem.W.isFn K (.ref a_DepotU_initU) = true)
    (h_kc_Depot : PySem.W.keepIn K (.ref A_Depot) = true)
    (h_lk__law_pool : K.lookup a__law_pool = some ⟨oc__law_pool, od__law_pool, .func (PySem.W.fnOf "_law_pool" "_law_pool" (defArgs s__law_pool) (defBody s__law_pool) (defScope s__law_pool) .none kV__law_pool dc__law_pool pm__law_pool an__law_pool cd__law_pool ct__law_pool), sl__law_pool⟩)
    (h_co__law_pool : PySem.W.codeIn K cd__law_pool "_law_pool" = true)
    (h_kp__law_pool : PySem.W.keepIn K (.ref a__law_pool) = true)
    (h_ns__law_pool : PySem.W.nsIn K mainGlobals "_law_pool" = some (some (.ref a__law_pool)))
    (h_lk_ascending : K.lookup a_ascending = some ⟨oc_ascending, od_ascending, .func (PySem.W.fnOf "ascending" "ascending" (defArgs s_ascending) (defBody s_ascending) (defScope s_ascending) .none kV_ascending dc_ascending pm_ascending an_ascending cd_ascending ct_ascending), sl_ascending⟩)
    (h_co_ascending : PySem.W.codeIn K cd_ascending "ascending" = true)
    (h_kp_ascending : PySem.W.keepIn K (.ref a_ascending) = true)
    (h_ns_ascending : PySem.W.nsIn K mainGlobals "ascending" = some (some (.ref a_ascending)))
    (h_lk_check_stretches : K.lookup a_check_stretches = some ⟨oc_check_stretches, od_check_stretches, .func (PySem.W.fnOf "check_stretches" "check_stretches" (defArgs s_check_stretches) (defBody s_check_stretches) (defScope s_check_stretches) .none kV_check_stretches dc_check_stretches pm_check_stretches an_check_stretches cd_check_stretches ct_check_stretches), sl_check_stretches⟩)
    (h_co_check_stretches : PySem.W.codeIn K cd_check_stretches "check_stretches" = true)
    (h_kp_check_stretches : PySem.W.keepIn K (.ref a_check_stretches) = true)
    (h_ns_check_stretches : PySem.W.nsIn K mainGlobals "check_stretches" = some (some (.ref a_check_stretches)))
    (h_lk_join_neighbours : K.lookup a_join_neighbours = some ⟨oc_join_neighbours, od_join_neighbours, .func (PySem.W.fnOf "join_neighbours" "join_neighbours" (defArgs s_join_neighbours) (defBody s_join_neighbours) (defScope s_join_neighbours) .none kV_join_neighbours dc_join_neighbours pm_join_neighbours an_join_neighbours cd_join_neighbours ct_join_neighbours), sl_join_neighbours⟩)
    (h_co_join_neighbours : PySem.W.codeIn K cd_join_neighbours "join_neighbours" = true)
    (h_kp_join_neighbours : PySem.W.keepIn K (.ref a_join_neighbours) = true)
    (h_ns_join_neighbours : PySem.W.nsIn K mainGlobals "join_neighbours" = some (some (.ref a_join_neighbours)))
    (h_lk_BookU_initU : K.lookup a_BookU_initU = some ⟨oc_BookU_initU, od_BookU_initU, .func (PySem.W.fnOf "__init__" "Book.__init__" (defArgs s_BookU_initU) (defBody s_BookU_initU) (defScope s_BookU_initU) .none kV_BookU_initU dc_BookU_initU pm_BookU_initU an_BookU_initU cd_BookU_initU ct_BookU_initU), sl_BookU_initU⟩)
    (h_co_BookU_initU : PySem.W.codeIn K cd_BookU_initU "Book.__init__" = true)
    (h_kp_BookU_initU : PySem.W.keepIn K (.ref a_BookU_initU) = true)
    (h_mk_Book : PySem.W.makesIn K A_Book = true)
    (h_ini_Book : PySem.W.findIn K (.ref A_Book) "__init__" = some (some (.ref a_BookU_initU)))
    (h_fn_BookU_initU : PySem.W.isFn K (.ref a_BookU_initU) = true)
    (h_kc_Book : PySem.W.keepIn K (.ref A_Book) = true)
    (h_lk_AfterU_initU : K.lookup a_AfterU_initU = some ⟨oc_AfterU_initU, od_AfterU_initU, .func (PySem.W.fnOf "__init__" "After.__init__" (defArgs s_AfterU_initU) (defBody s_AfterU_initU) (defScope s_AfterU_initU) .none kV_AfterU_initU dc_AfterU_initU pm_AfterU_initU an_AfterU_initU cd_AfterU_initU ct_AfterU_initU), sl_AfterU_initU⟩)
    (h_co_AfterU_initU : PySem.W.codeIn K cd_AfterU_initU "After.__init__" = true)
    (h_kp_AfterU_initU : PySem.W.keepIn K (.ref a_AfterU_initU) = true)
    (h_mk_After : PySem.W.makesIn K A_After = true)
    (h_ini_After : PySem.W.findIn K (.ref A_After) "__init__" = some (some (.ref a_AfterU_initU)))
    (h_fn_AfterU_initU : PySem.W.isFn K (.ref a_AfterU_initU) = true)
    (h_kc_After : PySem.W.keepIn K (.ref A_After) = true)
    (h_lk_Depot_size : K.lookup a_Depot_size = some ⟨oc_Depot_size, od_Depot_size, .func (PySem.W.fnOf "size" "Depot.size" (defArgs s_Depot_size) (defBody s_Depot_size) (defScope s_Depot_size) .none kV_Depot_size dc_Depot_size pm_Depot_size an_Depot_size cd_Depot_size ct_Depot_size), sl_Depot_size⟩)
    (h_co_Depot_size : PySem.W.codeIn K cd_Depot_size "Depot.size" = true)
    (h_kp_Depot_size : PySem.W.keepIn K (.ref a_Depot_size) = true)
    (h_at_Depot_size : PySem.W.findIn K (.ref A_Depot) "size" = some (some (.ref p_Depot_size)))
    (h_get_Depot_size : PySem.W.specialIn K (.ref p_Depot_size) "__get__" = some (some (.builtin "property.__get__")))
    (h_tak_Depot_size : PySem.W.takesIn K (.ref p_Depot_size) = some true)
    (h_rec_Depot_size : PySem.W.recIn K p_Depot_size "property" = some (.ref a_Depot_size :: rest_Depot_size))
    (h_lk_check_runners : K.lookup a_check_runners = some ⟨oc_check_runners, od_check_runners, .func (PySem.W.fnOf "check_runners" "check_runners" (defArgs s_check_runners) (defBody s_check_runners) (defScope s_check_runners) .none kV_check_runners dc_check_runners pm_check_runners an_check_runners cd_check_runners ct_check_runners), sl_check_runners⟩)
    (h_co_check_runners : PySem.W.codeIn K cd_check_runners "check_runners" = true)
    (h_kp_check_runners : PySem.W.keepIn K (.ref a_check_runners) = true)
    (h_ns_check_runners : PySem.W.nsIn K mainGlobals "check_runners" = some (some (.ref a_check_runners)))
    (h_lk_long_runs : K.lookup a_long_runs = some ⟨oc_long_runs, od_long_runs, .func (PySem.W.fnOf "long_runs" "long_runs" (defArgs s_long_runs) (defBody s_long_runs) (defScope s_long_runs) .none kV_long_runs dc_long_runs pm_long_runs an_long_runs cd_long_runs ct_long_runs), sl_long_runs⟩)
    (h_co_long_runs : PySem.W.codeIn K cd_long_runs "long_runs" = true)
    (h_kp_long_runs : PySem.W.keepIn K (.ref a_long_runs) = true)
    (h_ns_long_runs : PySem.W.nsIn K mainGlobals "long_runs" = some (some (.ref a_long_runs)))
    (h_lk_walk : K.lookup a_walk = some ⟨oc_walk, od_walk, .func (PySem.W.fnOf "walk" "walk" (defArgs s_walk) (defBody s_walk) (defScope s_walk) .none kV_walk dc_walk pm_walk an_walk cd_walk ct_walk), sl_walk⟩)
    (h_co_walk : PySem.W.codeIn K cd_walk "walk" = true)
    (h_kp_walk : PySem.W.keepIn K (.ref a_walk) = true)
    (h_ns_walk : PySem.W.nsIn K mainGlobals "walk" = some (some (.ref a_walk)))
    (h_lk_check_days : K.lookup a_check_days = some ⟨oc_check_days, od_check_days, .func (PySem.W.fnOf "check_days" "check_days" (defArgs s_check_days) (defBody s_check_days) (defScope s_check_days) .none kV_check_days dc_check_days pm_check_days an_check_days cd_check_days ct_check_days), sl_check_days⟩)
    (h_co_check_days : PySem.W.codeIn K cd_check_days "check_days" = true)
    (h_kp_check_days : PySem.W.keepIn K (.ref a_check_days) = true)
    (h_ns_check_days : PySem.W.nsIn K mainGlobals "check_days" = some (some (.ref a_check_days)))
    (h_lk_Depot_closings : K.lookup a_Depot_closings = some ⟨oc_Depot_closings, od_Depot_closings, .func (PySem.W.fnOf "closings" "Depot.closings" (defArgs s_Depot_closings) (defBody s_Depot_closings) (defScope s_Depot_closings) .none kV_Depot_closings dc_Depot_closings pm_Depot_closings an_Depot_closings cd_Depot_closings ct_Depot_closings), sl_Depot_closings⟩)
    (h_co_Depot_closings : PySem.W.codeIn K cd_Depot_closings "Depot.closings" = true)
    (h_kp_Depot_closings : PySem.W.keepIn K (.ref a_Depot_closings) = true)
    (h_at_Depot_closings : PySem.W.findIn K (.ref A_Depot) "closings" = some (some (.ref a_Depot_closings)))
    (h_fn_Depot_closings : PySem.W.isFn K (.ref a_Depot_closings) = true)
    (h_lk_crews_seen : K.lookup a_crews_seen = some ⟨oc_crews_seen, od_crews_seen, .func (PySem.W.fnOf "crews_seen" "crews_seen" (defArgs s_crews_seen) (defBody s_crews_seen) (defScope s_crews_seen) .none kV_crews_seen dc_crews_seen pm_crews_seen an_crews_seen cd_crews_seen ct_crews_seen), sl_crews_seen⟩)
    (h_co_crews_seen : PySem.W.codeIn K cd_crews_seen "crews_seen" = true)
    (h_kp_crews_seen : PySem.W.keepIn K (.ref a_crews_seen) = true)
    (h_ns_crews_seen : PySem.W.nsIn K mainGlobals "crews_seen" = some (some (.ref a_crews_seen)))
    (h_lk__law_ask : K.lookup a__law_ask = some ⟨oc__law_ask, od__law_ask, .func (PySem.W.fnOf "_law_ask" "_law_ask" (defArgs s__law_ask) (defBody s__law_ask) (defScope s__law_ask) .none kV__law_ask dc__law_ask pm__law_ask an__law_ask cd__law_ask ct__law_ask), sl__law_ask⟩)
    (h_co__law_ask : PySem.W.codeIn K cd__law_ask "_law_ask" = true)
    (h_kp__law_ask : PySem.W.keepIn K (.ref a__law_ask) = true)
    (h_ns__law_ask : PySem.W.nsIn K mainGlobals "_law_ask" = some (some (.ref a__law_ask)))
    (h_lk__law_number : K.lookup a__law_number = some ⟨oc__law_number, od__law_number, .func (PySem.W.fnOf "_law_number" "_law_number" (defArgs s__law_number) (defBody s__law_number) (defScope s__law_number) .none kV__law_number dc__law_number pm__law_number an__law_number cd__law_number ct__law_number), sl__law_number⟩)
    (h_co__law_number : PySem.W.codeIn K cd__law_number "_law_number" = true)
    (h_kp__law_number : PySem.W.keepIn K (.ref a__law_number) = true)
    (h_ns__law_number : PySem.W.nsIn K mainGlobals "_law_number" = some (some (.ref a__law_number)))
    (h_lk__law_same : K.lookup a__law_same = some ⟨oc__law_same, od__law_same, .func (PySem.W.fnOf "_law_same" "_law_same" (defArgs s__law_same) (defBody s__law_same) (defScope s__law_same) .none kV__law_same dc__law_same pm__law_same an__law_same cd__law_same ct__law_same), sl__law_same⟩)
    (h_co__law_same : PySem.W.codeIn K cd__law_same "_law_same" = true)
    (h_kp__law_same : PySem.W.keepIn K (.ref a__law_same) = true)
    (h_ns__law_same : PySem.W.nsIn K mainGlobals "_law_same" = some (some (.ref a__law_same)))
    (h_lk__law_joined : K.lookup a__law_joined = some ⟨oc__law_joined, od__law_joined, .func (PySem.W.fnOf "_law_joined" "_law_joined" (defArgs s__law_joined) (defBody s__law_joined) (defScope s__law_joined) .none kV__law_joined dc__law_joined pm__law_joined an__law_joined cd__law_joined ct__law_joined), sl__law_joined⟩)
    (h_co__law_joined : PySem.W.codeIn K cd__law_joined "_law_joined" = true)
    (h_kp__law_joined : PySem.W.keepIn K (.ref a__law_joined) = true)
    (h_ns__law_joined : PySem.W.nsIn K mainGlobals "_law_joined" = some (some (.ref a__law_joined)))
    (h_lk__law_closings_in : K.lookup a__law_closings_in = some ⟨oc__law_closings_in, od__law_closings_in, .func (PySem.W.fnOf "_law_closings_in" "_law_closings_in" (defArgs s__law_closings_in) (defBody s__law_closings_in) (defScope s__law_closings_in) .none kV__law_closings_in dc__law_closings_in pm__law_closings_in an__law_closings_in cd__law_closings_in ct__law_closings_in), sl__law_closings_in⟩)
    (h_co__law_closings_in : PySem.W.codeIn K cd__law_closings_in "_law_closings_in" = true)
    (h_kp__law_closings_in : PySem.W.keepIn K (.ref a__law_closings_in) = true)
    (h_ns__law_closings_in : PySem.W.nsIn K mainGlobals "_law_closings_in" = some (some (.ref a__law_closings_in)))
    (h_lk__law_due : K.lookup a__law_due = some ⟨oc__law_due, od__law_due, .func (PySem.W.fnOf "_law_due" "_law_due" (defArgs s__law_due) (defBody s__law_due) (defScope s__law_due) .none kV__law_due dc__law_due pm__law_due an__law_due cd__law_due ct__law_due), sl__law_due⟩)
    (h_co__law_due : PySem.W.codeIn K cd__law_due "_law_due" = true)
    (h_kp__law_due : PySem.W.keepIn K (.ref a__law_due) = true)
    (h_ns__law_due : PySem.W.nsIn K mainGlobals "_law_due" = some (some (.ref a__law_due)))
    (h_lk_law : K.lookup a_law = some ⟨oc_law, od_law, .func (PySem.W.fnOf "law" "law" (defArgs s_law) (defBody s_law) (defScope s_law) .none kV_law dc_law pm_law an_law cd_law ct_law), sl_law⟩)
    (h_co_law : PySem.W.codeIn K cd_law "law" = true)
    (h_kp_law : PySem.W.keepIn K (.ref a_law) = true)
    (h_ns_law : PySem.W.nsIn K mainGlobals "law" = some (some (.ref a_law)))
    (h_lk_BadDepotU_initU : K.lookup a_BadDepotU_initU = some ⟨oc_BadDepotU_initU, od_BadDepotU_initU, .func (PySem.W.fnOf "__init__" "BadDepot.__init__" (defArgs s_BadDepotU_initU) (defBody s_BadDepotU_initU) (defScope s_BadDepotU_initU) .none kV_BadDepotU_initU dc_BadDepotU_initU pm_BadDepotU_initU an_BadDepotU_initU cd_BadDepotU_initU ct_BadDepotU_initU), sl_BadDepotU_initU⟩)
    (h_co_BadDepotU_initU : PySem.W.codeIn K cd_BadDepotU_initU "BadDepot.__init__" = true)
    (h_kp_BadDepotU_initU : PySem.W.keepIn K (.ref a_BadDepotU_initU) = true)
    (h_lk_BadBookU_initU : K.lookup a_BadBookU_initU = some ⟨oc_BadBookU_initU, od_BadBookU_initU, .func (PySem.W.fnOf "__init__" "BadBook.__init__" (defArgs s_BadBookU_initU) (defBody s_BadBookU_initU) (defScope s_BadBookU_initU) .none kV_BadBookU_initU dc_BadBookU_initU pm_BadBookU_initU an_BadBookU_initU cd_BadBookU_initU ct_BadBookU_initU), sl_BadBookU_initU⟩)
    (h_co_BadBookU_initU : PySem.W.codeIn K cd_BadBookU_initU "BadBook.__init__" = true)
    (h_kp_BadBookU_initU : PySem.W.keepIn K (.ref a_BadBookU_initU) = true)
    (h_lk_OutOfRangeU_initU : K.lookup a_OutOfRangeU_initU = some ⟨oc_OutOfRangeU_initU, od_OutOfRangeU_initU, .func (PySem.W.fnOf "__init__" "OutOfRange.__init__" (defArgs s_OutOfRangeU_initU) (defBody s_OutOfRangeU_initU) (defScope s_OutOfRangeU_initU) .none kV_OutOfRangeU_initU dc_OutOfRangeU_initU pm_OutOfRangeU_initU an_OutOfRangeU_initU cd_OutOfRangeU_initU ct_OutOfRangeU_initU), sl_OutOfRangeU_initU⟩)
    (h_co_OutOfRangeU_initU : PySem.W.codeIn K cd_OutOfRangeU_initU "OutOfRange.__init__" = true)
    (h_kp_OutOfRangeU_initU : PySem.W.keepIn K (.ref a_OutOfRangeU_initU) = true)
    (h_hn : PySem.W.specialIn K (.builtin "object.__class__") "__get__" = some (some (.builtin "getset_descriptor.__get__")))
    (h_ht : PySem.W.takesIn K (.builtin "object.__class__") = some true)
    (h_ns_Depot : PySem.W.nsIn K mainGlobals "Depot" = some (some (.ref A_Depot)))
    (h_pg_Depot : PySem.W.plainGet K A_Depot Str.empty = true)
    (h_hd_Depot : PySem.W.hasDictIn K A_Depot = true)
    (h_po_Depot : PySem.W.plainOver K A_Depot = true)
    (h_sa_Depot : PySem.W.findIn K (.ref A_Depot) "__setattr__" = some (some (.builtin "object.__setattr__")))
    (h_no_Depot_period : PySem.W.findIn K (.ref A_Depot) "period" = some none)
    (h_no_Depot_quota : PySem.W.findIn K (.ref A_Depot) "quota" = some none)
    (h_no_Depot_firsts : PySem.W.findIn K (.ref A_Depot) "firsts" = some none)
    (h_ns_After : PySem.W.nsIn K mainGlobals "After" = some (some (.ref A_After)))
    (h_pg_After : PySem.W.plainGet K A_After Str.empty = true)
    (h_hd_After : PySem.W.hasDictIn K A_After = true)
    (h_po_After : PySem.W.plainOver K A_After = true)
    (h_sa_After : PySem.W.findIn K (.ref A_After) "__setattr__" = some (some (.builtin "object.__setattr__")))
    (h_no_After_days : PySem.W.findIn K (.ref A_After) "days" = some none)
    (h_no_After_passes : PySem.W.findIn K (.ref A_After) "passes" = some none)
    (h_no_After_longs : PySem.W.findIn K (.ref A_After) "longs" = some none)
    (h_no_After_nexts : PySem.W.findIn K (.ref A_After) "nexts" = some none)
    (h_no_After__depot : PySem.W.findIn K (.ref A_After) "_depot" = some none)
    (h_ns_Book : PySem.W.nsIn K mainGlobals "Book" = some (some (.ref A_Book)))
    (h_pg_Book : PySem.W.plainGet K A_Book Str.empty = true)
    (h_hd_Book : PySem.W.hasDictIn K A_Book = true)
    (h_po_Book : PySem.W.plainOver K A_Book = true)
    (h_sa_Book : PySem.W.findIn K (.ref A_Book) "__setattr__" = some (some (.builtin "object.__setattr__")))
    (h_no_Book_stretches : PySem.W.findIn K (.ref A_Book) "stretches" = some none)
    (h_no_Book_days : PySem.W.findIn K (.ref A_Book) "days" = some none)
    (h_kt_Depot_NoneType : PySem.W.kitOne K (.type "NoneType") (.ref A_Depot) = some false)
    (h_kt_Depot_bool : PySem.W.kitOne K (.type "bool") (.ref A_Depot) = some false)
    (h_kt_Depot_int : PySem.W.kitOne K (.type "int") (.ref A_Depot) = some false)
    (h_kt_Depot_str : PySem.W.kitOne K (.type "str") (.ref A_Depot) = some false)
    (h_kt_Depot_list : PySem.W.kitOne K (.type "list") (.ref A_Depot) = some false)
    (h_kt_Depot_tuple : PySem.W.kitOne K (.type "tuple") (.ref A_Depot) = some false)
    (h_ko_Depot_Depot : PySem.W.kitOne K (.ref A_Depot) (.ref A_Depot) = some true)
    (h_cl_Depot : PySem.W.findIn K (.ref A_Depot) "__class__" = some (some (.builtin "object.__class__")))
    (h_mro_Depot : PySem.W.mroIn K A_Depot (.type "object") = some true)
    (h_ko_After_Depot : PySem.W.kitOne K (.ref A_After) (.ref A_Depot) = some false)
    (h_cl_After : PySem.W.findIn K (.ref A_After) "__class__" = some (some (.builtin "object.__class__")))
    (h_mro_After : PySem.W.mroIn K A_After (.type "object") = some true)
    (h_ko_Book_Depot : PySem.W.kitOne K (.ref A_Book) (.ref A_Depot) = some false)
    (h_cl_Book : PySem.W.findIn K (.ref A_Book) "__class__" = some (some (.builtin "object.__class__")))
    (h_mro_Book : PySem.W.mroIn K A_Book (.type "object") = some true)
    (h_kt_After_NoneType : PySem.W.kitOne K (.type "NoneType") (.ref A_After) = some false)
    (h_kt_After_bool : PySem.W.kitOne K (.type "bool") (.ref A_After) = some false)
    (h_kt_After_int : PySem.W.kitOne K (.type "int") (.ref A_After) = some false)
    (h_kt_After_str : PySem.W.kitOne K (.type "str") (.ref A_After) = some false)
    (h_kt_After_list : PySem.W.kitOne K (.type "list") (.ref A_After) = some false)
    (h_kt_After_tuple : PySem.W.kitOne K (.type "tuple") (.ref A_After) = some false)
    (h_ko_Depot_After : PySem.W.kitOne K (.ref A_Depot) (.ref A_After) = some false)
    (h_ko_After_After : PySem.W.kitOne K (.ref A_After) (.ref A_After) = some true)
    (h_ko_Book_After : PySem.W.kitOne K (.ref A_Book) (.ref A_After) = some false)
    (h_kt_Book_NoneType : PySem.W.kitOne K (.type "NoneType") (.ref A_Book) = some false)
    (h_kt_Book_bool : PySem.W.kitOne K (.type "bool") (.ref A_Book) = some false)
    (h_kt_Book_int : PySem.W.kitOne K (.type "int") (.ref A_Book) = some false)
    (h_kt_Book_str : PySem.W.kitOne K (.type "str") (.ref A_Book) = some false)
    (h_kt_Book_list : PySem.W.kitOne K (.type "list") (.ref A_Book) = some false)
    (h_kt_Book_tuple : PySem.W.kitOne K (.type "tuple") (.ref A_Book) = some false)
    (h_ko_Depot_Book : PySem.W.kitOne K (.ref A_Depot) (.ref A_Book) = some false)
    (h_ko_After_Book : PySem.W.kitOne K (.ref A_After) (.ref A_Book) = some false)
    (h_ko_Book_Book : PySem.W.kitOne K (.ref A_Book) (.ref A_Book) = some true)
    (h_ns_OutagainError : PySem.W.nsIn K mainGlobals "OutagainError" = some (some (.ref A_OutagainError)))
    (h_ns_OutOfRange : PySem.W.nsIn K mainGlobals "OutOfRange" = some (some (.ref A_OutOfRange)))
    (h_ns_BadDepot : PySem.W.nsIn K mainGlobals "BadDepot" = some (some (.ref A_BadDepot)))
    (h_ns_BadBook : PySem.W.nsIn K mainGlobals "BadBook" = some (some (.ref A_BadBook)))
    (h_ns_BadCrews : PySem.W.nsIn K mainGlobals "BadCrews" = some (some (.ref A_BadCrews)))
    (h_ns_NoBook : PySem.W.nsIn K mainGlobals "NoBook" = some (some (.ref A_NoBook)))
    (h_xo_BadDepot : K.lookup A_BadDepot = some (excClassObj nm_BadDepot q_BadDepot A_BadDepot N_BadDepot bs_BadDepot bm_BadDepot true sn_BadDepot sub_BadDepot ab_BadDepot col_BadDepot dd_BadDepot k0_BadDepot k1_BadDepot k2_BadDepot k3_BadDepot k5_BadDepot "ValueError.__new__"))
    (h_ve_BadDepot : PySem.HandSPX.refsVE bm_BadDepot = true)
    (h_sa_BadDepot : PySem.W.findIn K (.ref A_BadDepot) "__setattr__" = some (some (.builtin "object.__setattr__")))
    (h_kc_BadDepot : PySem.W.keepIn K (.ref A_BadDepot) = true)
    (h_ini_BadDepot : PySem.W.findIn K (.ref A_BadDepot) "__init__" = some (some (.ref a_BadDepotU_initU)))
    (h_tf_BadDepot : PySem.W.typeIn K (.ref a_BadDepotU_initU) = some (.type "function"))
    (h_no_BadDepot_at : PySem.W.findIn K (.ref A_BadDepot) "at" = some none)
    (h_no_BadDepot_code : PySem.W.findIn K (.ref A_BadDepot) "code" = some none)
    (h_be_BadDepot : PySem.W.subIn K (.ref A_BadDepot) (.type "BaseException") = some true)
    (h_ty_BadDepot : PySem.W.typeIn K (.ref A_BadDepot) = some (.type "type"))
    (h_xo_BadBook : K.lookup A_BadBook = some (excClassObj nm_BadBook q_BadBook A_BadBook N_BadBook bs_BadBook bm_BadBook true sn_BadBook sub_BadBook ab_BadBook col_BadBook dd_BadBook k0_BadBook k1_BadBook k2_BadBook k3_BadBook k5_BadBook "ValueError.__new__"))
    (h_ve_BadBook : PySem.HandSPX.refsVE bm_BadBook = true)
    (h_sa_BadBook : PySem.W.findIn K (.ref A_BadBook) "__setattr__" = some (some (.builtin "object.__setattr__")))
    (h_kc_BadBook : PySem.W.keepIn K (.ref A_BadBook) = true)
    (h_ini_BadBook : PySem.W.findIn K (.ref A_BadBook) "__init__" = some (some (.ref a_BadBookU_initU)))
    (h_tf_BadBook : PySem.W.typeIn K (.ref a_BadBookU_initU) = some (.type "function"))
    (h_no_BadBook_at : PySem.W.findIn K (.ref A_BadBook) "at" = some none)
    (h_no_BadBook_code : PySem.W.findIn K (.ref A_BadBook) "code" = some none)
    (h_be_BadBook : PySem.W.subIn K (.ref A_BadBook) (.type "BaseException") = some true)
    (h_ty_BadBook : PySem.W.typeIn K (.ref A_BadBook) = some (.type "type"))
    (h_xo_OutOfRange : K.lookup A_OutOfRange = some (excClassObj nm_OutOfRange q_OutOfRange A_OutOfRange N_OutOfRange bs_OutOfRange bm_OutOfRange true sn_OutOfRange sub_OutOfRange ab_OutOfRange col_OutOfRange dd_OutOfRange k0_OutOfRange k1_OutOfRange k2_OutOfRange k3_OutOfRange k5_OutOfRange "ValueError.__new__"))
    (h_ve_OutOfRange : PySem.HandSPX.refsVE bm_OutOfRange = true)
    (h_sa_OutOfRange : PySem.W.findIn K (.ref A_OutOfRange) "__setattr__" = some (some (.builtin "object.__setattr__")))
    (h_kc_OutOfRange : PySem.W.keepIn K (.ref A_OutOfRange) = true)
    (h_ini_OutOfRange : PySem.W.findIn K (.ref A_OutOfRange) "__init__" = some (some (.ref a_OutOfRangeU_initU)))
    (h_tf_OutOfRange : PySem.W.typeIn K (.ref a_OutOfRangeU_initU) = some (.type "function"))
    (h_no_OutOfRange_at : PySem.W.findIn K (.ref A_OutOfRange) "at" = some none)
    (h_no_OutOfRange_code : PySem.W.findIn K (.ref A_OutOfRange) "code" = some none)
    (h_be_OutOfRange : PySem.W.subIn K (.ref A_OutOfRange) (.type "BaseException") = some true)
    (h_ty_OutOfRange : PySem.W.typeIn K (.ref A_OutOfRange) = some (.type "type"))
    (h_rd_Depot : PySem.W.readsIn K A_Depot (.type "type") = true)
    (h_sga_Depot : PySem.W.specialIn K (.ref A_Depot) "__getattribute__" = some (some (.builtin "type.__getattribute__")))
    (h_cv_Depot_MOST_PERIOD : PySem.W.findCls K (.ref A_Depot) (.type "type") "MOST_PERIOD" = some (.val (.int 8 t_Depot_MOST_PERIOD)))
    (h_cv_Depot_MOST_DRIVERS : PySem.W.findCls K (.ref A_Depot) (.type "type") "MOST_DRIVERS" = some (.val (.int 12 t_Depot_MOST_DRIVERS)))
    (h_g_MOST_QUOTA : PySem.W.nsIn K mainGlobals "MOST_QUOTA" = some (some (.int 12 t_MOST_QUOTA)))
    (h_g_MOST_STRETCHES : PySem.W.nsIn K mainGlobals "MOST_STRETCHES" = some (some (.int 400 t_MOST_STRETCHES)))
    (h_g_MOST_DAYS : PySem.W.nsIn K mainGlobals "MOST_DAYS" = some (some (.int 1000000000000000000000000000000 t_MOST_DAYS)))
    (h_n_ValueError : PySem.W.nsIn K mainGlobals "ValueError" = some none)
    (h_n_abs : PySem.W.nsIn K mainGlobals "abs" = some none)
    (h_n_bool : PySem.W.nsIn K mainGlobals "bool" = some none)
    (h_n_enumerate : PySem.W.nsIn K mainGlobals "enumerate" = some none)
    (h_n_int : PySem.W.nsIn K mainGlobals "int" = some none)
    (h_n_isinstance : PySem.W.nsIn K mainGlobals "isinstance" = some none)
    (h_n_len : PySem.W.nsIn K mainGlobals "len" = some none)
    (h_n_list : PySem.W.nsIn K mainGlobals "list" = some none)
    (h_n_min : PySem.W.nsIn K mainGlobals "min" = some none)
    (h_n_range : PySem.W.nsIn K mainGlobals "range" = some none)
    (h_n_set : PySem.W.nsIn K mainGlobals "set" = some none)
    (h_n_sorted : PySem.W.nsIn K mainGlobals "sorted" = some none)
    (h_n_str : PySem.W.nsIn K mainGlobals "str" = some none)
    (h_n_sum : PySem.W.nsIn K mainGlobals "sum" = some none)
    (h_n_tuple : PySem.W.nsIn K mainGlobals "tuple" = some none)
    (h_sb_OutOfRange_BadBook : PySem.W.subIn K (.ref A_OutOfRange) (.ref A_BadBook) = some false)
    (h_hd_BadBook : PySem.W.hasDictIn K A_BadBook = true)
    (h_sb_BadDepot_BadBook : PySem.W.subIn K (.ref A_BadDepot) (.ref A_BadBook) = some false)
    (h_sb_BadBook_BadBook : PySem.W.subIn K (.ref A_BadBook) (.ref A_BadBook) = some true)
    (h_sb_BadCrews_BadBook : PySem.W.subIn K (.ref A_BadCrews) (.ref A_BadBook) = some false)
    (h_sb_NoBook_BadBook : PySem.W.subIn K (.ref A_NoBook) (.ref A_BadBook) = some false)
    (h_kx_OutOfRange_BadCrews : PySem.W.kitOne K (.ref A_OutOfRange) (.ref A_BadCrews) = some false)
    (h_ga_OutOfRange : PySem.W.findIn K (.ref A_OutOfRange) "__getattribute__" = some (some (.builtin "BaseException.__getattribute__")))
    (h_gg_OutOfRange : PySem.W.findIn K (.ref A_OutOfRange) "__getattr__" = some none)
    (h_cl_OutOfRange : PySem.W.findIn K (.ref A_OutOfRange) "__class__" = some (some (.builtin "object.__class__")))
    (h_mro_OutOfRange : PySem.W.mroIn K A_OutOfRange (.type "object") = some true)
    (h_hd_OutOfRange : PySem.W.hasDictIn K A_OutOfRange = true)
    (h_kx_BadDepot_BadCrews : PySem.W.kitOne K (.ref A_BadDepot) (.ref A_BadCrews) = some false)
    (h_ga_BadDepot : PySem.W.findIn K (.ref A_BadDepot) "__getattribute__" = some (some (.builtin "BaseException.__getattribute__")))
    (h_gg_BadDepot : PySem.W.findIn K (.ref A_BadDepot) "__getattr__" = some none)
    (h_cl_BadDepot : PySem.W.findIn K (.ref A_BadDepot) "__class__" = some (some (.builtin "object.__class__")))
    (h_mro_BadDepot : PySem.W.mroIn K A_BadDepot (.type "object") = some true)
    (h_hd_BadDepot : PySem.W.hasDictIn K A_BadDepot = true)
    (h_kx_BadBook_BadCrews : PySem.W.kitOne K (.ref A_BadBook) (.ref A_BadCrews) = some false)
    (h_ga_BadBook : PySem.W.findIn K (.ref A_BadBook) "__getattribute__" = some (some (.builtin "BaseException.__getattribute__")))
    (h_gg_BadBook : PySem.W.findIn K (.ref A_BadBook) "__getattr__" = some none)
    (h_cl_BadBook : PySem.W.findIn K (.ref A_BadBook) "__class__" = some (some (.builtin "object.__class__")))
    (h_mro_BadBook : PySem.W.mroIn K A_BadBook (.type "object") = some true)
    (h_kx_BadCrews_BadCrews : PySem.W.kitOne K (.ref A_BadCrews) (.ref A_BadCrews) = some true)
    (h_ga_BadCrews : PySem.W.findIn K (.ref A_BadCrews) "__getattribute__" = some (some (.builtin "BaseException.__getattribute__")))
    (h_gg_BadCrews : PySem.W.findIn K (.ref A_BadCrews) "__getattr__" = some none)
    (h_cl_BadCrews : PySem.W.findIn K (.ref A_BadCrews) "__class__" = some (some (.builtin "object.__class__")))
    (h_mro_BadCrews : PySem.W.mroIn K A_BadCrews (.type "object") = some true)
    (h_be_BadCrews : PySem.W.subIn K (.ref A_BadCrews) (.type "BaseException") = some true)
    (h_hd_BadCrews : PySem.W.hasDictIn K A_BadCrews = true)
    (h_kx_NoBook_BadCrews : PySem.W.kitOne K (.ref A_NoBook) (.ref A_BadCrews) = some false)
    (h_ga_NoBook : PySem.W.findIn K (.ref A_NoBook) "__getattribute__" = some (some (.builtin "BaseException.__getattribute__")))
    (h_gg_NoBook : PySem.W.findIn K (.ref A_NoBook) "__getattr__" = some none)
    (h_cl_NoBook : PySem.W.findIn K (.ref A_NoBook) "__class__" = some (some (.builtin "object.__class__")))
    (h_mro_NoBook : PySem.W.mroIn K A_NoBook (.type "object") = some true)
    (h_be_NoBook : PySem.W.subIn K (.ref A_NoBook) (.type "BaseException") = some true)
    (h_hd_NoBook : PySem.W.hasDictIn K A_NoBook = true)
    (h_kx_OutOfRange_BadDepot : PySem.W.kitOne K (.ref A_OutOfRange) (.ref A_BadDepot) = some false)
    (h_kx_BadDepot_BadDepot : PySem.W.kitOne K (.ref A_BadDepot) (.ref A_BadDepot) = some true)
    (h_kx_BadBook_BadDepot : PySem.W.kitOne K (.ref A_BadBook) (.ref A_BadDepot) = some false)
    (h_kx_BadCrews_BadDepot : PySem.W.kitOne K (.ref A_BadCrews) (.ref A_BadDepot) = some false)
    (h_kx_NoBook_BadDepot : PySem.W.kitOne K (.ref A_NoBook) (.ref A_BadDepot) = some false)
    (h_kx_OutOfRange_NoBook : PySem.W.kitOne K (.ref A_OutOfRange) (.ref A_NoBook) = some false)
    (h_kx_BadDepot_NoBook : PySem.W.kitOne K (.ref A_BadDepot) (.ref A_NoBook) = some false)
    (h_kx_BadBook_NoBook : PySem.W.kitOne K (.ref A_BadBook) (.ref A_NoBook) = some false)
    (h_kx_BadCrews_NoBook : PySem.W.kitOne K (.ref A_BadCrews) (.ref A_NoBook) = some false)
    (h_kx_NoBook_NoBook : PySem.W.kitOne K (.ref A_NoBook) (.ref A_NoBook) = some true)
    (h_kx_OutOfRange_OutOfRange : PySem.W.kitOne K (.ref A_OutOfRange) (.ref A_OutOfRange) = some true)
    (h_kx_BadDepot_OutOfRange : PySem.W.kitOne K (.ref A_BadDepot) (.ref A_OutOfRange) = some false)
    (h_kx_BadBook_OutOfRange : PySem.W.kitOne K (.ref A_BadBook) (.ref A_OutOfRange) = some false)
    (h_kx_BadCrews_OutOfRange : PySem.W.kitOne K (.ref A_BadCrews) (.ref A_OutOfRange) = some false)
    (h_kx_NoBook_OutOfRange : PySem.W.kitOne K (.ref A_NoBook) (.ref A_OutOfRange) = some false)
    (h_kx_OutOfRange_OutagainError : PySem.W.kitOne K (.ref A_OutOfRange) (.ref A_OutagainError) = some true)
    (h_kx_BadDepot_OutagainError : PySem.W.kitOne K (.ref A_BadDepot) (.ref A_OutagainError) = some true)
    (h_kx_BadBook_OutagainError : PySem.W.kitOne K (.ref A_BadBook) (.ref A_OutagainError) = some true)
    (h_kx_BadCrews_OutagainError : PySem.W.kitOne K (.ref A_BadCrews) (.ref A_OutagainError) = some true)
    (h_kx_NoBook_OutagainError : PySem.W.kitOne K (.ref A_NoBook) (.ref A_OutagainError) = some true)
    (h_kx_OutOfRange_ValueError : PySem.W.kitOne K (.ref A_OutOfRange) (.type "ValueError") = some true)
    (h_kx_BadDepot_ValueError : PySem.W.kitOne K (.ref A_BadDepot) (.type "ValueError") = some true)
    (h_kx_BadBook_ValueError : PySem.W.kitOne K (.ref A_BadBook) (.type "ValueError") = some true)
    (h_kx_BadCrews_ValueError : PySem.W.kitOne K (.ref A_BadCrews) (.type "ValueError") = some true)
    (h_kx_NoBook_ValueError : PySem.W.kitOne K (.ref A_NoBook) (.type "ValueError") = some true)
    (h_no_BadCrews_code : PySem.W.findIn K (.ref A_BadCrews) "code" = some none)
    (h_no_BadCrews_at : PySem.W.findIn K (.ref A_BadCrews) "at" = some none)
    : ∃ fd : FuncData, (∀ (s : Shared) (v : Value), BindsTo s fd ⟨[v], []⟩ [("script", v)]) ∧ ∀ base : Heap, K.In base → base.Ns mainGlobals mg → FnOk P w K mg base (L2.CX P w) 9 fa fd ["script"] (spLaw K) := by
  have e := hfa.symm.trans (PySem.W.mg_of X G h_ns_law)
  cases e
  have M_Depot : mg (cname 0) = some (.ref A_Depot) := PySem.W.mg_of X G h_ns_Depot
  have C_Depot : Cls K A_Depot := ⟨h_pg_Depot, h_hd_Depot, h_po_Depot, h_sa_Depot⟩
  have M_After : mg (cname 2) = some (.ref A_After) := PySem.W.mg_of X G h_ns_After
  have C_After : Cls K A_After := ⟨h_pg_After, h_hd_After, h_po_After, h_sa_After⟩
  have M_Book : mg (cname 1) = some (.ref A_Book) := PySem.W.mg_of X G h_ns_Book
  have C_Book : Cls K A_Book := ⟨h_pg_Book, h_hd_Book, h_po_Book, h_sa_Book⟩
  have I_Depot : IsC K mg 0 A_Depot [0, 2, 1] := ⟨M_Depot, all6 h_kt_Depot_NoneType h_kt_Depot_bool h_kt_Depot_int h_kt_Depot_str h_kt_Depot_list h_kt_Depot_tuple, fun c hc => by
    simp only [List.mem_cons, List.not_mem_nil, or_false] at hc
    rcases hc with rfl | rfl | rfl
    · exact at1 M_Depot ⟨h_ko_Depot_Depot, C_Depot, h_cl_Depot, h_mro_Depot⟩
    · exact at1 M_After ⟨h_ko_After_Depot, C_After, h_cl_After, h_mro_After⟩
    · exact at1 M_Book ⟨h_ko_Book_Depot, C_Book, h_cl_Book, h_mro_Book⟩, h_hn, h_ht⟩
  have I_After : IsC K mg 2 A_After [0, 2, 1] := ⟨M_After, all6 h_kt_After_NoneType h_kt_After_bool h_kt_After_int h_kt_After_str h_kt_After_list h_kt_After_tuple, fun c hc => by
    simp only [List.mem_cons, List.not_mem_nil, or_false] at hc
    rcases hc with rfl | rfl | rfl
    · exact at1 M_Depot ⟨h_ko_Depot_After, C_Depot, h_cl_Depot, h_mro_Depot⟩
    · exact at1 M_After ⟨h_ko_After_After, C_After, h_cl_After, h_mro_After⟩
    · exact at1 M_Book ⟨h_ko_Book_After, C_Book, h_cl_Book, h_mro_Book⟩, h_hn, h_ht⟩
  have I_Book : IsC K mg 1 A_Book [0, 2, 1] := ⟨M_Book, all6 h_kt_Book_NoneType h_kt_Book_bool h_kt_Book_int h_kt_Book_str h_kt_Book_list h_kt_Book_tuple, fun c hc => by
    simp only [List.mem_cons, List.not_mem_nil, or_false] at hc
    rcases hc with rfl | rfl | rfl
    · exact at1 M_Depot ⟨h_ko_Depot_Book, C_Depot, h_cl_Depot, h_mro_Depot⟩
    · exact at1 M_After ⟨h_ko_After_Book, C_After, h_cl_After, h_mro_After⟩
    · exact at1 M_Book ⟨h_ko_Book_Book, C_Book, h_cl_Book, h_mro_Book⟩, h_hn, h_ht⟩
  have M_OutagainError : mg (cname 20) = some (.ref A_OutagainError) := PySem.W.mg_of X G h_ns_OutagainError
  have M_OutOfRange : mg (cname 21) = some (.ref A_OutOfRange) := PySem.W.mg_of X G h_ns_OutOfRange
  have M_BadDepot : mg (cname 22) = some (.ref A_BadDepot) := PySem.W.mg_of X G h_ns_BadDepot
  have M_BadBook : mg (cname 23) = some (.ref A_BadBook) := PySem.W.mg_of X G h_ns_BadBook
  have M_BadCrews : mg (cname 26) = some (.ref A_BadCrews) := PySem.W.mg_of X G h_ns_BadCrews
  have M_NoBook : mg (cname 32) = some (.ref A_NoBook) := PySem.W.mg_of X G h_ns_NoBook
  have T : Tx K mg _ _ _ _ _ _ _ _ _ _ _ _ _ _ _ _ _ _ _ _ _ _ _ _ _ _ _ _ _ _ _ _ _ _ _ _ _ _ _ _ _ _ _ _ _ _ _ _ _ _ _ _ _ _ _ _ _ _ _ _ _ _ _ _ _ _ _ _ _ _ _ _ _ _ _ _ _ _ _ _ _ _ := {
    F__law_take := (fun_mk (st := s__law_take) h_lk__law_take h_co__law_take h_kp__law_take),
    B__law_take := ((fun_mk (st := s__law_take) h_lk__law_take h_co__law_take h_kp__law_take).binds (ps := ["pool", "limit"]) fun _ _ _ _ _ _ us hl => match us, hl with | [_, _], _ => rfl),
    G__law_take := (PySem.W.mg_of X G h_ns__law_take),
    K__law_take := (h_kp__law_take),
    F__law_depot := (fun_mk (st := s__law_depot) h_lk__law_depot h_co__law_depot h_kp__law_depot),
    B__law_depot := ((fun_mk (st := s__law_depot) h_lk__law_depot h_co__law_depot h_kp__law_depot).binds (ps := ["pool", "drivers", "period"]) fun _ _ _ _ _ _ us hl => match us, hl with | [_, _, _], _ => rfl),
    G__law_depot := (PySem.W.mg_of X G h_ns__law_depot),
    K__law_depot := (h_kp__law_depot),
    F__law_changed := (fun_mk (st := s__law_changed) h_lk__law_changed h_co__law_changed h_kp__law_changed),
    B__law_changed := ((fun_mk (st := s__law_changed) h_lk__law_changed h_co__law_changed h_kp__law_changed).binds (ps := ["pool", "plan", "rows"]) fun _ _ _ _ _ _ us hl => match us, hl with | [_, _, _], _ => rfl),
    G__law_changed := (PySem.W.mg_of X G h_ns__law_changed),
    K__law_changed := (h_kp__law_changed),
    F__law_choose := (fun_mk (st := s__law_choose) h_lk__law_choose h_co__law_choose h_kp__law_choose),
    B__law_choose := ((fun_mk (st := s__law_choose) h_lk__law_choose h_co__law_choose h_kp__law_choose).binds (ps := ["pool", "here", "many"]) fun _ _ _ _ _ _ us hl => match us, hl with | [_, _, _], _ => rfl),
    G__law_choose := (PySem.W.mg_of X G h_ns__law_choose),
    K__law_choose := (h_kp__law_choose),
    F__law_great := (fun_mk (st := s__law_great) h_lk__law_great h_co__law_great h_kp__law_great),
    B__law_great := ((fun_mk (st := s__law_great) h_lk__law_great h_co__law_great h_kp__law_great).binds (ps := ["pool", "most"]) fun _ _ _ _ _ _ us hl => match us, hl with | [_, _], _ => rfl),
    G__law_great := (PySem.W.mg_of X G h_ns__law_great),
    K__law_great := (h_kp__law_great),
    F__law_span := (fun_mk (st := s__law_span) h_lk__law_span h_co__law_span h_kp__law_span),
    B__law_span := ((fun_mk (st := s__law_span) h_lk__law_span h_co__law_span h_kp__law_span).binds (ps := ["pool", "great"]) fun _ _ _ _ _ _ us hl => match us, hl with | [_, _], _ => rfl),
    G__law_span := (PySem.W.mg_of X G h_ns__law_span),
    K__law_span := (h_kp__law_span),
    F__law_gone := (fun_mk (st := s__law_gone) h_lk__law_gone h_co__law_gone h_kp__law_gone),
    B__law_gone := ((fun_mk (st := s__law_gone) h_lk__law_gone h_co__law_gone h_kp__law_gone).binds (ps := ["nexts", "crew", "span", "start", "m"]) fun _ _ _ _ _ _ us hl => match us, hl with | [_, _, _, _, _], _ => rfl),
    G__law_gone := (PySem.W.mg_of X G h_ns__law_gone),
    K__law_gone := (h_kp__law_gone),
    F__law_here := (fun_mk (st := s__law_here) h_lk__law_here h_co__law_here h_kp__law_here),
    B__law_here := ((fun_mk (st := s__law_here) h_lk__law_here h_co__law_here h_kp__law_here).binds (ps := ["nexts", "morning"]) fun _ _ _ _ _ _ us hl => match us, hl with | [_, _], _ => rfl),
    G__law_here := (PySem.W.mg_of X G h_ns__law_here),
    K__law_here := (h_kp__law_here),
    F__law_book := (fun_mk (st := s__law_book) h_lk__law_book h_co__law_book h_kp__law_book),
    B__law_book := ((fun_mk (st := s__law_book) h_lk__law_book h_co__law_book h_kp__law_book).binds (ps := ["pool", "plan", "many", "great"]) fun _ _ _ _ _ _ us hl => match us, hl with | [_, _, _, _], _ => rfl),
    G__law_book := (PySem.W.mg_of X G h_ns__law_book),
    K__law_book := (h_kp__law_book),
    F__law_case := (fun_mk (st := s__law_case) h_lk__law_case h_co__law_case h_kp__law_case),
    B__law_case := ((fun_mk (st := s__law_case) h_lk__law_case h_co__law_case h_kp__law_case).binds (ps := ["pool"]) fun _ _ _ _ _ _ us hl => match us, hl with | [_], _ => rfl),
    G__law_case := (PySem.W.mg_of X G h_ns__law_case),
    K__law_case := (h_kp__law_case),
    F_check_period_and_quota := (fun_mk (st := s_check_period_and_quota) h_lk_check_period_and_quota h_co_check_period_and_quota h_kp_check_period_and_quota),
    B_check_period_and_quota := ((fun_mk (st := s_check_period_and_quota) h_lk_check_period_and_quota h_co_check_period_and_quota h_kp_check_period_and_quota).binds (ps := ["period", "quota"]) fun _ _ _ _ _ _ us hl => match us, hl with | [_, _], _ => rfl),
    G_check_period_and_quota := (PySem.W.mg_of X G h_ns_check_period_and_quota),
    K_check_period_and_quota := (h_kp_check_period_and_quota),
    F_check_firsts := (fun_mk (st := s_check_firsts) h_lk_check_firsts h_co_check_firsts h_kp_check_firsts),
    B_check_firsts := ((fun_mk (st := s_check_firsts) h_lk_check_firsts h_co_check_firsts h_kp_check_firsts).binds (ps := ["period", "quota", "firsts"]) fun _ _ _ _ _ _ us hl => match us, hl with | [_, _, _], _ => rfl),
    G_check_firsts := (PySem.W.mg_of X G h_ns_check_firsts),
    K_check_firsts := (h_kp_check_firsts),
    F_DepotU_initU := (fun_mk (st := s_DepotU_initU) h_lk_DepotU_initU h_co_DepotU_initU h_kp_DepotU_initU),
    B_DepotU_initU := ((fun_mk (st := s_DepotU_initU) h_lk_DepotU_initU h_co_DepotU_initU h_kp_DepotU_initU).binds (ps := ["self", "period", "quota", "firsts"]) fun _ _ _ _ _ _ us hl => match us, hl with | [_, _, _, _], _ => rfl),
    mk_Depot := (⟨h_mk_Depot, h_ini_Depot, h_fn_DepotU_initU, h_kc_Depot⟩),
    F__law_pool := (fun_mk (st := s__law_pool) h_lk__law_pool h_co__law_pool h_kp__law_pool),
    B__law_pool := ((fun_mk (st := s__law_pool) h_lk__law_pool h_co__law_pool h_kp__law_pool).binds (ps := ["script"]) fun _ _ _ _ _ _ us hl => match us, hl with | [_], _ => rfl),
    G__law_pool := (PySem.W.mg_of X G h_ns__law_pool),
    K__law_pool := (h_kp__law_pool),
    F_ascending := (fun_mk (st := s_ascending) h_lk_ascending h_co_ascending h_kp_ascending),
    B_ascending := ((fun_mk (st := s_ascending) h_lk_ascending h_co_ascending h_kp_ascending).binds (ps := ["drivers", "size"]) fun _ _ _ _ _ _ us hl => match us, hl with | [_, _], _ => rfl),
    G_ascending := (PySem.W.mg_of X G h_ns_ascending),
    K_ascending := (h_kp_ascending),
    F_check_stretches := (fun_mk (st := s_check_stretches) h_lk_check_stretches h_co_check_stretches h_kp_check_stretches),
    B_check_stretches := ((fun_mk (st := s_check_stretches) h_lk_check_stretches h_co_check_stretches h_kp_check_stretches).binds (ps := ["stretches"]) fun _ _ _ _ _ _ us hl => match us, hl with | [_], _ => rfl),
    G_check_stretches := (PySem.W.mg_of X G h_ns_check_stretches),
    K_check_stretches := (h_kp_check_stretches),
    F_join_neighbours := (fun_mk (st := s_join_neighbours) h_lk_join_neighbours h_co_join_neighbours h_kp_join_neighbours),
    B_join_neighbours := ((fun_mk (st := s_join_neighbours) h_lk_join_neighbours h_co_join_neighbours h_kp_join_neighbours).binds (ps := ["pairs"]) fun _ _ _ _ _ _ us hl => match us, hl with | [_], _ => rfl),
    G_join_neighbours := (PySem.W.mg_of X G h_ns_join_neighbours),
    K_join_neighbours := (h_kp_join_neighbours),
    F_BookU_initU := (fun_mk (st := s_BookU_initU) h_lk_BookU_initU h_co_BookU_initU h_kp_BookU_initU),
    B_BookU_initU := ((fun_mk (st := s_BookU_initU) h_lk_BookU_initU h_co_BookU_initU h_kp_BookU_initU).binds (ps := ["self", "stretches"]) fun _ _ _ _ _ _ us hl => match us, hl with | [_, _], _ => rfl),
    mk_Book := (⟨h_mk_Book, h_ini_Book, h_fn_BookU_initU, h_kc_Book⟩),
    F_AfterU_initU := (fun_mk (st := s_AfterU_initU) h_lk_AfterU_initU h_co_AfterU_initU h_kp_AfterU_initU),
    B_AfterU_initU := ((fun_mk (st := s_AfterU_initU) h_lk_AfterU_initU h_co_AfterU_initU h_kp_AfterU_initU).binds (ps := ["self", "depot", "days", "passes", "longs", "nexts"]) fun _ _ _ _ _ _ us hl => match us, hl with | [_, _, _, _, _, _], _ => rfl),
    mk_After := (⟨h_mk_After, h_ini_After, h_fn_AfterU_initU, h_kc_After⟩),
    F_Depot_size := (fun_mk (st := s_Depot_size) h_lk_Depot_size h_co_Depot_size h_kp_Depot_size),
    B_Depot_size := ((fun_mk (st := s_Depot_size) h_lk_Depot_size h_co_Depot_size h_kp_Depot_size).binds (ps := ["self"]) fun _ _ _ _ _ _ us hl => match us, hl with | [_], _ => rfl),
    pr_Depot_size := (⟨M_Depot, C_Depot, ⟨h_at_Depot_size, h_get_Depot_size, h_tak_Depot_size, ⟨_, h_rec_Depot_size⟩⟩⟩),
    F_check_runners := (fun_mk (st := s_check_runners) h_lk_check_runners h_co_check_runners h_kp_check_runners),
    B_check_runners := ((fun_mk (st := s_check_runners) h_lk_check_runners h_co_check_runners h_kp_check_runners).binds (ps := ["depot", "at", "runners", "nexts", "morning"]) fun _ _ _ _ _ _ us hl => match us, hl with | [_, _, _, _, _], _ => rfl),
    G_check_runners := (PySem.W.mg_of X G h_ns_check_runners),
    K_check_runners := (h_kp_check_runners),
    F_long_runs := (fun_mk (st := s_long_runs) h_lk_long_runs h_co_long_runs h_kp_long_runs),
    B_long_runs := ((fun_mk (st := s_long_runs) h_lk_long_runs h_co_long_runs h_kp_long_runs).binds (ps := ["depot", "morning", "behind"]) fun _ _ _ _ _ _ us hl => match us, hl with | [_, _, _], _ => rfl),
    G_long_runs := (PySem.W.mg_of X G h_ns_long_runs),
    K_long_runs := (h_kp_long_runs),
    F_walk := (fun_mk (st := s_walk) h_lk_walk h_co_walk h_kp_walk),
    B_walk := ((fun_mk (st := s_walk) h_lk_walk h_co_walk h_kp_walk).binds (ps := ["depot", "book"]) fun _ _ _ _ _ _ us hl => match us, hl with | [_, _], _ => rfl),
    G_walk := (PySem.W.mg_of X G h_ns_walk),
    K_walk := (h_kp_walk),
    F_check_days := (fun_mk (st := s_check_days) h_lk_check_days h_co_check_days h_kp_check_days),
    B_check_days := ((fun_mk (st := s_check_days) h_lk_check_days h_co_check_days h_kp_check_days).binds (ps := ["days"]) fun _ _ _ _ _ _ us hl => match us, hl with | [_], _ => rfl),
    G_check_days := (PySem.W.mg_of X G h_ns_check_days),
    K_check_days := (h_kp_check_days),
    F_Depot_closings := (fun_mk (st := s_Depot_closings) h_lk_Depot_closings h_co_Depot_closings h_kp_Depot_closings),
    B_Depot_closings := ((fun_mk (st := s_Depot_closings) h_lk_Depot_closings h_co_Depot_closings h_kp_Depot_closings).binds (ps := ["self", "days"]) fun _ _ _ _ _ _ us hl => match us, hl with | [_, _], _ => rfl),
    me_Depot_closings := (⟨M_Depot, C_Depot, ⟨h_at_Depot_closings, h_fn_Depot_closings, h_kp_Depot_closings⟩, by decide⟩),
    F_crews_seen := (fun_mk (st := s_crews_seen) h_lk_crews_seen h_co_crews_seen h_kp_crews_seen),
    B_crews_seen := ((fun_mk (st := s_crews_seen) h_lk_crews_seen h_co_crews_seen h_kp_crews_seen).binds (ps := ["depot", "book"]) fun _ _ _ _ _ _ us hl => match us, hl with | [_, _], _ => rfl),
    G_crews_seen := (PySem.W.mg_of X G h_ns_crews_seen),
    K_crews_seen := (h_kp_crews_seen),
    F__law_ask := (fun_mk (st := s__law_ask) h_lk__law_ask h_co__law_ask h_kp__law_ask),
    B__law_ask := ((fun_mk (st := s__law_ask) h_lk__law_ask h_co__law_ask h_kp__law_ask).binds (ps := ["depot", "book"]) fun _ _ _ _ _ _ us hl => match us, hl with | [_, _], _ => rfl),
    G__law_ask := (PySem.W.mg_of X G h_ns__law_ask),
    K__law_ask := (h_kp__law_ask),
    F__law_number := (fun_mk (st := s__law_number) h_lk__law_number h_co__law_number h_kp__law_number),
    B__law_number := ((fun_mk (st := s__law_number) h_lk__law_number h_co__law_number h_kp__law_number).binds (ps := ["got"]) fun _ _ _ _ _ _ us hl => match us, hl with | [_], _ => rfl),
    G__law_number := (PySem.W.mg_of X G h_ns__law_number),
    K__law_number := (h_kp__law_number),
    F__law_same := (fun_mk (st := s__law_same) h_lk__law_same h_co__law_same h_kp__law_same),
    B__law_same := ((fun_mk (st := s__law_same) h_lk__law_same h_co__law_same h_kp__law_same).binds (ps := ["got", "due"]) fun _ _ _ _ _ _ us hl => match us, hl with | [_, _], _ => rfl),
    G__law_same := (PySem.W.mg_of X G h_ns__law_same),
    K__law_same := (h_kp__law_same),
    F__law_joined := (fun_mk (st := s__law_joined) h_lk__law_joined h_co__law_joined h_kp__law_joined),
    B__law_joined := ((fun_mk (st := s__law_joined) h_lk__law_joined h_co__law_joined h_kp__law_joined).binds (ps := ["rows"]) fun _ _ _ _ _ _ us hl => match us, hl with | [_], _ => rfl),
    G__law_joined := (PySem.W.mg_of X G h_ns__law_joined),
    K__law_joined := (h_kp__law_joined),
    F__law_closings_in := (fun_mk (st := s__law_closings_in) h_lk__law_closings_in h_co__law_closings_in h_kp__law_closings_in),
    B__law_closings_in := ((fun_mk (st := s__law_closings_in) h_lk__law_closings_in h_co__law_closings_in h_kp__law_closings_in).binds (ps := ["start", "end", "m"]) fun _ _ _ _ _ _ us hl => match us, hl with | [_, _, _], _ => rfl),
    G__law_closings_in := (PySem.W.mg_of X G h_ns__law_closings_in),
    K__law_closings_in := (h_kp__law_closings_in),
    F__law_due := (fun_mk (st := s__law_due) h_lk__law_due h_co__law_due h_kp__law_due),
    B__law_due := ((fun_mk (st := s__law_due) h_lk__law_due h_co__law_due h_kp__law_due).binds (ps := ["plan", "rows"]) fun _ _ _ _ _ _ us hl => match us, hl with | [_, _], _ => rfl),
    G__law_due := (PySem.W.mg_of X G h_ns__law_due),
    K__law_due := (h_kp__law_due),
    F_law := (fun_mk (st := s_law) h_lk_law h_co_law h_kp_law),
    B_law := ((fun_mk (st := s_law) h_lk_law h_co_law h_kp_law).binds (ps := ["script"]) fun _ _ _ _ _ _ us hl => match us, hl with | [_], _ => rfl),
    G_law := (PySem.W.mg_of X G h_ns_law),
    K_law := (h_kp_law),
    F_BadDepotU_initU := (fun_mk (st := s_BadDepotU_initU) h_lk_BadDepotU_initU h_co_BadDepotU_initU h_kp_BadDepotU_initU),
    B_BadDepotU_initU := ((fun_mk (st := s_BadDepotU_initU) h_lk_BadDepotU_initU h_co_BadDepotU_initU h_kp_BadDepotU_initU).binds (ps := ["self", "at", "code"]) fun _ _ _ _ _ _ us hl => match us, hl with | [_, _, _], _ => rfl),
    F_BadBookU_initU := (fun_mk (st := s_BadBookU_initU) h_lk_BadBookU_initU h_co_BadBookU_initU h_kp_BadBookU_initU),
    B_BadBookU_initU := ((fun_mk (st := s_BadBookU_initU) h_lk_BadBookU_initU h_co_BadBookU_initU h_kp_BadBookU_initU).binds (ps := ["self", "at", "code"]) fun _ _ _ _ _ _ us hl => match us, hl with | [_, _, _], _ => rfl),
    F_OutOfRangeU_initU := (fun_mk (st := s_OutOfRangeU_initU) h_lk_OutOfRangeU_initU h_co_OutOfRangeU_initU h_kp_OutOfRangeU_initU),
    B_OutOfRangeU_initU := ((fun_mk (st := s_OutOfRangeU_initU) h_lk_OutOfRangeU_initU h_co_OutOfRangeU_initU h_kp_OutOfRangeU_initU).binds (ps := ["self", "at", "code"]) fun _ _ _ _ _ _ us hl => match us, hl with | [_, _, _], _ => rfl),
    m_Depot := (M_Depot),
    fa_Depot_period := (at1 M_Depot ⟨C_Depot, h_no_Depot_period⟩),
    fa_Depot_quota := (at1 M_Depot ⟨C_Depot, h_no_Depot_quota⟩),
    fa_Depot_firsts := (at1 M_Depot ⟨C_Depot, h_no_Depot_firsts⟩),
    is_Depot := (I_Depot),
    m_After := (M_After),
    fa_After_days := (at1 M_After ⟨C_After, h_no_After_days⟩),
    fa_After_passes := (at1 M_After ⟨C_After, h_no_After_passes⟩),
    fa_After_longs := (at1 M_After ⟨C_After, h_no_After_longs⟩),
    fa_After_nexts := (at1 M_After ⟨C_After, h_no_After_nexts⟩),
    fa_After__depot := (at1 M_After ⟨C_After, h_no_After__depot⟩),
    is_After := (I_After),
    m_Book := (M_Book),
    fa_Book_stretches := (at1 M_Book ⟨C_Book, h_no_Book_stretches⟩),
    fa_Book_days := (at1 M_Book ⟨C_Book, h_no_Book_days⟩),
    is_Book := (I_Book),
    m_OutagainError := (M_OutagainError),
    m_OutOfRange := (M_OutOfRange),
    m_BadDepot := (M_BadDepot),
    m_BadBook := (M_BadBook),
    m_BadCrews := (M_BadCrews),
    m_NoBook := (M_NoBook),
    ex_BadDepot := (⟨M_BadDepot, ⟨⟨_, _, _, _, _, _, _, _, _, _, _, _, _, _, _, h_xo_BadDepot, h_ve_BadDepot⟩, h_sa_BadDepot, h_be_BadDepot, h_ty_BadDepot, h_kc_BadDepot⟩, h_ini_BadDepot, h_tf_BadDepot, fun f hf => by
        have hf' : f ∈ (["at", "code"] : List Str) := hf
        simp only [List.mem_cons, List.not_mem_nil, or_false] at hf'
        rcases hf' with rfl | rfl
        · exact h_no_BadDepot_at
        · exact h_no_BadDepot_code⟩),
    ex_BadBook := (⟨M_BadBook, ⟨⟨_, _, _, _, _, _, _, _, _, _, _, _, _, _, _, h_xo_BadBook, h_ve_BadBook⟩, h_sa_BadBook, h_be_BadBook, h_ty_BadBook, h_kc_BadBook⟩, h_ini_BadBook, h_tf_BadBook, fun f hf => by
        have hf' : f ∈ (["at", "code"] : List Str) := hf
        simp only [List.mem_cons, List.not_mem_nil, or_false] at hf'
        rcases hf' with rfl | rfl
        · exact h_no_BadBook_at
        · exact h_no_BadBook_code⟩),
    ex_OutOfRange := (⟨M_OutOfRange, ⟨⟨_, _, _, _, _, _, _, _, _, _, _, _, _, _, _, h_xo_OutOfRange, h_ve_OutOfRange⟩, h_sa_OutOfRange, h_be_OutOfRange, h_ty_OutOfRange, h_kc_OutOfRange⟩, h_ini_OutOfRange, h_tf_OutOfRange, fun f hf => by
        have hf' : f ∈ (["at", "code"] : List Str) := hf
        simp only [List.mem_cons, List.not_mem_nil, or_false] at hf'
        rcases hf' with rfl | rfl
        · exact h_no_OutOfRange_at
        · exact h_no_OutOfRange_code⟩),
    fld_firsts := (fun c j h => by
        have hm := lookup_mem h
        simp only [List.mem_cons, Prod.mk.injEq, List.not_mem_nil, or_false] at hm
        rcases hm with ⟨rfl, rfl⟩
        · exact ⟨by decide, rfl, at1 M_Depot ⟨C_Depot, h_no_Depot_firsts⟩⟩),
    fld_quota := (fun c j h => by
        have hm := lookup_mem h
        simp only [List.mem_cons, Prod.mk.injEq, List.not_mem_nil, or_false] at hm
        rcases hm with ⟨rfl, rfl⟩
        · exact ⟨by decide, rfl, at1 M_Depot ⟨C_Depot, h_no_Depot_quota⟩⟩),
    fld_period := (fun c j h => by
        have hm := lookup_mem h
        simp only [List.mem_cons, Prod.mk.injEq, List.not_mem_nil, or_false] at hm
        rcases hm with ⟨rfl, rfl⟩
        · exact ⟨by decide, rfl, at1 M_Depot ⟨C_Depot, h_no_Depot_period⟩⟩),
    fld_stretches := (fun c j h => by
        have hm := lookup_mem h
        simp only [List.mem_cons, Prod.mk.injEq, List.not_mem_nil, or_false] at hm
        rcases hm with ⟨rfl, rfl⟩
        · exact ⟨by decide, rfl, at1 M_Book ⟨C_Book, h_no_Book_stretches⟩⟩),
    fld_days := (fun c j h => by
        have hm := lookup_mem h
        simp only [List.mem_cons, Prod.mk.injEq, List.not_mem_nil, or_false] at hm
        rcases hm with ⟨rfl, rfl⟩ | ⟨rfl, rfl⟩
        · exact ⟨by decide, rfl, at1 M_After ⟨C_After, h_no_After_days⟩⟩
        · exact ⟨by decide, rfl, at1 M_Book ⟨C_Book, h_no_Book_days⟩⟩),
    cv_Depot_MOST_PERIOD := (⟨M_Depot, ⟨.type "type", .int 8 t_Depot_MOST_PERIOD, ⟨h_rd_Depot, h_sga_Depot⟩, ⟨h_cv_Depot_MOST_PERIOD, ⟨_, rfl⟩⟩⟩⟩),
    cv_Depot_MOST_DRIVERS := (⟨M_Depot, ⟨.type "type", .int 12 t_Depot_MOST_DRIVERS, ⟨h_rd_Depot, h_sga_Depot⟩, ⟨h_cv_Depot_MOST_DRIVERS, ⟨_, rfl⟩⟩⟩⟩),
    g_MOST_QUOTA := (⟨_, PySem.W.mg_of X G h_g_MOST_QUOTA⟩),
    g_MOST_STRETCHES := (⟨_, PySem.W.mg_of X G h_g_MOST_STRETCHES⟩),
    g_MOST_DAYS := (⟨_, PySem.W.mg_of X G h_g_MOST_DAYS⟩),
    n_ValueError := (PySem.W.mg_none_of X G h_n_ValueError),
    n_abs := (PySem.W.mg_none_of X G h_n_abs),
    n_bool := (PySem.W.mg_none_of X G h_n_bool),
    n_enumerate := (PySem.W.mg_none_of X G h_n_enumerate),
    n_int := (PySem.W.mg_none_of X G h_n_int),
    n_isinstance := (PySem.W.mg_none_of X G h_n_isinstance),
    n_len := (PySem.W.mg_none_of X G h_n_len),
    n_list := (PySem.W.mg_none_of X G h_n_list),
    n_min := (PySem.W.mg_none_of X G h_n_min),
    n_range := (PySem.W.mg_none_of X G h_n_range),
    n_set := (PySem.W.mg_none_of X G h_n_set),
    n_sorted := (PySem.W.mg_none_of X G h_n_sorted),
    n_str := (PySem.W.mg_none_of X G h_n_str),
    n_sum := (PySem.W.mg_none_of X G h_n_sum),
    n_tuple := (PySem.W.mg_none_of X G h_n_tuple),
    ca_BadBook := (fun c b h => by
        unfold c_BadBook at h
        split at h
        · cases h; exact at1 M_OutOfRange (exm_of h_be_BadBook h_hd_BadBook h_ty_BadBook h_sb_OutOfRange_BadBook)
        · cases h; exact at1 M_BadDepot (exm_of h_be_BadBook h_hd_BadBook h_ty_BadBook h_sb_BadDepot_BadBook)
        · cases h; exact at1 M_BadBook (exm_of h_be_BadBook h_hd_BadBook h_ty_BadBook h_sb_BadBook_BadBook)
        · cases h; exact at1 M_BadCrews (exm_of h_be_BadBook h_hd_BadBook h_ty_BadBook h_sb_BadCrews_BadBook)
        · cases h; exact at1 M_NoBook (exm_of h_be_BadBook h_hd_BadBook h_ty_BadBook h_sb_NoBook_BadBook)
        · cases h),
    ix_BadCrews := (fun c b h => by
        unfold f_BadCrews at h
        split at h
        · cases h; exact at1 M_OutOfRange ⟨⟨h_ga_OutOfRange, h_gg_OutOfRange, h_be_OutOfRange, h_hd_OutOfRange, h_cl_OutOfRange, h_hn, h_ht, h_mro_OutOfRange⟩, h_kx_OutOfRange_BadCrews⟩
        · cases h; exact at1 M_BadDepot ⟨⟨h_ga_BadDepot, h_gg_BadDepot, h_be_BadDepot, h_hd_BadDepot, h_cl_BadDepot, h_hn, h_ht, h_mro_BadDepot⟩, h_kx_BadDepot_BadCrews⟩
        · cases h; exact at1 M_BadBook ⟨⟨h_ga_BadBook, h_gg_BadBook, h_be_BadBook, h_hd_BadBook, h_cl_BadBook, h_hn, h_ht, h_mro_BadBook⟩, h_kx_BadBook_BadCrews⟩
        · cases h; exact at1 M_BadCrews ⟨⟨h_ga_BadCrews, h_gg_BadCrews, h_be_BadCrews, h_hd_BadCrews, h_cl_BadCrews, h_hn, h_ht, h_mro_BadCrews⟩, h_kx_BadCrews_BadCrews⟩
        · cases h; exact at1 M_NoBook ⟨⟨h_ga_NoBook, h_gg_NoBook, h_be_NoBook, h_hd_NoBook, h_cl_NoBook, h_hn, h_ht, h_mro_NoBook⟩, h_kx_NoBook_BadCrews⟩
        · cases h),
    ix_BadDepot := (fun c b h => by
        unfold f_BadDepot at h
        split at h
        · cases h; exact at1 M_OutOfRange ⟨⟨h_ga_OutOfRange, h_gg_OutOfRange, h_be_OutOfRange, h_hd_OutOfRange, h_cl_OutOfRange, h_hn, h_ht, h_mro_OutOfRange⟩, h_kx_OutOfRange_BadDepot⟩
        · cases h; exact at1 M_BadDepot ⟨⟨h_ga_BadDepot, h_gg_BadDepot, h_be_BadDepot, h_hd_BadDepot, h_cl_BadDepot, h_hn, h_ht, h_mro_BadDepot⟩, h_kx_BadDepot_BadDepot⟩
        · cases h; exact at1 M_BadBook ⟨⟨h_ga_BadBook, h_gg_BadBook, h_be_BadBook, h_hd_BadBook, h_cl_BadBook, h_hn, h_ht, h_mro_BadBook⟩, h_kx_BadBook_BadDepot⟩
        · cases h; exact at1 M_BadCrews ⟨⟨h_ga_BadCrews, h_gg_BadCrews, h_be_BadCrews, h_hd_BadCrews, h_cl_BadCrews, h_hn, h_ht, h_mro_BadCrews⟩, h_kx_BadCrews_BadDepot⟩
        · cases h; exact at1 M_NoBook ⟨⟨h_ga_NoBook, h_gg_NoBook, h_be_NoBook, h_hd_NoBook, h_cl_NoBook, h_hn, h_ht, h_mro_NoBook⟩, h_kx_NoBook_BadDepot⟩
        · cases h),
    ix_NoBook := (fun c b h => by
        unfold f_NoBook at h
        split at h
        · cases h; exact at1 M_OutOfRange ⟨⟨h_ga_OutOfRange, h_gg_OutOfRange, h_be_OutOfRange, h_hd_OutOfRange, h_cl_OutOfRange, h_hn, h_ht, h_mro_OutOfRange⟩, h_kx_OutOfRange_NoBook⟩
        · cases h; exact at1 M_BadDepot ⟨⟨h_ga_BadDepot, h_gg_BadDepot, h_be_BadDepot, h_hd_BadDepot, h_cl_BadDepot, h_hn, h_ht, h_mro_BadDepot⟩, h_kx_BadDepot_NoBook⟩
        · cases h; exact at1 M_BadBook ⟨⟨h_ga_BadBook, h_gg_BadBook, h_be_BadBook, h_hd_BadBook, h_cl_BadBook, h_hn, h_ht, h_mro_BadBook⟩, h_kx_BadBook_NoBook⟩
        · cases h; exact at1 M_BadCrews ⟨⟨h_ga_BadCrews, h_gg_BadCrews, h_be_BadCrews, h_hd_BadCrews, h_cl_BadCrews, h_hn, h_ht, h_mro_BadCrews⟩, h_kx_BadCrews_NoBook⟩
        · cases h; exact at1 M_NoBook ⟨⟨h_ga_NoBook, h_gg_NoBook, h_be_NoBook, h_hd_NoBook, h_cl_NoBook, h_hn, h_ht, h_mro_NoBook⟩, h_kx_NoBook_NoBook⟩
        · cases h),
    ix_OutOfRange := (fun c b h => by
        unfold f_OutOfRange at h
        split at h
        · cases h; exact at1 M_OutOfRange ⟨⟨h_ga_OutOfRange, h_gg_OutOfRange, h_be_OutOfRange, h_hd_OutOfRange, h_cl_OutOfRange, h_hn, h_ht, h_mro_OutOfRange⟩, h_kx_OutOfRange_OutOfRange⟩
        · cases h; exact at1 M_BadDepot ⟨⟨h_ga_BadDepot, h_gg_BadDepot, h_be_BadDepot, h_hd_BadDepot, h_cl_BadDepot, h_hn, h_ht, h_mro_BadDepot⟩, h_kx_BadDepot_OutOfRange⟩
        · cases h; exact at1 M_BadBook ⟨⟨h_ga_BadBook, h_gg_BadBook, h_be_BadBook, h_hd_BadBook, h_cl_BadBook, h_hn, h_ht, h_mro_BadBook⟩, h_kx_BadBook_OutOfRange⟩
        · cases h; exact at1 M_BadCrews ⟨⟨h_ga_BadCrews, h_gg_BadCrews, h_be_BadCrews, h_hd_BadCrews, h_cl_BadCrews, h_hn, h_ht, h_mro_BadCrews⟩, h_kx_BadCrews_OutOfRange⟩
        · cases h; exact at1 M_NoBook ⟨⟨h_ga_NoBook, h_gg_NoBook, h_be_NoBook, h_hd_NoBook, h_cl_NoBook, h_hn, h_ht, h_mro_NoBook⟩, h_kx_NoBook_OutOfRange⟩
        · cases h),
    ix_OutagainError := (fun c b h => by
        unfold f_OutagainError at h
        split at h
        · cases h; exact at1 M_OutOfRange ⟨⟨h_ga_OutOfRange, h_gg_OutOfRange, h_be_OutOfRange, h_hd_OutOfRange, h_cl_OutOfRange, h_hn, h_ht, h_mro_OutOfRange⟩, h_kx_OutOfRange_OutagainError⟩
        · cases h; exact at1 M_BadDepot ⟨⟨h_ga_BadDepot, h_gg_BadDepot, h_be_BadDepot, h_hd_BadDepot, h_cl_BadDepot, h_hn, h_ht, h_mro_BadDepot⟩, h_kx_BadDepot_OutagainError⟩
        · cases h; exact at1 M_BadBook ⟨⟨h_ga_BadBook, h_gg_BadBook, h_be_BadBook, h_hd_BadBook, h_cl_BadBook, h_hn, h_ht, h_mro_BadBook⟩, h_kx_BadBook_OutagainError⟩
        · cases h; exact at1 M_BadCrews ⟨⟨h_ga_BadCrews, h_gg_BadCrews, h_be_BadCrews, h_hd_BadCrews, h_cl_BadCrews, h_hn, h_ht, h_mro_BadCrews⟩, h_kx_BadCrews_OutagainError⟩
        · cases h; exact at1 M_NoBook ⟨⟨h_ga_NoBook, h_gg_NoBook, h_be_NoBook, h_hd_NoBook, h_cl_NoBook, h_hn, h_ht, h_mro_NoBook⟩, h_kx_NoBook_OutagainError⟩
        · cases h),
    ix_ValueError := (fun c b h => by
        unfold f_ValueError at h
        split at h
        · cases h; exact at1 M_OutOfRange ⟨⟨h_ga_OutOfRange, h_gg_OutOfRange, h_be_OutOfRange, h_hd_OutOfRange, h_cl_OutOfRange, h_hn, h_ht, h_mro_OutOfRange⟩, h_kx_OutOfRange_ValueError⟩
        · cases h; exact at1 M_BadDepot ⟨⟨h_ga_BadDepot, h_gg_BadDepot, h_be_BadDepot, h_hd_BadDepot, h_cl_BadDepot, h_hn, h_ht, h_mro_BadDepot⟩, h_kx_BadDepot_ValueError⟩
        · cases h; exact at1 M_BadBook ⟨⟨h_ga_BadBook, h_gg_BadBook, h_be_BadBook, h_hd_BadBook, h_cl_BadBook, h_hn, h_ht, h_mro_BadBook⟩, h_kx_BadBook_ValueError⟩
        · cases h; exact at1 M_BadCrews ⟨⟨h_ga_BadCrews, h_gg_BadCrews, h_be_BadCrews, h_hd_BadCrews, h_cl_BadCrews, h_hn, h_ht, h_mro_BadCrews⟩, h_kx_BadCrews_ValueError⟩
        · cases h; exact at1 M_NoBook ⟨⟨h_ga_NoBook, h_gg_NoBook, h_be_NoBook, h_hd_NoBook, h_cl_NoBook, h_hn, h_ht, h_mro_NoBook⟩, h_kx_NoBook_ValueError⟩
        · cases h),
    xf_code := (fun c j h => by
        have hm := lookup_mem h
        simp only [List.mem_cons, Prod.mk.injEq, List.not_mem_nil, or_false] at hm
        rcases hm with ⟨rfl, rfl⟩ | ⟨rfl, rfl⟩ | ⟨rfl, rfl⟩ | ⟨rfl, rfl⟩
        · exact ⟨by decide, rfl, at1 M_OutOfRange ⟨⟨h_ga_OutOfRange, h_gg_OutOfRange, h_be_OutOfRange, h_hd_OutOfRange⟩, h_no_OutOfRange_code⟩⟩
        · exact ⟨by decide, rfl, at1 M_BadDepot ⟨⟨h_ga_BadDepot, h_gg_BadDepot, h_be_BadDepot, h_hd_BadDepot⟩, h_no_BadDepot_code⟩⟩
        · exact ⟨by decide, rfl, at1 M_BadBook ⟨⟨h_ga_BadBook, h_gg_BadBook, h_be_BadBook, h_hd_BadBook⟩, h_no_BadBook_code⟩⟩
        · exact ⟨by decide, rfl, at1 M_BadCrews ⟨⟨h_ga_BadCrews, h_gg_BadCrews, h_be_BadCrews, h_hd_BadCrews⟩, h_no_BadCrews_code⟩⟩),
    xf_at := (fun c j h => by
        have hm := lookup_mem h
        simp only [List.mem_cons, Prod.mk.injEq, List.not_mem_nil, or_false] at hm
        rcases hm with ⟨rfl, rfl⟩ | ⟨rfl, rfl⟩ | ⟨rfl, rfl⟩ | ⟨rfl, rfl⟩
        · exact ⟨by decide, rfl, at1 M_OutOfRange ⟨⟨h_ga_OutOfRange, h_gg_OutOfRange, h_be_OutOfRange, h_hd_OutOfRange⟩, h_no_OutOfRange_at⟩⟩
        · exact ⟨by decide, rfl, at1 M_BadDepot ⟨⟨h_ga_BadDepot, h_gg_BadDepot, h_be_BadDepot, h_hd_BadDepot⟩, h_no_BadDepot_at⟩⟩
        · exact ⟨by decide, rfl, at1 M_BadBook ⟨⟨h_ga_BadBook, h_gg_BadBook, h_be_BadBook, h_hd_BadBook⟩, h_no_BadBook_at⟩⟩
        · exact ⟨by decide, rfl, at1 M_BadCrews ⟨⟨h_ga_BadCrews, h_gg_BadCrews, h_be_BadCrews, h_hd_BadCrews⟩, h_no_BadCrews_at⟩⟩) }
  exact ⟨_, fun s v => .of_eq rfl, fun base _ _ => law_imp (ok_law T) pure_law⟩
end Pu
open PySem PySem.W PyProof.Rows
set_option maxRecDepth 100000 in
set_option maxHeartbeats 0 in
theorem PySem.Challenge.cw_outagain_k18_crews_seen_holds : PySem.Challenge.rw_outagain_k18_crews_seen.Holds := by
  w_on; o_law; k_head; (case hw => w_witness2)
  k_fill
  refine L2.walk_of (l := PySem.Challenge.rw_outagain_k18_crews_seen) (n := 63) (k := 9) (x := "script") (CX := fun w => L2.CX PySem.Challenge.rw_outagain_k18_crews_seen.prog w) (sp := fun w => Pu.spLaw _) rfl (by decide) rfl ⟨rfl, by decide, by decide⟩ (fun w h Y => PySem.W.kIn_of Y) ?F (fun _ _ a ns hl _ hS => ⟨a, ns, rfl, hS, hl, fun _ => rfl⟩) (fun w H s e s' => Pu.cx_none H s e s')
  case F =>
    intro w mg fa h KX G hmg
    refine' Pu.all_mk Pu.pure_law KX G hmg ?h_lk__law_take ?h_co__law_take ?h_kp__law_take ?h_ns__law_take ?h_lk__law_depot ?h_co__law_depot ?h_kp__law_depot ?h_ns__law_depot ?h_lk__law_changed ?h_co__law_changed ?h_kp__law_changed ?h_ns__law_changed ?h_lk__law_choose ?h_co__law_choose ?h_kp__law_choose ?h_ns__law_choose ?h_lk__law_great ?h_co__law_great ?h_kp__law_great ?h_ns__law_great ?h_lk__law_span ?h_co__law_span ?h_kp__law_span ?h_ns__law_span ?h_lk__law_gone ?h_co__law_gone ?h_kp__law_gone ?h_ns__law_gone ?h_lk__law_here ?h_co__law_here ?h_kp__law_here ?h_ns__law_here ?h_lk__law_book ?h_co__law_book ?h_kp__law_book ?h_ns__law_book ?h_lk__law_case ?h_co__law_case ?h_kp__law_case ?h_ns__law_case ?h_lk_check_period_and_quota ?h_co_check_period_and_quota ?h_kp_check_period_and_quota ?h_ns_check_period_and_quota ?h_lk_check_firsts ?h_co_check_firsts ?h_kp_check_firsts ?h_ns_check_firsts ?h_lk_DepotU_initU ?h_co_DepotU_initU ?h_kp_DepotU_initU ?h_mk_Depot ?h_ini_Depot ?h_fn_DepotU_initU ?h_kc_Depot ?h_lk__law_pool ?h_co__law_pool ?h_kp__law_pool ?h_ns__law_pool ?h_lk_ascending ?h_co_ascending ?h_kp_ascending ?h_ns_ascending ?h_lk_check_stretches ?h_co_check_stretches ?h_kp_check_stretches ?h_ns_check_stretches ?h_lk_join_neighbours ?h_co_join_neighbours ?h_kp_join_neighbours ?h_ns_join_neighbours ?h_lk_BookU_initU ?h_co_BookU_initU ?h_kp_BookU_initU ?h_mk_Book ?h_ini_Book ?h_fn_BookU_initU ?h_kc_Book ?h_lk_AfterU_initU ?h_co_AfterU_initU ?h_kp_AfterU_initU ?h_mk_After ?h_ini_After ?h_fn_AfterU_initU ?h_kc_After ?h_lk_Depot_size ?h_co_Depot_size ?h_kp_Depot_size ?h_at_Depot_size ?h_get_Depot_size ?h_tak_Depot_size ?h_rec_Depot_size ?h_lk_check_runners ?h_co_check_runners ?h_kp_check_runners ?h_ns_check_runners ?h_lk_long_runs ?h_co_long_runs ?h_kp_long_runs ?h_ns_long_runs ?h_lk_walk ?h_co_walk ?h_kp_walk ?h_ns_walk ?h_lk_check_days ?h_co_check_days ?h_kp_check_days ?h_ns_check_days ?h_lk_Depot_closings ?h_co_Depot_closings ?h_kp_Depot_closings ?h_at_Depot_closings ?h_fn_Depot_closings ?h_lk_crews_seen ?h_co_crews_seen ?h_kp_crews_seen ?h_ns_crews_seen ?h_lk__law_ask ?h_co__law_ask ?h_kp__law_ask ?h_ns__law_ask ?h_lk__law_number ?h_co__law_number ?h_kp__law_number ?h_ns__law_number ?h_lk__law_same ?h_co__law_same ?h_kp__law_same ?h_ns__law_same ?h_lk__law_joined ?h_co__law_joined ?h_kp__law_joined ?h_ns__law_joined ?h_lk__law_closings_in ?h_co__law_closings_in ?h_kp__law_closings_in ?h_ns__law_closings_in ?h_lk__law_due ?h_co__law_due ?h_kp__law_due ?h_ns__law_due ?h_lk_law ?h_co_law ?h_kp_law ?h_ns_law ?h_lk_BadDepotU_initU ?h_co_BadDepotU_initU ?h_kp_BadDepotU_initU ?h_lk_BadBookU_initU ?h_co_BadBookU_initU ?h_kp_BadBookU_initU ?h_lk_OutOfRangeU_initU ?h_co_OutOfRangeU_initU ?h_kp_OutOfRangeU_initU ?h_hn ?h_ht ?h_ns_Depot ?h_pg_Depot ?h_hd_Depot ?h_po_Depot ?h_sa_Depot ?h_no_Depot_period ?h_no_Depot_quota ?h_no_Depot_firsts ?h_ns_After ?h_pg_After ?h_hd_After ?h_po_After ?h_sa_After ?h_no_After_days ?h_no_After_passes ?h_no_After_longs ?h_no_After_nexts ?h_no_After__depot ?h_ns_Book ?h_pg_Book ?h_hd_Book ?h_po_Book ?h_sa_Book ?h_no_Book_stretches ?h_no_Book_days ?h_kt_Depot_NoneType ?h_kt_Depot_bool ?h_kt_Depot_int ?h_kt_Depot_str ?h_kt_Depot_list ?h_kt_Depot_tuple ?h_ko_Depot_Depot ?h_cl_Depot ?h_mro_Depot ?h_ko_After_Depot ?h_cl_After ?h_mro_After ?h_ko_Book_Depot ?h_cl_Book ?h_mro_Book ?h_kt_After_NoneType ?h_kt_After_bool ?h_kt_After_int ?h_kt_After_str ?h_kt_After_list ?h_kt_After_tuple ?h_ko_Depot_After ?h_ko_After_After ?h_ko_Book_After ?h_kt_Book_NoneType ?h_kt_Book_bool ?h_kt_Book_int ?h_kt_Book_str ?h_kt_Book_list ?h_kt_Book_tuple ?h_ko_Depot_Book ?h_ko_After_Book ?h_ko_Book_Book ?h_ns_OutagainError ?h_ns_OutOfRange ?h_ns_BadDepot ?h_ns_BadBook ?h_ns_BadCrews ?h_ns_NoBook ?h_xo_BadDepot ?h_ve_BadDepot ?h_sa_BadDepot ?h_kc_BadDepot ?h_ini_BadDepot ?h_tf_BadDepot ?h_no_BadDepot_at ?h_no_BadDepot_code ?h_be_BadDepot ?h_ty_BadDepot ?h_xo_BadBook ?h_ve_BadBook ?h_sa_BadBook ?h_kc_BadBook ?h_ini_BadBook ?h_tf_BadBook ?h_no_BadBook_at ?h_no_BadBook_code ?h_be_BadBook ?h_ty_BadBook ?h_xo_OutOfRange ?h_ve_OutOfRange ?h_sa_OutOfRange ?h_kc_OutOfRange ?h_ini_OutOfRange ?h_tf_OutOfRange ?h_no_OutOfRange_at ?h_no_OutOfRange_code ?h_be_OutOfRange ?h_ty_OutOfRange ?h_rd_Depot ?h_sga_Depot ?h_cv_Depot_MOST_PERIOD ?h_cv_Depot_MOST_DRIVERS ?h_g_MOST_QUOTA ?h_g_MOST_STRETCHES ?h_g_MOST_DAYS ?h_n_ValueError ?h_n_abs ?h_n_bool ?h_n_enumerate ?h_n_int ?h_n_isinstance ?h_n_len ?h_n_list ?h_n_min ?h_n_range ?h_n_set ?h_n_sorted ?h_n_str ?h_n_sum ?h_n_tuple ?h_sb_OutOfRange_BadBook ?h_hd_BadBook ?h_sb_BadDepot_BadBook ?h_sb_BadBook_BadBook ?h_sb_BadCrews_BadBook ?h_sb_NoBook_BadBook ?h_kx_OutOfRange_BadCrews ?h_ga_OutOfRange ?h_gg_OutOfRange ?h_cl_OutOfRange ?h_mro_OutOfRange ?h_hd_OutOfRange ?h_kx_BadDepot_BadCrews ?h_ga_BadDepot ?h_gg_BadDepot ?h_cl_BadDepot ?h_mro_BadDepot ?h_hd_BadDepot ?h_kx_BadBook_BadCrews ?h_ga_BadBook ?h_gg_BadBook ?h_cl_BadBook ?h_mro_BadBook ?h_kx_BadCrews_BadCrews ?h_ga_BadCrews ?h_gg_BadCrews ?h_cl_BadCrews ?h_mro_BadCrews ?h_be_BadCrews ?h_hd_BadCrews ?h_kx_NoBook_BadCrews ?h_ga_NoBook ?h_gg_NoBook ?h_cl_NoBook ?h_mro_NoBook ?h_be_NoBook ?h_hd_NoBook ?h_kx_OutOfRange_BadDepot ?h_kx_BadDepot_BadDepot ?h_kx_BadBook_BadDepot ?h_kx_BadCrews_BadDepot ?h_kx_NoBook_BadDepot ?h_kx_OutOfRange_NoBook ?h_kx_BadDepot_NoBook ?h_kx_BadBook_NoBook ?h_kx_BadCrews_NoBook ?h_kx_NoBook_NoBook ?h_kx_OutOfRange_OutOfRange ?h_kx_BadDepot_OutOfRange ?h_kx_BadBook_OutOfRange ?h_kx_BadCrews_OutOfRange ?h_kx_NoBook_OutOfRange ?h_kx_OutOfRange_OutagainError ?h_kx_BadDepot_OutagainError ?h_kx_BadBook_OutagainError ?h_kx_BadCrews_OutagainError ?h_kx_NoBook_OutagainError ?h_kx_OutOfRange_ValueError ?h_kx_BadDepot_ValueError ?h_kx_BadBook_ValueError ?h_kx_BadCrews_ValueError ?h_kx_NoBook_ValueError ?h_no_BadCrews_code ?h_no_BadCrews_at
    (case h_ns__law_take => k_is)
    (case h_ns__law_depot => k_is)
    (case h_ns__law_changed => k_is)
    (case h_ns__law_choose => k_is)
    (case h_ns__law_great => k_is)
    (case h_ns__law_span => k_is)
    (case h_ns__law_gone => k_is)
    (case h_ns__law_here => k_is)
    (case h_ns__law_book => k_is)
    (case h_ns__law_case => k_is)
    (case h_ns_check_period_and_quota => k_is)
    (case h_ns_check_firsts => k_is)
    (case h_ns__law_pool => k_is)
    (case h_ns_ascending => k_is)
    (case h_ns_check_stretches => k_is)
    (case h_ns_join_neighbours => k_is)
    (case h_ns_check_runners => k_is)
    (case h_ns_long_runs => k_is)
    (case h_ns_walk => k_is)
    (case h_ns_check_days => k_is)
    (case h_ns_crews_seen => k_is)
    (case h_ns__law_ask => k_is)
    (case h_ns__law_number => k_is)
    (case h_ns__law_same => k_is)
    (case h_ns__law_joined => k_is)
    (case h_ns__law_closings_in => k_is)
    (case h_ns__law_due => k_is)
    (case h_ns_law => k_is)
    (case h_ns_Depot => k_is)
    (case h_ns_After => k_is)
    (case h_ns_Book => k_is)
    (case h_ns_OutagainError => k_is)
    (case h_ns_OutOfRange => k_is)
    (case h_ns_BadDepot => k_is)
    (case h_ns_BadBook => k_is)
    (case h_ns_BadCrews => k_is)
    (case h_ns_NoBook => k_is)
    (case h_g_MOST_QUOTA => k_is)
    (case h_g_MOST_STRETCHES => k_is)
    (case h_g_MOST_DAYS => k_is)
    (case h_n_ValueError => k_is)
    (case h_n_abs => k_is)
    (case h_n_bool => k_is)
    (case h_n_enumerate => k_is)
    (case h_n_int => k_is)
    (case h_n_isinstance => k_is)
    (case h_n_len => k_is)
    (case h_n_list => k_is)
    (case h_n_min => k_is)
    (case h_n_range => k_is)
    (case h_n_set => k_is)
    (case h_n_sorted => k_is)
    (case h_n_str => k_is)
    (case h_n_sum => k_is)
    (case h_n_tuple => k_is)
    (case h_ini_Depot => k_is)
    (case h_ini_Book => k_is)
    (case h_ini_After => k_is)
    (case h_at_Depot_size => k_is)
    (case h_at_Depot_closings => k_is)
    (case h_ini_BadDepot => k_is)
    (case h_ini_BadBook => k_is)
    (case h_ini_OutOfRange => k_is)
    (case h_rec_Depot_size => k_is)
    (case h_lk__law_take => k_is)
    (case h_lk__law_depot => k_is)
    (case h_lk__law_changed => k_is)
    (case h_lk__law_choose => k_is)
    (case h_lk__law_great => k_is)
    (case h_lk__law_span => k_is)
    (case h_lk__law_gone => k_is)
    (case h_lk__law_here => k_is)
    (case h_lk__law_book => k_is)
    (case h_lk__law_case => k_is)
    (case h_lk_check_period_and_quota => k_is)
    (case h_lk_check_firsts => k_is)
    (case h_lk_DepotU_initU => k_is)
    (case h_lk__law_pool => k_is)
    (case h_lk_ascending => k_is)
    (case h_lk_check_stretches => k_is)
    (case h_lk_join_neighbours => k_is)
    (case h_lk_BookU_initU => k_is)
    (case h_lk_AfterU_initU => k_is)
    (case h_lk_Depot_size => k_is)
    (case h_lk_check_runners => k_is)
    (case h_lk_long_runs => k_is)
    (case h_lk_walk => k_is)
    (case h_lk_check_days => k_is)
    (case h_lk_Depot_closings => k_is)
    (case h_lk_crews_seen => k_is)
    (case h_lk__law_ask => k_is)
    (case h_lk__law_number => k_is)
    (case h_lk__law_same => k_is)
    (case h_lk__law_joined => k_is)
    (case h_lk__law_closings_in => k_is)
    (case h_lk__law_due => k_is)
    (case h_lk_law => k_is)
    (case h_lk_BadDepotU_initU => k_is)
    (case h_lk_BadBookU_initU => k_is)
    (case h_lk_OutOfRangeU_initU => k_is)
    (case h_xo_BadDepot => k_is)
    (case h_xo_BadBook => k_is)
    (case h_xo_OutOfRange => k_is)
    (case h_co__law_take => k_is)
    (case h_kp__law_take => k_is)
    (case h_co__law_depot => k_is)
    (case h_kp__law_depot => k_is)
    (case h_co__law_changed => k_is)
    (case h_kp__law_changed => k_is)
    (case h_co__law_choose => k_is)
    (case h_kp__law_choose => k_is)
    (case h_co__law_great => k_is)
    (case h_kp__law_great => k_is)
    (case h_co__law_span => k_is)
    (case h_kp__law_span => k_is)
    (case h_co__law_gone => k_is)
    (case h_kp__law_gone => k_is)
    (case h_co__law_here => k_is)
    (case h_kp__law_here => k_is)
    (case h_co__law_book => k_is)
    (case h_kp__law_book => k_is)
    (case h_co__law_case => k_is)
    (case h_kp__law_case => k_is)
    (case h_co_check_period_and_quota => k_is)
    (case h_kp_check_period_and_quota => k_is)
    (case h_co_check_firsts => k_is)
    (case h_kp_check_firsts => k_is)
    (case h_co_DepotU_initU => k_is)
    (case h_kp_DepotU_initU => k_is)
    (case h_mk_Depot => k_is)
    (case h_fn_DepotU_initU => k_is)
    (case h_kc_Depot => k_is)
    (case h_co__law_pool => k_is)
    (case h_kp__law_pool => k_is)
    (case h_co_ascending => k_is)
    (case h_kp_ascending => k_is)
    (case h_co_check_stretches => k_is)
    (case h_kp_check_stretches => k_is)
    (case h_co_join_neighbours => k_is)
    (case h_kp_join_neighbours => k_is)
    (case h_co_BookU_initU => k_is)
    (case h_kp_BookU_initU => k_is)
    (case h_mk_Book => k_is)
    (case h_fn_BookU_initU => k_is)
    (case h_kc_Book => k_is)
    (case h_co_AfterU_initU => k_is)
    (case h_kp_AfterU_initU => k_is)
    (case h_mk_After => k_is)
    (case h_fn_AfterU_initU => k_is)
    (case h_kc_After => k_is)
    (case h_co_Depot_size => k_is)
    (case h_kp_Depot_size => k_is)
    (case h_get_Depot_size => k_is)
    (case h_tak_Depot_size => k_is)
    (case h_co_check_runners => k_is)
    (case h_kp_check_runners => k_is)
    (case h_co_long_runs => k_is)
    (case h_kp_long_runs => k_is)
    (case h_co_walk => k_is)
    (case h_kp_walk => k_is)
    (case h_co_check_days => k_is)
    (case h_kp_check_days => k_is)
    (case h_co_Depot_closings => k_is)
    (case h_kp_Depot_closings => k_is)
    (case h_fn_Depot_closings => k_is)
    (case h_co_crews_seen => k_is)
    (case h_kp_crews_seen => k_is)
    (case h_co__law_ask => k_is)
    (case h_kp__law_ask => k_is)
    (case h_co__law_number => k_is)
    (case h_kp__law_number => k_is)
    (case h_co__law_same => k_is)
    (case h_kp__law_same => k_is)
    (case h_co__law_joined => k_is)
    (case h_kp__law_joined => k_is)
    (case h_co__law_closings_in => k_is)
    (case h_kp__law_closings_in => k_is)
    (case h_co__law_due => k_is)
    (case h_kp__law_due => k_is)
    (case h_co_law => k_is)
    (case h_kp_law => k_is)
    (case h_co_BadDepotU_initU => k_is)
    (case h_kp_BadDepotU_initU => k_is)
    (case h_co_BadBookU_initU => k_is)
    (case h_kp_BadBookU_initU => k_is)
    (case h_co_OutOfRangeU_initU => k_is)
    (case h_kp_OutOfRangeU_initU => k_is)
    (case h_hn => k_is)
    (case h_ht => k_is)
    (case h_pg_Depot => k_is)
    (case h_hd_Depot => k_is)
    (case h_po_Depot => k_is)
    (case h_sa_Depot => k_is)
    (case h_no_Depot_period => k_is)
    (case h_no_Depot_quota => k_is)
    (case h_no_Depot_firsts => k_is)
    (case h_pg_After => k_is)
    (case h_hd_After => k_is)
    (case h_po_After => k_is)
    (case h_sa_After => k_is)
    (case h_no_After_days => k_is)
    (case h_no_After_passes => k_is)
    (case h_no_After_longs => k_is)
    (case h_no_After_nexts => k_is)
    (case h_no_After__depot => k_is)
    (case h_pg_Book => k_is)
    (case h_hd_Book => k_is)
    (case h_po_Book => k_is)
    (case h_sa_Book => k_is)
    (case h_no_Book_stretches => k_is)
    (case h_no_Book_days => k_is)
    (case h_kt_Depot_NoneType => (first | k_is | kit_is))
    (case h_kt_Depot_bool => (first | k_is | kit_is))
    (case h_kt_Depot_int => (first | k_is | kit_is))
    (case h_kt_Depot_str => (first | k_is | kit_is))
    (case h_kt_Depot_list => (first | k_is | kit_is))
    (case h_kt_Depot_tuple => (first | k_is | kit_is))
    (case h_ko_Depot_Depot => (first | k_is | kit_is))
    (case h_cl_Depot => k_is)
    (case h_mro_Depot => k_is)
    (case h_ko_After_Depot => (first | k_is | kit_is))
    (case h_cl_After => k_is)
    (case h_mro_After => k_is)
    (case h_ko_Book_Depot => (first | k_is | kit_is))
    (case h_cl_Book => k_is)
    (case h_mro_Book => k_is)
    (case h_kt_After_NoneType => (first | k_is | kit_is))
    (case h_kt_After_bool => (first | k_is | kit_is))
    (case h_kt_After_int => (first | k_is | kit_is))
    (case h_kt_After_str => (first | k_is | kit_is))
    (case h_kt_After_list => (first | k_is | kit_is))
    (case h_kt_After_tuple => (first | k_is | kit_is))
    (case h_ko_Depot_After => (first | k_is | kit_is))
    (case h_ko_After_After => (first | k_is | kit_is))
    (case h_ko_Book_After => (first | k_is | kit_is))
    (case h_kt_Book_NoneType => (first | k_is | kit_is))
    (case h_kt_Book_bool => (first | k_is | kit_is))
    (case h_kt_Book_int => (first | k_is | kit_is))
    (case h_kt_Book_str => (first | k_is | kit_is))
    (case h_kt_Book_list => (first | k_is | kit_is))
    (case h_kt_Book_tuple => (first | k_is | kit_is))
    (case h_ko_Depot_Book => (first | k_is | kit_is))
    (case h_ko_After_Book => (first | k_is | kit_is))
    (case h_ko_Book_Book => (first | k_is | kit_is))
    (case h_ve_BadDepot => (first | decide +kernel | k_is))
    (case h_sa_BadDepot => k_is)
    (case h_kc_BadDepot => k_is)
    (case h_tf_BadDepot => k_is)
    (case h_no_BadDepot_at => k_is)
    (case h_no_BadDepot_code => k_is)
    (case h_be_BadDepot => k_is)
    (case h_ty_BadDepot => k_is)
    (case h_ve_BadBook => (first | decide +kernel | k_is))
    (case h_sa_BadBook => k_is)
    (case h_kc_BadBook => k_is)
    (case h_tf_BadBook => k_is)
    (case h_no_BadBook_at => k_is)
    (case h_no_BadBook_code => k_is)
    (case h_be_BadBook => k_is)
    (case h_ty_BadBook => k_is)
    (case h_ve_OutOfRange => (first | decide +kernel | k_is))
    (case h_sa_OutOfRange => k_is)
    (case h_kc_OutOfRange => k_is)
    (case h_tf_OutOfRange => k_is)
    (case h_no_OutOfRange_at => k_is)
    (case h_no_OutOfRange_code => k_is)
    (case h_be_OutOfRange => k_is)
    (case h_ty_OutOfRange => k_is)
    (case h_rd_Depot => k_is)
    (case h_sga_Depot => k_is)
    (case h_cv_Depot_MOST_PERIOD => k_is)
    (case h_cv_Depot_MOST_DRIVERS => k_is)
    (case h_sb_OutOfRange_BadBook => k_is)
    (case h_hd_BadBook => k_is)
    (case h_sb_BadDepot_BadBook => k_is)
    (case h_sb_BadBook_BadBook => k_is)
    (case h_sb_BadCrews_BadBook => k_is)
    (case h_sb_NoBook_BadBook => k_is)
    (case h_kx_OutOfRange_BadCrews => (first | k_is | kit_is))
    (case h_ga_OutOfRange => k_is)
    (case h_gg_OutOfRange => k_is)
    (case h_cl_OutOfRange => k_is)
    (case h_mro_OutOfRange => k_is)
    (case h_hd_OutOfRange => k_is)
    (case h_kx_BadDepot_BadCrews => (first | k_is | kit_is))
    (case h_ga_BadDepot => k_is)
    (case h_gg_BadDepot => k_is)
    (case h_cl_BadDepot => k_is)
    (case h_mro_BadDepot => k_is)
    (case h_hd_BadDepot => k_is)
    (case h_kx_BadBook_BadCrews => (first | k_is | kit_is))
    (case h_ga_BadBook => k_is)
    (case h_gg_BadBook => k_is)
    (case h_cl_BadBook => k_is)
    (case h_mro_BadBook => k_is)
    (case h_kx_BadCrews_BadCrews => (first | k_is | kit_is))
    (case h_ga_BadCrews => k_is)
    (case h_gg_BadCrews => k_is)
    (case h_cl_BadCrews => k_is)
    (case h_mro_BadCrews => k_is)
    (case h_be_BadCrews => k_is)
    (case h_hd_BadCrews => k_is)
    (case h_kx_NoBook_BadCrews => (first | k_is | kit_is))
    (case h_ga_NoBook => k_is)
    (case h_gg_NoBook => k_is)
    (case h_cl_NoBook => k_is)
    (case h_mro_NoBook => k_is)
    (case h_be_NoBook => k_is)
    (case h_hd_NoBook => k_is)
    (case h_kx_OutOfRange_BadDepot => (first | k_is | kit_is))
    (case h_kx_BadDepot_BadDepot => (first | k_is | kit_is))
    (case h_kx_BadBook_BadDepot => (first | k_is | kit_is))
    (case h_kx_BadCrews_BadDepot => (first | k_is | kit_is))
    (case h_kx_NoBook_BadDepot => (first | k_is | kit_is))
    (case h_kx_OutOfRange_NoBook => (first | k_is | kit_is))
    (case h_kx_BadDepot_NoBook => (first | k_is | kit_is))
    (case h_kx_BadBook_NoBook => (first | k_is | kit_is))
    (case h_kx_BadCrews_NoBook => (first | k_is | kit_is))
    (case h_kx_NoBook_NoBook => (first | k_is | kit_is))
    (case h_kx_OutOfRange_OutOfRange => (first | k_is | kit_is))
    (case h_kx_BadDepot_OutOfRange => (first | k_is | kit_is))
    (case h_kx_BadBook_OutOfRange => (first | k_is | kit_is))
    (case h_kx_BadCrews_OutOfRange => (first | k_is | kit_is))
    (case h_kx_NoBook_OutOfRange => (first | k_is | kit_is))
    (case h_kx_OutOfRange_OutagainError => (first | k_is | kit_is))
    (case h_kx_BadDepot_OutagainError => (first | k_is | kit_is))
    (case h_kx_BadBook_OutagainError => (first | k_is | kit_is))
    (case h_kx_BadCrews_OutagainError => (first | k_is | kit_is))
    (case h_kx_NoBook_OutagainError => (first | k_is | kit_is))
    (case h_kx_OutOfRange_ValueError => (first | k_is | kit_is))
    (case h_kx_BadDepot_ValueError => (first | k_is | kit_is))
    (case h_kx_BadBook_ValueError => (first | k_is | kit_is))
    (case h_kx_BadCrews_ValueError => (first | k_is | kit_is))
    (case h_kx_NoBook_ValueError => (first | k_is | kit_is))
    (case h_no_BadCrews_code => k_is)
    (case h_no_BadCrews_at => k_is)
